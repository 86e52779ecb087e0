/-
  P17.2: The last cells that were put, as many as there is room for, are there, with what was put last. Conditions: none.
-/
import Derived.Test.YteedlenelfidcaaCacAwk
import Derived.Test.YteedlenelfidcaaCacL
import Derived.Test.YteedlenelfidcaaCacSet
namespace Go.Proofs.Yteedlenelfidcaa.CacheLast
set_option maxRecDepth 100000
open Go.ChangeShapes Go.WideShapes Go.ChangeAt Go.RowKit Go.Deep Go.Proofs.Yteedlenelfidcaa.Mem Go.Proofs.Yteedlenelfidcaa.Cac

theorem en_nec (p q : En) (w : World) : (binOp .neq 38 p.v q.v).run Try.prog w = .ok (.bool (!decide (p = q))) w := by
  have h := en_cmp 38 (by kernel_rfl) (by kernel_rfl) ⟨_, _, _, _, rfl, rfl, rfl, rfl, rfl, rfl, rfl, rfl, rfl, by decide, by decide, by decide, by decide⟩ p q w
  show (binOp .neq 38 (.agg _) (.agg _)).run Try.prog w = _
  rw [run_neq_struct]
  unfold En.v at h
  rw [h]
  rfl
set_option maxHeartbeats 2000000 in
theorem walk (r : Nat) (A : Option Addr) (ks : List Int) (cap : Nat) (w : World) (hr : r ≤ 255) (h : U8s w A ks) (hks : ∀ k ∈ ks, 0 ≤ k ∧ k ≤ 255) (hl : ks.length ≤ 140737488351232) :
    Calls Try.prog 6 #[.int .u8 (r : Int), .slice A ks.length cap] w fun e w' => e = .returned (.bool true) ∧ Below w.heap.size w w' := by
  have HA := Lib.hid (awake_any w)
  have HU := Lib.hid h
  have HKS := Lib.hid hks
  obtain ⟨N, hN⟩ : ∃ n, ks.length = n := ⟨_, rfl⟩
  have HN := Lib.hid hN
  rw [hN] at hl ⊢
  obtain ⟨n, hn⟩ : ∃ n : Nat, n = 1 + r % 16 := ⟨_, rfl⟩
  have hn1 : 1 ≤ n := by omega
  have hn2 : n ≤ 16 := by omega
  have hw1 : IntKind.i64.wrap (r : Int) = (r : Int) := IntWalk.i64_in _ (by omega)
  have hw2 : IntKind.i64.wrap (1 + (r : Int) % 16) = (n : Int) := by rw [IntWalk.i64_in _ (by omega)]; omega
  clear h hks hN hn
  by_cases hbig : 60 < N
  · have e1 : decide ((N : Int) > 60) = true := by simp; omega
    go_enter Try.func6, Try.ntmps6
    go_wp2_with fail
    refine HA.out.mono ?_
    rintro e w1 ⟨rfl, hb1⟩
    go_wp2_with fail
    go_returns
    exact ⟨rfl, hb1⟩
  · have e1 : decide ((N : Int) > 60) = false := by simp; omega
    go_enter Try.func6, Try.ntmps6
    go_wp2_with fail
    refine HA.out.mono ?_
    rintro e w1 ⟨rfl, hb1⟩
    have HB1 := Lib.hid hb1
    clear hb1 HA
    have HNW := Lib.hid (New_any w1 (n : Int) (by omega) (by omega))
    obtain ⟨B, hB⟩ : ∃ B, w1.heap.size = B := ⟨_, rfl⟩
    have HBE := Lib.hid hB
    rw [hB] at HNW
    clear hB
    go_wp2_with fail
    refine HNW.out.mono ?_
    rintro e w2 ⟨rfl, h2, hb2⟩
    have HC2 : Hid (∃ A' c', CcAt B w2 B (lastC n []) A' c') := Lib.hid ⟨none, 0, by rw [show lastC n [] = ⟨(n : Int), []⟩ from by unfold lastC revL newL; simp]; exact h2⟩
    have HB2 := Lib.hid hb2
    have HS2 : Hid (B ≤ w2.heap.size) := Lib.hid (Nat.le_trans (Nat.le_of_eq HBE.out.symm) hb2.size)
    have HNL : Hid (1 ≤ n ∧ n ≤ 16) := Lib.hid ⟨hn1, hn2⟩
    have HUB : Hid (∀ ii, ii < N → ∃ b off k, A = some ⟨b, off, none⟩ ∧ 0 ≤ k ∧ k ≤ 255 ∧ ks[ii]? = some k ∧ ∀ wi, Below B w1 wi → wi.cell? ⟨b, off + ii, none⟩ = some (.int .u8 k)) := Lib.hid fun ii hii => by
      have hlt : ii < ks.length := by rw [HN.out]; exact hii
      obtain ⟨b, off, e1, e2⟩ := (HU.out.later HB1.out) ii hlt
      refine ⟨b, off, ks[ii], e1, (HKS.out _ (List.getElem_mem hlt)).1, (HKS.out _ (List.getElem_mem hlt)).2, List.getElem?_eq_getElem hlt, fun wi hb => ?_⟩
      have hb' : Below w1.heap.size w1 wi := by rw [HBE.out]; exact hb
      exact (hb'.cell (block_of_cell e2)).trans e2
    clear h2 hb2 HNW hn1 hn2
    go_wp2_with fail
    go_loopw [8, 9, 33] (fun _ _ i wr => ∃ ii : Nat, ii ≤ N ∧ i = .int .i64 (ii : Int) ∧ Hid (∃ A' c', CcAt B wr B (lastC n (ks.take ii).reverse) A' c') ∧ Hid (Below B w1 wr) ∧ Hid (B ≤ wr.heap.size)) (fun _ _ i _ => N - (intOf i).toNat)
    case atStart => exact ⟨0, Nat.zero_le _, rfl, HC2, HB2, HS2⟩
    case round =>
      clear HC2 HB2 HS2
      obtain ⟨ii, hii, rfl, HC, HB, HS⟩ := hrel
      by_cases hlt : ii < N
      · have hub := HUB.out ii hlt
        obtain ⟨b, off, k, rfl, hk0, hk1, hki, hcell⟩ := hub
        have x0 := hcell wr HB.out
        have hw3 : IntKind.i64.wrap k = k := IntWalk.i64_in _ (by omega)
        have hC := HC.out
        obtain ⟨A', c', hc⟩ := hC
        have htk : ks.take (ii + 1) = ks.take ii ++ [k] := by
          obtain ⟨h1, h2⟩ := List.getElem?_eq_some_iff.1 hki
          rw [List.take_succ_eq_append_getElem h1, h2]
        have hln : (ks.take ii).reverse.length = ii := by rw [List.length_reverse, List.length_take]; have := HN.out; omega
        have hpt := lastC_put n HNL.out.1 (ks.take ii).reverse k
        rw [hln, ← List.reverse_concat, ← htk] at hpt
        have hps : putsE (lastC n (ks.take ii).reverse) [lastE ii k] = (1, lastC n (ks.take (ii + 1)).reverse) := by
          show (b1 (putE _ _).1 + 0, (putE _ _).2) = _
          rw [hpt]
          rfl
        have HP := Lib.hid (PutNew_any [lastE ii k] #[.int .i64 k, .int .i64 (ii : Int), .int .i64 (ii : Int), .int .i64 0] rfl hc HS.out (lastC_ok HNL.out.1 HNL.out.2 _) (by simp))
        rw [hps] at HP
        have HCC := Lib.hid hc
        clear hcell hc htk hln hpt hps hki HC
        go_wp2_with fail
        refine (show Calls Try.prog 11 #[.pointer (some ⟨B, 0, none⟩), .slice (some ⟨wr.heap.size, 0, none⟩) 1 1] _ _ from HP.out).mono ?_
        rintro e w3 ⟨rfl, hst⟩
        have HB3 := Lib.hid (HB.out.trans (CxStep.below hst HCC.out HS.out))
        have HS3 := Lib.hid (Nat.le_trans HS.out (CxStep.below hst HCC.out HS.out).size)
        have HC3 : Hid (∃ A' c', CcAt B w3 B (lastC n (ks.take (ii + 1)).reverse) A' c') := Lib.hid (by obtain ⟨A2, c2, h1, _⟩ := hst; exact ⟨A2, c2, h1⟩)
        clear hst x0 HP HCC HB HS
        go_wp2_with fail
        go_roundw
        case rel => exact ⟨ii + 1, by omega, by go_num, HC3, HB3, HS3⟩
        case measure => simp [intOf]; omega
      · obtain rfl : ii = N := by omega
        have HCF : Hid (∃ A' c', CcAt B wr B (lastC n ks.reverse) A' c') := Lib.hid (by
          have h1 := HC.out
          rw [List.take_of_length_le (by rw [HN.out]; exact Nat.le_refl _)] at h1
          exact h1)
        obtain ⟨wo, hwo⟩ : ∃ W, wr = W := ⟨_, rfl⟩
        subst hwo
        obtain ⟨wm, hwm⟩ : ∃ W, W = wr.alloc (.map #[] 0) := ⟨_, rfl⟩
        have hbm : Below wr.heap.size wr wm := by rw [hwm]; exact below_alloc _ _
        have hsm : Set_ wm wr.heap.size [] := by rw [hwm]; exact set_made wr 0
        obtain ⟨m, hm⟩ : ∃ m, wr.heap.size = m := ⟨_, rfl⟩
        have HMB : Hid (B ≤ m) := Lib.hid (by rw [← hm]; exact HS.out)
        rw [hm] at hsm
        have HSM := Lib.hid hsm
        have HCM : Hid (∃ A' c', CcAt B wm B (lastC n ks.reverse) A' c' ∧ ∀ k, cfoot B A' k → k ≠ m) := Lib.hid (by
          obtain ⟨A', c', h1⟩ := HCF.out
          exact ⟨A', c', h1.later hbm, fun k e e2 => by have := (h1.lt e).2; omega⟩)
        have HBM := Lib.hid (HB.out.trans (hbm.mono HS.out))
        have HSS := Lib.hid (Nat.le_trans HS.out hbm.size)
        clear hbm hsm HC HB HS HCF
        have hmm := @run_makeMap Try.prog
        go_upto_region 16 with (fail)
        rw [← hwm]
        clear hwm hmm hm
        have HKS2 : Hid (∀ j, j < ii → ∃ b off k, A = some ⟨b, off, none⟩ ∧ 0 ≤ k ∧ k ≤ 255 ∧ ks.drop (ii - (j + 1)) = k :: ks.drop (ii - j) ∧ (ks.take (ii - (j + 1))).length = ii - (j + 1) ∧ ks.take (ii - (j + 1)) ++ k :: ks.drop (ii - j) = ks ∧ ∀ wi, Below B w1 wi → wi.cell? ⟨b, off + (ii - (j + 1)), none⟩ = some (.int .u8 k)) := Lib.hid fun j hj => by
          obtain ⟨b, off, k, e1, e2, e3, e4, e5⟩ := HUB.out (ii - (j + 1)) (by omega)
          obtain ⟨h1, h2⟩ := List.getElem?_eq_some_iff.1 e4
          have hd : ks.drop (ii - (j + 1)) = k :: ks.drop (ii - j) := by
            rw [List.drop_eq_getElem_cons h1, h2, show ii - (j + 1) + 1 = ii - j from by omega]
          exact ⟨b, off, k, e1, e2, e3, hd, by rw [List.length_take]; omega, by rw [← hd, List.take_append_drop], e5⟩
        have hw4 : IntKind.i64.wrap ((ii : Int) - 1) = (ii : Int) - 1 := IntWalk.i64_in _ (by omega)
        go_wp2_with fail
        go_loopw [11, 12, 13, 14] (fun i _ _ _ wr => ∃ j : Nat, j ≤ ii ∧ i = .int .i64 ((ii : Int) - 1 - (j : Int)) ∧ Hid (Set_ wr m (kinds (ks.drop (ii - j)))) ∧ Hid (∃ A' c', CcAt B wr B (lastC n ks.reverse) A' c' ∧ ∀ k, cfoot B A' k → k ≠ m) ∧ Hid (Below B w1 wr) ∧ Hid (B ≤ wr.heap.size)) (fun i _ _ _ _ => (intOf i + 1).toNat)
        case atStart => exact ⟨0, Nat.zero_le _, by simp, Lib.hid (by rw [Nat.sub_zero, List.drop_of_length_le (by rw [HN.out]; exact Nat.le_refl _)]; exact HSM.out), HCM, HBM, HSS⟩
        case round =>
          clear HSM HCM HBM HSS
          obtain ⟨j, hj, rfl, HST, HCC, HB, HS⟩ := hrel
          by_cases hlt : j < ii
          · obtain ⟨b, off, k, rfl, hk0, hk1, hdr, htl, hap, hcell⟩ := HKS2.out j hlt
            have hidx : (ii : Int) - 1 - (j : Int) = ((ii - (j + 1) : Nat) : Int) := by omega
            rw [hidx]
            obtain ⟨q, hq⟩ : ∃ q, ii - (j + 1) = q := ⟨_, rfl⟩
            have HQ := Lib.hid hq
            rw [hq] at hdr htl hap hcell ⊢
            have x0 := hcell wr HB.out
            have hqi : q < ii := by omega
            have hq60 : q ≤ 60 := by omega
            have hw3 : IntKind.i64.wrap k = k := IntWalk.i64_in _ (by omega)
            obtain ⟨T, hT⟩ : ∃ T, ks.drop (ii - j) = T := ⟨_, rfl⟩
            rw [hT] at HST hdr hap
            have HT := Lib.hid hT
            have HDR := Lib.hid hdr
            have hC := HCC.out
            obtain ⟨A', c', hc, hcm⟩ := hC
            have HPK := Lib.hid (Peek_any hc k)
            have hfind : k ∉ T → findE k (lastC n ks.reverse).l = if (kinds T).length < n then some (lastE q k) else none := fun hk => by
              have h1 := lastC_find n T.reverse (ks.take q).reverse k (by rwa [List.mem_reverse])
              rw [List.reverse_reverse, List.length_reverse, htl] at h1
              have hrev : ks.reverse = T.reverse ++ k :: (ks.take q).reverse := by
                conv => lhs; rw [← hap, List.reverse_append, List.reverse_cons, List.append_assoc]
                rfl
              rw [hrev]
              exact h1
            have HF := Lib.hid hfind
            have HCM2 := Lib.hid hcm
            have HC2 := Lib.hid hc
            obtain ⟨ex, hex⟩ : ∃ ex, getD0 k (lastC n ks.reverse).l = ex := ⟨_, rfl⟩
            obtain ⟨ok, hok⟩ : ∃ ok, hasE k (lastC n ks.reverse).l = ok := ⟨_, rfl⟩
            rw [hex, hok] at HPK
            have HEX := Lib.hid hex
            have HOK := Lib.hid hok
            unfold En.v at HPK
            clear hdr htl hap hcell hT hc hcm hfind hex hok HCC hq hidx
            go_wp2_with fail
            refine HPK.out.mono ?_
            rintro e w3 ⟨rfl, hb3⟩
            obtain ⟨w4, hw4'⟩ : ∃ W, W = w3.alloc (.cells #[.int .i64 ex.cell, .int .i64 ex.ver, .int .i64 ex.val, .int .i64 ex.frm] 38) := ⟨_, rfl⟩
            have hb4 : Below w3.heap.size w3 w4 := by rw [hw4']; exact below_alloc _ _
            have hc4 : Cells w4 w3.heap.size 38 ex.vals := by rw [hw4']; exact cells_new _ _ _ _ rfl
            have hb34 := hb3.trans (hb4.mono hb3.size)
            have HST4 := Lib.hid (HST.out.later hb34)
            have HC4 := Lib.hid (HC2.out.later hb34)
            have HB4 := Lib.hid (HB.out.trans (hb34.mono HS.out))
            have HS4 := Lib.hid (Nat.le_trans HS.out hb34.size)
            have y0 := hc4.cell (j := 0) rfl
            have y1 := hc4.cell (j := 1) rfl
            have y2 := hc4.cell (j := 2) rfl
            have y3 := hc4.cell (j := 3) rfl
            clear hb3 hb4 hc4 hb34 x0 HPK HST HC2 HB HS
            go_upto_region 21 with (fail)
            rw [← hw4']
            clear hw4'
            have hlook := HST4.out.look (n := k) (by omega) (by omega)
            have hw5 : IntKind.i64.wrap ((q : Int) - 1) = (q : Int) - 1 := IntWalk.i64_in _ (by omega)
            by_cases hkT : k ∈ T
            · have hkin : k ∈ kinds T := kinds_mem.2 hkT
              rw [decide_eq_true hkin] at hlook
              have HSN : Hid (Set_ w4 m (kinds (ks.drop (ii - (j + 1))))) := Lib.hid (by
                rw [HQ.out, HDR.out]
                unfold kinds
                rw [if_pos hkT]
                exact HST4.out)
              clear hkT hkin
              go_wp2_with fail
              go_roundw
              case rel => exact ⟨j + 1, by omega, congrArg (Value.int .i64) (by have := HQ.out; omega), HSN, Lib.hid ⟨_, _, HC4.out, HCM2.out⟩, HB4, HS4⟩
              case measure => simp [intOf] <;> omega
            · have hkin : k ∉ kinds T := fun e => hkT (kinds_mem.1 e)
              rw [decide_eq_false hkin] at hlook
              have hlen := HST4.out.len
              obtain ⟨s, hs⟩ : ∃ s, (kinds T).length = s := ⟨_, rfl⟩
              rw [hs] at hlen
              obtain ⟨w5, hst, hset, hon⟩ := HST4.out.store (n := k) (by omega) (by omega) hkin
              have HSN : Hid (Set_ w5 m (kinds (ks.drop (ii - (j + 1))))) := Lib.hid (by
                rw [HQ.out, HDR.out]
                unfold kinds
                rw [if_neg hkT]
                exact hset)
              have HC5 : Hid (∃ A' c', CcAt B w5 B (lastC n ks.reverse) A' c' ∧ ∀ k, cfoot B A' k → k ≠ m) := Lib.hid ⟨_, _, HC4.out.only hon (fun e => HCM2.out _ (Or.inl rfl) e) (fun k hk e => HCM2.out k (Or.inr (by rw [own_blk] at hk; exact hk.symm)) e), HCM2.out⟩
              have HB5 := Lib.hid (HB4.out.trans (hon.below (B := B) HS4.out fun i e => by rw [e]; exact HMB.out))
              have HS5 := Lib.hid (Nat.le_trans HS4.out hon.size)
              have hfd := HF.out hkT
              rw [hs] at hfd
              clear hkT hkin hset hon
              by_cases hsn : s < n
              · rw [if_pos hsn] at hfd
                obtain rfl : ex = lastE q k := by rw [← HEX.out]; unfold getD0; rw [hfd]; rfl
                obtain rfl : ok = true := by rw [← HOK.out]; unfold hasE; rw [hfd]; rfl
                have e5 : decide ((s : Int) < (n : Int)) = true := by simp; omega
                have hne : ∀ W, (binOp .neq 38 (.agg #[.int .i64 k, .int .i64 (q : Int), .int .i64 (q : Int), .int .i64 0]) (.agg #[.int .i64 k, .int .i64 (q : Int), .int .i64 (q : Int), .int .i64 0])).run Try.prog W = .ok (.bool false) W := fun W => by
                  have h1 := en_nec (lastE q k) (lastE q k) W
                  rw [decide_eq_true rfl] at h1
                  exact h1
                clear hfd
                unfold lastE at y0 y1 y2 y3 ⊢
                dsimp only at y0 y1 y2 y3 ⊢
                go_wp2_with fail
                go_roundw
                case rel => exact ⟨j + 1, by omega, congrArg (Value.int .i64) (by have := HQ.out; omega), HSN, HC5, HB5, HS5⟩
                case measure => simp [intOf] <;> omega
              · rw [if_neg hsn] at hfd
                obtain rfl : ok = false := by rw [← HOK.out]; unfold hasE; rw [hfd]; rfl
                have e5 : decide ((s : Int) < (n : Int)) = false := by simp; omega
                clear hfd
                go_wp2_with fail
                go_roundw
                case rel => exact ⟨j + 1, by omega, congrArg (Value.int .i64) (by have := HQ.out; omega), HSN, HC5, HB5, HS5⟩
                case measure => simp [intOf] <;> omega
          · obtain rfl : j = ii := by omega
            have hi : (j : Int) - 1 - (j : Int) = -1 := by omega
            rw [hi]
            have hlen := HST.out.len
            rw [Nat.sub_self, List.drop_zero] at hlen
            have hC := HCC.out
            obtain ⟨A', c', hc, _⟩ := hC
            have HAL := Lib.hid (All_any hc)
            have hll := lastC_len n ks.reverse
            rw [List.reverse_reverse] at hll
            obtain ⟨s, hs⟩ : ∃ s, (kinds ks).length = s := ⟨_, rfl⟩
            rw [hs] at hll hlen
            rw [hll] at HAL
            have HLEN : Hid (∀ wi, Below wr.heap.size wr wi → (Builtin.len_ #[57] 3 #[.map (some m)]).run Try.prog wi = .ok (.int .i64 (s : Int)) wi) := Lib.hid fun wi hb => by
              have h1 := (HST.out.later hb).len
              rw [Nat.sub_self, List.drop_zero, hs] at h1
              exact h1
            clear hi hc hll hs hlen
            go_wp2_with fail
            refine HAL.out.mono ?_
            rintro e w3 ⟨A2, c2, rfl, _, hb3⟩
            have hlen := HLEN.out w3 hb3
            have HB3 := Lib.hid (HB.out.trans (hb3.mono HS.out))
            clear hb3
            by_cases hns : n ≤ s
            · have hns2 : (n : Int) ≤ (s : Int) := by omega
              have hz : min n s = n := Nat.min_eq_left hns
              rw [hz]
              clear hz
              go_wp2_with fail
              all_goals first | (go_returns; exact ⟨by simp, HB1.out.trans (HB3.out.mono (by rw [← HBE.out]; exact HB1.out.size))⟩) | (exfalso; omega)
            · have hns2 : ¬ (n : Int) ≤ (s : Int) := by omega
              have hz : min n s = s := Nat.min_eq_right (by omega)
              rw [hz]
              clear hz
              go_wp2_with fail
              all_goals first | (go_returns; exact ⟨by simp, HB1.out.trans (HB3.out.mono (by rw [← HBE.out]; exact HB1.out.size))⟩) | (exfalso; omega)
theorem opened {H : Type} {enc : TypeId × Value → H} {W : World} {base : Nat} {gs : List (DataW H)} (v0 : Value) (d0 : DataW H) (p0 : List MemPlace) (v1 : Value) (d1 : DataW H) (p1 : List MemPlace)
    (o0 : Value.okWide Try.prog W .any base 5 v0) (t0 : DataW.Trod enc Try.prog W 0 (fun _ => true) true 5 v0 d0 p0)
    (o1 : Value.okWide Try.prog W .any base 56 v1) (t1 : DataW.Trod enc Try.prog W 0 (fun _ => true) true 56 v1 d1 p1)
    (hsz : (DataW.weightsEach Try.prog ([5, 56] ++ []) ([d0, d1] ++ gs)).all (· ≤ reachBytes) = true) :
    Calls Try.prog 6 #[v0, v1] W fun e W' => e = .returned (.bool true) ∧ Below W.heap.size W W' := by
  obtain ⟨n, rfl, h1, h2⟩ := arg_u8 o0 t0
  obtain ⟨A, ks, cap, rfl, h3, h4, _, _, h5⟩ := arg_bytes o1 t1 (Base.small_of hsz (j := 1) rfl rfl)
  obtain ⟨r, rfl⟩ : ∃ r : Nat, n = (r : Int) := ⟨n.toNat, by omega⟩
  exact walk r A ks cap W (by omega) h3 h4 h5

theorem contract (H : Type) (enc : TypeId × Value → H) (W : World) (base : Nat) (args : Array Value) (ds gs : List (DataW H)) (before : List MemPlace)
    (hval : ∀ (j : Nat) t v, Try.f6.params[j]? = some t → args[j]? = some v → Value.okWide Try.prog W .any base t v)
    (hW : DataW.Whole enc Try.prog Try.f6.params.toList Rows.cacheLastSpec.vars false W args.toList ds gs before)
    (hsz : (DataW.weightsEach Try.prog (Try.f6.params.toList ++ []) (ds ++ gs)).all (· ≤ reachBytes) = true) :
    Calls Try.prog 6 args W fun e W' => ∃ v, e = .returned v ∧ Rows.cacheLastSpec.post enc Try.prog Try.f6 false true false false W args v W' := by
  have hW0 := hW
  obtain ⟨p, q, hA0, hV, rfl, _, _⟩ := hW
  have hA : DataW.TrodAll enc Try.prog W 0 (fun _ => true) true Try.f6.params.toList args.toList ds p := hA0
  rw [Try.params6] at hA hval hsz
  obtain ⟨v0, vs0, d0, ds0, p0, q0, hargs, rfl, rfl, h0, r0⟩ := trodAll_cons hA
  obtain ⟨v1, vs1, d1, ds1, p1, q1, rfl, rfl, rfl, h1, r1⟩ := trodAll_cons r0
  obtain ⟨rfl, rfl, rfl⟩ := trodAll_nil r1
  obtain rfl : args = #[v0, v1] := by cases args; simp_all
  refine (opened v0 d0 p0 v1 d1 p1 (hval 0 5 v0 rfl rfl) h0 (hval 1 56 v1 rfl rfl) h1 hsz).mono fun e W' ⟨he, hb⟩ => ⟨_, he, ?_⟩
  exact Base.law_post (tb := 4) Base.laidOut (by kernel_rfl) rfl Try.underlying4 rfl (fun l hl => by
    rw [Try.params6] at hl
    match l, hl with
    | [_, _], _ => rfl) (by rw [Try.params6]; rfl) hW0 hb

theorem laid_met (os : Os) : laidMet Try.prog Rows.cacheLastRow.laid ((Base.plainWorld os).forCall (fun _ _ => 0) ⟨#[], #[.int .u8 0, .slice none 0 0], []⟩).memory := laidMet_nil _ _
theorem reads (os : Os) {H : Type} (enc : TypeId × Value → H) : ∃ places, DataW.whole enc Try.prog ((Base.plainWorld os).forCall (fun _ _ => 0) ⟨#[], #[.int .u8 0, .slice none 0 0], []⟩).memory Try.f6.params.toList Rows.cacheLastSpec.vars false (#[.int .u8 0, .slice none 0 0] : Array Value).toList 8 = some ([.lit (.int .u8 0), .nil], [], places) :=
  ⟨[], by kernel_rfl⟩

set_option maxRecDepth 100000 in
theorem lifted (os : Os) (started : os.Started) (H : Type) (enc : TypeId × Value → H) (F : Stop.Interp) :
    ReturnsInHanded {} Try.checked os 6 .any ((OpenSpec.ofChange Rows.cacheLastSpec).preRow enc Try.prog Try.f6 Rows.cacheLastRow.domain false Rows.cacheLastRow.laid) (((OpenSpec.ofChange Rows.cacheLastSpec).at F).post enc Try.prog Try.f6 false true false false) := by
  obtain ⟨places, hx⟩ := reads os enc
  refine returnsInHanded_of_row (C := Try.checked) (s := OpenSpec.ofChange Rows.cacheLastSpec) Base.own started (by kernel_rfl) Try.func6
    (witness_row_at (enc := enc) (C := Try.checked) false (Base.plainWorld os) #[.int .u8 0, .slice none 0 0] rfl (by kernel_rfl) (by kernel_rfl) (by kernel_rfl)
      (OpenSpec.preRow_of_cond 8 hx (by kernel_rfl) (fun k hk => by cases hk) (by kernel_rfl) (laid_met os))) ?_
  intro W base args ds gs before hval hW _ _ hsz _ _ _
  exact contract H enc W base args ds gs before hval hW hsz

theorem said : Rows.CacheLastSaid :=
  OpenClaim.holds_of_cond 6 Try.f6 rfl rfl rfl rfl rfl rfl rfl ⟨rfl, rfl, rfl, rfl, rfl⟩ rfl rfl rfl rfl rfl (by kernel_rfl) Try.func6 (by kernel_rfl)
    (of_decide_eq_true (by kernel_rfl)) (by unfold Func.isWrapper; rw [if_neg (of_decide_eq_false (by kernel_rfl))]; exact ⟨rfl, rfl⟩)
    (fun os started H enc _ F => by rw [OpenClaim.pre_eq_preRow]; exact lifted os started H enc F)
#print axioms said
end Go.Proofs.Yteedlenelfidcaa.CacheLast
