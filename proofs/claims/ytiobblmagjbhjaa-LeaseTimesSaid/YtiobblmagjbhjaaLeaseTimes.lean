/-
  P18.1: What is held till some time is held at all times ahead of it, and at none from it on, however time goes on. Conditions: none.
-/
import Derived.Test.YtiobblmagjbhjaaLeaAwk
namespace Go.Proofs.Ytiobblmagjbhjaa.LeaseTimes
set_option maxRecDepth 100000
open Go.ChangeShapes Go.WideShapes Go.ChangeAt Go.RowKit Go.Deep Go.Proofs.Ytiobblmagjbhjaa.Mem Go.Proofs.Ytiobblmagjbhjaa.Lea

/-- What a cell's slot is, when all is let go up to a time. -/
def upT (us : List Int) (lim : Int) (c : Nat) : Sv := if lim < us.getD c (-1) then ⟨⟨0, 0, (c : Int) + 1⟩, us.getD c (-1), true⟩ else sv0
def stT (us : List Int) (n : Nat) (lim : Int) : List Sv := (List.range n).map (upT us lim)
theorem stT_len (us : List Int) (n : Nat) (lim : Int) : (stT us n lim).length = n := by unfold stT; rw [List.length_map, List.length_range]
theorem stT_get (us : List Int) (n : Nat) (lim : Int) {i : Nat} (h : i < (stT us n lim).length) : (stT us n lim)[i]'h = upT us lim i := by simp [stT]
theorem stT_at (us : List Int) (n : Nat) (lim : Int) {c : Nat} (h : c < n) : ofT (stT us n lim) (c : Int) = upT us lim c := by
  rw [ofT_nat (by rw [stT_len]; exact h), stT_get]
theorem stT_new (n : Nat) : stT [] n (-1) = List.replicate n sv0 := by
  apply List.ext_getElem
  · rw [stT_len, List.length_replicate]
  · intro i h1 h2
    rw [stT_get, List.getElem_replicate]
    rfl
theorem getD_take (us : List Int) {k : Nat} (hk : k < us.length) (c : Nat) (hc : c ≠ k) : (us.take (k + 1)).getD c (-1) = (us.take k).getD c (-1) := by
  rw [List.getD_eq_getElem?_getD, List.getD_eq_getElem?_getD, List.take_succ_eq_append_getElem hk, List.getElem?_append]
  split
  · rfl
  · rename_i h
    rw [List.length_take, Nat.min_eq_left (Nat.le_of_lt hk)] at h ⊢
    rw [List.getElem?_eq_none (by simp; omega), List.getElem?_eq_none (by simp; omega)]
theorem getD_none (us : List Int) {k : Nat} (hk : us.length ≤ k) : us.getD k (-1) = -1 := by
  rw [List.getD_eq_getElem?_getD, List.getElem?_eq_none hk]
  rfl
theorem getD_some (us : List Int) {k : Nat} (hk : k < us.length) : us.getD k (-1) = us[k] := by
  rw [List.getD_eq_getElem?_getD, List.getElem?_eq_getElem hk]
  rfl
theorem fill_far {us : List Int} {n k : Nat} (hk : k < us.length) (hn : n ≤ k) : stT (us.take (k + 1)) n (-1) = stT (us.take k) n (-1) := by
  unfold stT
  refine List.map_congr_left fun c hc => ?_
  unfold upT
  rw [getD_take us hk c (by have := List.mem_range.1 hc; omega)]
theorem fill_next {us : List Int} {n k : Nat} (hk : k < us.length) (hn : k < n) (h0 : 0 ≤ us[k]) :
    errT (stT (us.take k) n (-1)) ⟨0, 0, (k : Int) + 1⟩ [(k : Int)] = 0 ∧ holdT (stT (us.take k) n (-1)) ⟨0, 0, (k : Int) + 1⟩ us[k] [(k : Int)] = stT (us.take (k + 1)) n (-1) := by
  have h1 : ofT (stT (us.take k) n (-1)) (k : Int) = sv0 := by
    rw [stT_at _ _ _ hn]
    unfold upT
    rw [getD_none _ (by rw [List.length_take]; omega)]
    rfl
  have h2 : errT (stT (us.take k) n (-1)) ⟨0, 0, (k : Int) + 1⟩ [(k : Int)] = 0 := by
    unfold errT hasT mayL
    rw [List.all_cons, List.all_nil, stT_len, nat_inT hn, List.all_cons, List.all_nil, h1]
    rfl
  refine ⟨h2, ?_⟩
  unfold holdT
  rw [if_pos h2]
  show set1 _ _ _ _ = _
  unfold set1
  rw [h1, Int.toNat_natCast]
  apply List.ext_getElem
  · rw [List.length_set, stT_len, stT_len]
  · intro i p1 p2
    rw [stT_len] at p2
    rw [List.getElem_set]
    by_cases e : k = i
    · subst e
      rw [if_pos rfl, stT_get]
      have e2 : (us.take (k + 1)).getD k (-1) = us[k] := by
        rw [getD_some _ (by rw [List.length_take]; omega), List.getElem_take]
      unfold upT
      rw [e2, if_pos (by omega)]
      rfl
    · rw [if_neg e, stT_get, stT_get]
      unfold upT
      rw [getD_take us hk i (by omega)]
theorem drop_st (us : List Int) (n : Nat) {lim now : Int} (h : lim ≤ now) : dropT (byTime now) (stT us n lim) = stT us n now := by
  unfold dropT stT
  rw [List.map_map]
  refine List.map_congr_left fun c _ => ?_
  show dropS (byTime now) (upT us lim c) = upT us now c
  unfold upT dropS byTime
  by_cases h1 : lim < us.getD c (-1)
  · rw [if_pos h1]
    by_cases h2 : now < us.getD c (-1)
    · rw [if_pos h2, if_neg]
      dsimp only
      rw [decide_eq_false (by omega)]
      exact Bool.false_ne_true
    · rw [if_neg h2, if_pos]
      dsimp only
      rw [decide_eq_true (by omega)]
      rfl
  · rw [if_neg h1, if_neg (show ¬ now < us.getD c (-1) by omega)]
    split <;> rfl
theorem gone_st {us : List Int} {n : Nat} {lim now c : Int} (h0 : -1 ≤ lim) (h : c ∈ goneT (byTime now) 0 (stT us n lim)) : ∃ k : Nat, c = (k : Int) ∧ k < n ∧ ∃ hk : k < us.length, us[k] ≤ now := by
  obtain ⟨k, hk, e, h1, h2⟩ := mem_gone _ _ _ _ h
  rw [stT_len] at hk
  have e2 : (stT us n lim)[k]'(by rw [stT_len]; exact hk) = upT us lim k := by rw [← stT_at us n lim hk, ofT_nat]
  rw [e2] at h1 h2
  unfold upT at h1 h2
  by_cases h3 : lim < us.getD k (-1)
  · rw [if_pos h3] at h2
    have hkl : k < us.length := by
      rcases Nat.lt_or_ge k us.length with hlt | hge
      · exact hlt
      · rw [getD_none us hge] at h3
        omega
    unfold byTime at h2
    dsimp only at h2
    rw [getD_some us hkl] at h2
    exact ⟨k, by rw [e, Nat.zero_add], hk, hkl, of_decide_eq_true h2⟩
  · rw [if_neg h3] at h1
    cases h1
set_option maxHeartbeats 4000000 in
theorem walk (r : Nat) (U : Option Addr) (us : List Int) (uc : Nat) (S : Option Addr) (ss : List Int) (sc : Nat) (w : World) (hr : r ≤ 255) (hu : U8s w U us) (hub : ∀ k ∈ us, 0 ≤ k ∧ k ≤ 255) (hs : U8s w S ss) (hsb : ∀ k ∈ ss, 0 ≤ k ∧ k ≤ 255) (hul : us.length ≤ 140737488351232) (hsl : ss.length ≤ 140737488351232) :
    Calls Try.prog 6 #[.int .u8 (r : Int), .slice U us.length uc, .slice S ss.length sc] w fun e w' => e = .returned (.bool true) ∧ Below w.heap.size w w' := by
  have HA := Lib.hid (awake_any w)
  have HU := Lib.hid hu
  have HS := Lib.hid hs
  have HUB := Lib.hid hub
  have HSB := Lib.hid hsb
  obtain ⟨N, hN⟩ : ∃ n, us.length = n := ⟨_, rfl⟩
  obtain ⟨M, hM⟩ : ∃ n, ss.length = n := ⟨_, rfl⟩
  have HN := Lib.hid hN
  have HM := Lib.hid hM
  rw [hN] at hul ⊢
  rw [hM] at hsl ⊢
  obtain ⟨n, hn⟩ : ∃ n : Nat, n = 1 + r % 16 := ⟨_, rfl⟩
  have hn1 : 1 ≤ n := by omega
  have hn2 : n ≤ 16 := by omega
  have hw1 : IntKind.i64.wrap (r : Int) = (r : Int) := IntWalk.i64_in _ (by omega)
  have hw2 : IntKind.i64.wrap (1 + (r : Int) % 16) = (n : Int) := by rw [IntWalk.i64_in _ (by omega)]; omega
  clear hu hs hub hsb hN hM hn
  by_cases hg1 : 16 < N
  · have e1 : decide ((N : Int) > 16) = true := by simp; omega
    go_enter Try.func6, Try.ntmps6
    go_wp2_with fail
    refine HA.out.mono ?_
    rintro e w1 ⟨rfl, hb1⟩
    have HB1 := Lib.hid hb1
    clear hb1
    go_wp2_with fail
    go_returns
    exact ⟨rfl, HB1.out⟩
  have e1 : decide ((N : Int) > 16) = false := by simp; omega
  by_cases hg2 : 60 < M
  · have e2 : decide ((M : Int) > 60) = true := by simp; omega
    go_enter Try.func6, Try.ntmps6
    go_wp2_with fail
    refine HA.out.mono ?_
    rintro e w1 ⟨rfl, hb1⟩
    have HB1 := Lib.hid hb1
    clear hb1
    go_wp2_with fail
    go_returns
    exact ⟨rfl, HB1.out⟩
  have e2 : decide ((M : Int) > 60) = false := by simp; omega
  go_enter Try.func6, Try.ntmps6
  go_wp2_with fail
  refine HA.out.mono ?_
  rintro e w1 ⟨rfl, hb1⟩
  have HB1 := Lib.hid hb1
  clear hb1 HA
  have HNW := Lib.hid (New_any w1 n hn1 hn2)
  obtain ⟨B, hB⟩ : ∃ B, w1.heap.size = B := ⟨_, rfl⟩
  have HBE := Lib.hid hB
  rw [hB] at HNW
  have HUI : Hid (∀ wr, Below B w1 wr → U8s wr U us ∧ U8s wr S ss) := Lib.hid fun wr hb => by
    have hb' : Below w1.heap.size w1 wr := by rw [HBE.out]; exact hb
    exact ⟨(HU.out.later HB1.out).later hb', (HS.out.later HB1.out).later hb'⟩
  clear hB HU HS
  go_wp2_with fail
  refine HNW.out.mono ?_
  rintro e w2 ⟨tb, g, rfl, h2, hb2⟩
  have HT2 : Hid (Tb B w2 tb g (stT (us.take 0) n (-1))) := Lib.hid (by rw [List.take_zero, stT_new]; exact h2)
  have HB2 := Lib.hid hb2
  have HS2 : Hid (B ≤ w2.heap.size) := Lib.hid (Nat.le_trans (Nat.le_of_eq HBE.out.symm) hb2.size)
  clear h2 hb2 HNW
  go_wp2_with fail
  go_loopw [10, 11, 43] (fun _ _ i wr => ∃ k : Nat, k ≤ N ∧ i = .int .i64 (k : Int) ∧ Hid (Tb B wr tb g (stT (us.take k) n (-1))) ∧ Hid (Below B w1 wr) ∧ Hid (B ≤ wr.heap.size)) (fun _ _ i _ => N - (intOf i).toNat)
  case atStart => exact ⟨0, Nat.zero_le _, rfl, HT2, HB2, HS2⟩
  case round =>
    clear HT2 HB2 HS2
    obtain ⟨k, hk, rfl, HT, HB, HSZ⟩ := hrel
    by_cases hlt : k < N
    · have hkl : k < us.length := by rw [HN.out]; exact hlt
      obtain ⟨b, off, rfl, hc⟩ := (HUI.out wr HB.out).1 k hkl
      have hub := HUB.out _ (List.getElem_mem hkl)
      have hff := fun h => fill_far (n := n) hkl h
      have hfn := fun h => fill_next (n := n) hkl h hub.1
      obtain ⟨x, hx⟩ : ∃ x, us[k] = x := ⟨_, rfl⟩
      rw [hx] at hc hub hfn
      have HFF := Lib.hid hff
      have HFN := Lib.hid hfn
      have hwx : IntKind.i64.wrap x = x := IntWalk.i64_in _ (by omega)
      clear hkl hx hff hfn
      by_cases hkn : k < n
      · have e3 : decide ((k : Int) < (n : Int)) = true := by simp; omega
        have hwk : IntKind.i64.wrap ((k : Int) + 1) = (k : Int) + 1 := IntWalk.i64_in _ (by omega)
        have HHD := Lib.hid (HoldNew_any HT.out ⟨0, 0, (k : Int) + 1⟩ x [(k : Int)] #[.int .i64 (k : Int)] rfl (by simp))
        rw [(HFN.out hkn).1, (HFN.out hkn).2] at HHD
        have HGL := Lib.hid HT.out.glt
        clear hub HFF HFN
        go_wp2_with fail
        refine (show Calls Try.prog 10 #[.pointer (some ⟨tb, 0, none⟩), .agg #[.int .i64 0, .int .i64 0, .int .i64 ((k : Int) + 1)], .int .i64 x, .slice (some ⟨wr.heap.size, 0, none⟩) 1 1] _ _ from HHD.out).mono ?_
        rintro e w3 ⟨rfl, ht3, ho3⟩
        have HT3 := Lib.hid ht3
        have HB3 : Hid (Below B w1 w3) := Lib.hid (HB.out.trans (ho3.below HSZ.out fun j e => by rw [e]; exact HGL.out.1))
        have HS3 : Hid (B ≤ w3.heap.size) := Lib.hid (Nat.le_trans HSZ.out ho3.size)
        clear ht3 ho3 HHD HT HB HSZ hc
        go_wp2_with fail
        go_roundw
        case rel => exact ⟨k + 1, by omega, by go_num, HT3, HB3, HS3⟩
        case measure => simp [intOf]; omega
      · have e3 : decide ((k : Int) < (n : Int)) = false := by simp; omega
        have HT3 : Hid (Tb B wr tb g (stT (us.take (k + 1)) n (-1))) := Lib.hid (by rw [HFF.out (by omega)]; exact HT.out)
        clear hub HFF HFN HT
        go_wp2_with fail
        go_roundw
        case rel => exact ⟨k + 1, by omega, by go_num, HT3, HB, HSZ⟩
        case measure => simp [intOf]; omega
    · obtain rfl : N = k := by omega
      have HT0 : Hid (∃ lim : Int, -1 ≤ lim ∧ lim ≤ 0 ∧ Tb B wr tb g (stT us n lim)) := Lib.hid ⟨-1, by decide, by decide, by have h1 := HT.out; rwa [List.take_of_length_le (Nat.le_of_eq HN.out)] at h1⟩
      have HB0 := HB
      have HS0 := HSZ
      clear HT HB HSZ
      go_wp2_with fail
      go_loopw [12, 14, 16, 17, 18, 19, 66] (fun a _ _ _ _ _ i wr => ∃ (j : Nat) (now : Int), j ≤ M ∧ i = .int .i64 (j : Int) ∧ a = .int .i64 now ∧ 0 ≤ now ∧ now ≤ 255 * j ∧ Hid (∃ lim : Int, -1 ≤ lim ∧ lim ≤ now ∧ Tb B wr tb g (stT us n lim)) ∧ Hid (Below B w1 wr) ∧ Hid (B ≤ wr.heap.size)) (fun _ _ _ _ _ _ i _ => M - (intOf i).toNat)
      case atStart => exact ⟨0, 0, Nat.zero_le _, rfl, rfl, by decide, by decide, HT0, HB0, HS0⟩
      case round =>
        clear HT0 HB0 HS0
        obtain ⟨j, now, hj, rfl, rfl, hnow0, hnowj, HT, HB, HSZ⟩ := hrel
        by_cases hjM : j < M
        · have hjl : j < ss.length := by rw [HM.out]; exact hjM
          obtain ⟨b, off, rfl, hc⟩ := (HUI.out wr HB.out).2 j hjl
          have hsb := HSB.out _ (List.getElem_mem hjl)
          obtain ⟨x, hx⟩ : ∃ x, ss[j] = x := ⟨_, rfl⟩
          rw [hx] at hc hsb
          have hwx : IntKind.i64.wrap x = x := IntWalk.i64_in _ (by omega)
          obtain ⟨now2, hnow2⟩ : ∃ y, now + x = y := ⟨_, rfl⟩
          have hws : IntKind.i64.wrap (now + x) = now2 := by rw [hnow2]; exact IntWalk.i64_in _ (by omega)
          have hT := HT.out
          obtain ⟨lim, hl1, hl2, ht⟩ := hT
          have HEX := Lib.hid (Expire_any ht now2)
          rw [drop_st us n (show lim ≤ now2 by omega)] at HEX
          have HGN := Lib.hid (fun c (hc : c ∈ goneT (byTime now2) 0 (stT us n lim)) => gone_st hl1 hc)
          have HGL2 : Hid ((goneT (byTime now2) 0 (stT us n lim)).length ≤ 16) := Lib.hid (Nat.le_trans (goneT_len ..) (by rw [stT_len]; exact hn2))
          obtain ⟨gs, hgs⟩ : ∃ gs, goneT (byTime now2) 0 (stT us n lim) = gs := ⟨_, rfl⟩
          rw [hgs] at HEX HGN HGL2
          have HGL := Lib.hid ht.glt
          have hn20 : 0 ≤ now2 := by omega
          have hn2j : now2 ≤ 255 * ((j + 1 : Nat) : Int) := by omega
          clear hjl hx hnow2 ht hgs hl1 hl2 HT
          go_wp2_with fail
          refine HEX.out.mono ?_
          rintro e w3 ⟨A3, n3, c3, rfl, hr3, ht3, ho3⟩
          obtain ⟨hn3, hir⟩ := OwnG.irow hr3
          have hid : gs.map (fun x : Int => x) = gs := List.map_id' gs
          rw [hid] at hir
          obtain ⟨q, hq⟩ : ∃ q, gs.length = q := ⟨_, rfl⟩
          rw [hq] at hn3
          subst hn3
          have HQ := Lib.hid hq
          have HIR := Lib.hid hir
          have HT3 := Lib.hid ht3
          have HB3 : Hid (Below B w1 w3) := Lib.hid (HB.out.trans (ho3.below HSZ.out fun j e => by rw [e]; exact HGL.out.1))
          have HS3 : Hid (B ≤ w3.heap.size) := Lib.hid (Nat.le_trans HSZ.out ho3.size)
          have hq16 : n3 ≤ 16 := by have := HGL2.out; omega
          clear hr3 ht3 ho3 hir hid hq HEX HB HSZ hc
          go_wp2_with fail
          go_loopw [16, 78] (fun _ i wr => ∃ m : Nat, m ≤ n3 ∧ i = .int .i64 (m : Int) ∧ wr = w3) (fun _ i _ => n3 - (intOf i).toNat)
          case atStart => exact ⟨0, Nat.zero_le _, rfl, rfl⟩
          case round =>
            obtain ⟨m, hm, rfl, rfl⟩ := hrel
            by_cases hmq : m < n3
            · have hml : m < gs.length := by rw [HQ.out]; exact hmq
              obtain ⟨b3, off3, rfl, hc⟩ := HIR.out m hml
              obtain ⟨k, hke, hkn, hkl, hkv⟩ := HGN.out _ (List.getElem_mem hml)
              rw [hke] at hc
              obtain ⟨b4, off4, rfl, hc4⟩ := (HUI.out _ HB3.out).1 k hkl
              have hub := HUB.out _ (List.getElem_mem hkl)
              obtain ⟨x, hx⟩ : ∃ x, us[k] = x := ⟨_, rfl⟩
              rw [hx] at hc4 hub hkv
              have hwx : IntKind.i64.wrap x = x := IntWalk.i64_in _ (by omega)
              have e3 : decide ((k : Int) < 0) = false := by simp
              have e4 : decide ((k : Int) ≥ (n : Int)) = false := by simp; omega
              have e5 : decide (x > now2) = false := by simp; omega
              rw [HN.out] at hkl
              have hkN : (k : Int) < (N : Int) := by omega
              clear hml hke hx
              go_wp2_with fail
              go_roundw
              case rel => exact ⟨m + 1, by omega, by go_num, by trivial⟩
              case measure => simp [intOf]; omega
            · obtain rfl : n3 = m := by omega
              clear HGN HIR
              go_wp2_with fail
              go_loopw [17, 18, 19] (fun i _ _ wr => ∃ k : Nat, k ≤ n ∧ i = .int .i64 (k : Int) ∧ Hid (Tb B wr tb g (stT us n now2)) ∧ Hid (Below B w1 wr) ∧ Hid (B ≤ wr.heap.size)) (fun i _ _ _ => n - (intOf i).toNat)
              case atStart => exact ⟨0, Nat.zero_le _, rfl, HT3, HB3, HS3⟩
              case round =>
                clear HT3 HB3 HS3
                obtain ⟨k, hk, rfl, HT, HB, HSZ⟩ := hrel
                by_cases hkn : k < n
                · have e3 : decide ((k : Int) < (n : Int)) = true := by simp; omega
                  by_cases hkN : k < N
                  · have e4 : decide ((k : Int) < (N : Int)) = true := by simp; omega
                    have hkl : k < us.length := by rw [HN.out]; exact hkN
                    have HOF := Lib.hid (Of_any HT.out (k : Int))
                    rw [stT_at us n now2 hkn] at HOF
                    have hub := HUB.out _ (List.getElem_mem hkl)
                    have HUK : Hid (∀ wi, Below B w1 wi → ∃ b off, U = some ⟨b, off, none⟩ ∧ wi.cell? ⟨b, off + k, none⟩ = some (.int .u8 us[k])) := Lib.hid fun wi hb => (HUI.out wi hb).1 k hkl
                    have hup : upT us now2 k = if now2 < us[k] then ⟨⟨0, 0, (k : Int) + 1⟩, us[k], true⟩ else sv0 := by
                      unfold upT
                      rw [getD_some us hkl]
                    rw [hup] at HOF
                    obtain ⟨x, hx⟩ : ∃ x, us[k] = x := ⟨_, rfl⟩
                    rw [hx] at HOF hub HUK
                    have hwx : IntKind.i64.wrap x = x := IntWalk.i64_in _ (by omega)
                    clear hkl hx hup
                    by_cases hlv : now2 < x
                    · rw [if_pos hlv] at HOF
                      unfold ofV at HOF
                      have e5 : decide (x > now2) = true := by simp; omega
                      go_wp2_with fail
                      refine HOF.out.mono ?_
                      rintro e w4 ⟨rfl, hb4⟩
                      obtain ⟨w5, hw5⟩ : ∃ W, W = w4.alloc (.cells #[.int .i64 0, .int .i64 0, .int .i64 ((k : Int) + 1), .int .i64 x] 48) := ⟨_, rfl⟩
                      have hb5 : Below w4.heap.size w4 w5 := by rw [hw5]; exact below_alloc _ _
                      have hc5 : Cells w5 w4.heap.size 48 [.int .i64 0, .int .i64 0, .int .i64 ((k : Int) + 1), .int .i64 x] := by rw [hw5]; exact cells_new _ _ _ _ rfl
                      have hb45 := hb4.trans (hb5.mono hb4.size)
                      have y3 := hc5.cell (j := 3) rfl
                      have HT5 : Hid (Tb B w5.drew tb g (stT us n now2)) := Lib.hid ((HT.out.later hb45).later (Below.refl _ _).drew)
                      have HB5 : Hid (Below B w1 w5.drew) := Lib.hid ((HB.out.trans (hb45.mono HSZ.out)).drew)
                      have HS5 : Hid (B ≤ w5.drew.heap.size) := Lib.hid (Nat.le_trans HSZ.out hb45.size)
                      obtain ⟨b4, off4, rfl, hc4⟩ := HUK.out w5 (HB.out.trans (hb45.mono HSZ.out))
                      have hkNi : (k : Int) < (N : Int) := by omega
                      clear hb4 hb5 hc5 hb45 HT HB HSZ HOF HUK
                      go_upto_region 30 with (fail)
                      rw [← hw5]
                      clear hw5
                      go_region
                      go_wp2_with fail
                      go_roundw
                      case rel => exact ⟨k + 1, by omega, by go_num, HT5, HB5, HS5⟩
                      case measure => simp [intOf]; omega
                    · rw [if_neg hlv] at HOF
                      unfold ofV sv0 at HOF
                      have e5 : decide (x > now2) = false := by simp; omega
                      go_wp2_with fail
                      refine HOF.out.mono ?_
                      rintro e w4 ⟨rfl, hb4⟩
                      obtain ⟨w5, hw5⟩ : ∃ W, W = w4.alloc (.cells #[.int .i64 0, .int .i64 0, .int .i64 0, .int .i64 0] 48) := ⟨_, rfl⟩
                      have hb5 : Below w4.heap.size w4 w5 := by rw [hw5]; exact below_alloc _ _
                      have hb45 := hb4.trans (hb5.mono hb4.size)
                      have HT5 : Hid (Tb B w5.drew tb g (stT us n now2)) := Lib.hid ((HT.out.later hb45).later (Below.refl _ _).drew)
                      have HB5 : Hid (Below B w1 w5.drew) := Lib.hid ((HB.out.trans (hb45.mono HSZ.out)).drew)
                      have HS5 : Hid (B ≤ w5.drew.heap.size) := Lib.hid (Nat.le_trans HSZ.out hb45.size)
                      obtain ⟨b4, off4, rfl, hc4⟩ := HUK.out w5 (HB.out.trans (hb45.mono HSZ.out))
                      have hkNi : (k : Int) < (N : Int) := by omega
                      clear hb4 hb5 hb45 HT HB HSZ HOF HUK
                      go_upto_region 30 with (fail)
                      rw [← hw5]
                      clear hw5
                      go_region
                      go_wp2_with fail
                      go_roundw
                      case rel => exact ⟨k + 1, by omega, by go_num, HT5, HB5, HS5⟩
                      case measure => simp [intOf]; omega
                  · have e4 : decide ((k : Int) < (N : Int)) = false := by simp; omega
                    have HTE : Hid (∃ lim : Int, -1 ≤ lim ∧ lim ≤ now2 ∧ Tb B wr tb g (stT us n lim)) := Lib.hid ⟨now2, by omega, Int.le_refl _, HT.out⟩
                    clear HT
                    go_wp2_with fail
                    go_roundw
                    case rel => exact ⟨j + 1, now2, by omega, by go_num, rfl, hn20, hn2j, HTE, HB, HSZ⟩
                    case measure => simp [intOf]; omega
                · have e3 : decide ((k : Int) < (n : Int)) = false := by simp; omega
                  have HTE : Hid (∃ lim : Int, -1 ≤ lim ∧ lim ≤ now2 ∧ Tb B wr tb g (stT us n lim)) := Lib.hid ⟨now2, by omega, Int.le_refl _, HT.out⟩
                  clear HT
                  go_wp2_with fail
                  go_roundw
                  case rel => exact ⟨j + 1, now2, by omega, by go_num, rfl, hn20, hn2j, HTE, HB, HSZ⟩
                  case measure => simp [intOf]; omega
        · obtain rfl : j = M := by omega
          go_wp2_with fail
          go_returns
          exact ⟨rfl, HB1.out.trans (HB.out.mono (by rw [← HBE.out]; exact HB1.out.size))⟩
theorem opened {H : Type} {enc : TypeId × Value → H} {W : World} {base : Nat} {gs : List (DataW H)} (v0 : Value) (d0 : DataW H) (p0 : List MemPlace) (v1 : Value) (d1 : DataW H) (p1 : List MemPlace) (v2 : Value) (d2 : DataW H) (p2 : List MemPlace)
    (o0 : Value.okWide Try.prog W .any base 5 v0) (t0 : DataW.Trod enc Try.prog W 0 (fun _ => true) true 5 v0 d0 p0)
    (o1 : Value.okWide Try.prog W .any base 59 v1) (t1 : DataW.Trod enc Try.prog W 0 (fun _ => true) true 59 v1 d1 p1)
    (o2 : Value.okWide Try.prog W .any base 59 v2) (t2 : DataW.Trod enc Try.prog W 0 (fun _ => true) true 59 v2 d2 p2)
    (hsz : (DataW.weightsEach Try.prog ([5, 59, 59] ++ []) ([d0, d1, d2] ++ gs)).all (· ≤ reachBytes) = true) :
    Calls Try.prog 6 #[v0, v1, v2] W fun e W' => e = .returned (.bool true) ∧ Below W.heap.size W W' := by
  obtain ⟨n, rfl, h1, h2⟩ := arg_u8 o0 t0
  obtain ⟨A, us, c, rfl, k1, k2, _, _, k3⟩ := arg_bytes o1 t1 (Base.small_of hsz (j := 1) rfl rfl)
  obtain ⟨A2, ss, c2, rfl, q1, q2, _, _, q3⟩ := arg_bytes o2 t2 (Base.small_of hsz (j := 2) rfl rfl)
  obtain ⟨r, rfl⟩ : ∃ r : Nat, n = (r : Int) := ⟨n.toNat, by omega⟩
  exact walk r A us c A2 ss c2 W (by omega) k1 k2 q1 q2 k3 q3

theorem contract (H : Type) (enc : TypeId × Value → H) (W : World) (base : Nat) (args : Array Value) (ds gs : List (DataW H)) (before : List MemPlace)
    (hval : ∀ (j : Nat) t v, Try.f6.params[j]? = some t → args[j]? = some v → Value.okWide Try.prog W .any base t v)
    (hW : DataW.Whole enc Try.prog Try.f6.params.toList Rows.leaseTimesSpec.vars false W args.toList ds gs before)
    (hsz : (DataW.weightsEach Try.prog (Try.f6.params.toList ++ []) (ds ++ gs)).all (· ≤ reachBytes) = true) :
    Calls Try.prog 6 args W fun e W' => ∃ v, e = .returned v ∧ Rows.leaseTimesSpec.post enc Try.prog Try.f6 false true false false W args v W' := by
  have hW0 := hW
  obtain ⟨p, q, hA0, hV, rfl, _, _⟩ := hW
  have hA : DataW.TrodAll enc Try.prog W 0 (fun _ => true) true Try.f6.params.toList args.toList ds p := hA0
  rw [Try.params6] at hA hval hsz
  obtain ⟨v0, vs0, d0, ds0, p0, q0, hargs, rfl, rfl, h0, r0⟩ := trodAll_cons hA
  obtain ⟨v1, vs1, d1, ds1, p1, q1, rfl, rfl, rfl, h1, r1⟩ := trodAll_cons r0
  obtain ⟨v2, vs2, d2, ds2, p2, q2, rfl, rfl, rfl, h2, r2⟩ := trodAll_cons r1
  obtain ⟨rfl, rfl, rfl⟩ := trodAll_nil r2
  obtain rfl : args = #[v0, v1, v2] := by cases args; simp_all
  refine (opened v0 d0 p0 v1 d1 p1 v2 d2 p2 (hval 0 5 v0 rfl rfl) h0 (hval 1 59 v1 rfl rfl) h1 (hval 2 59 v2 rfl rfl) h2 hsz).mono fun e W' ⟨he, hb⟩ => ⟨_, he, ?_⟩
  exact Base.law_post (tb := 4) Base.laidOut (by kernel_rfl) rfl Try.underlying4 rfl (fun l hl => by
    rw [Try.params6] at hl
    match l, hl with
    | [_, _, _], _ => rfl) (by rw [Try.params6]; rfl) hW0 hb

theorem laid_met (os : Os) : laidMet Try.prog Rows.leaseTimesRow.laid ((Base.plainWorld os).forCall (fun _ _ => 0) ⟨#[], #[.int .u8 0, .slice none 0 0, .slice none 0 0], []⟩).memory := laidMet_nil _ _
theorem reads (os : Os) {H : Type} (enc : TypeId × Value → H) : ∃ places, DataW.whole enc Try.prog ((Base.plainWorld os).forCall (fun _ _ => 0) ⟨#[], #[.int .u8 0, .slice none 0 0, .slice none 0 0], []⟩).memory Try.f6.params.toList Rows.leaseTimesSpec.vars false (#[.int .u8 0, .slice none 0 0, .slice none 0 0] : Array Value).toList 8 = some ([.lit (.int .u8 0), .nil, .nil], [], places) :=
  ⟨[], by kernel_rfl⟩

set_option maxRecDepth 100000 in
theorem lifted (os : Os) (started : os.Started) (H : Type) (enc : TypeId × Value → H) (F : Stop.Interp) :
    ReturnsInHanded {} Try.checked os 6 .any ((OpenSpec.ofChange Rows.leaseTimesSpec).preRow enc Try.prog Try.f6 Rows.leaseTimesRow.domain false Rows.leaseTimesRow.laid) (((OpenSpec.ofChange Rows.leaseTimesSpec).at F).post enc Try.prog Try.f6 false true false false) := by
  obtain ⟨places, hx⟩ := reads os enc
  refine returnsInHanded_of_row (C := Try.checked) (s := OpenSpec.ofChange Rows.leaseTimesSpec) Base.own started (by kernel_rfl) Try.func6
    (witness_row_at (enc := enc) (C := Try.checked) false (Base.plainWorld os) #[.int .u8 0, .slice none 0 0, .slice none 0 0] rfl (by kernel_rfl) (by kernel_rfl) (by kernel_rfl)
      (OpenSpec.preRow_of_cond 8 hx (by kernel_rfl) (fun k hk => by cases hk) (by kernel_rfl) (laid_met os))) ?_
  intro W base args ds gs before hval hW _ _ hsz _ _ _
  exact contract H enc W base args ds gs before hval hW hsz

theorem said : Rows.LeaseTimesSaid :=
  OpenClaim.holds_of_cond 6 Try.f6 rfl rfl rfl rfl rfl rfl rfl ⟨rfl, rfl, rfl, rfl, rfl⟩ rfl rfl rfl rfl rfl (by kernel_rfl) Try.func6 (by kernel_rfl)
    (of_decide_eq_true (by kernel_rfl)) (by unfold Func.isWrapper; rw [if_neg (of_decide_eq_false (by kernel_rfl))]; exact ⟨rfl, rfl⟩)
    (fun os started H enc _ F => by rw [OpenClaim.pre_eq_preRow]; exact lifted os started H enc F)
#print axioms said
end Go.Proofs.Ytiobblmagjbhjaa.LeaseTimes
