/-
  NetOnly is proved: no packet is taken oftener than it was sent and doubled, and never more than the limit are under way. Conditions: none.
-/
import Derived.Test.YtfhcfiebhagbeaaNetCnt
import Derived.Test.YtfhcfiebhagbeaaReg4
import Derived.Deep.CutBlock
namespace Go.Proofs.Ytfhcfiebhagbeaa.NetOnly
set_option maxRecDepth 100000
open Go.ChangeShapes Go.WideShapes Go.ChangeAt Go.RowKit Go.Deep Go.Proofs.Ytfhcfiebhagbeaa.Mem Go.Proofs.Ytfhcfiebhagbeaa.Net

def netOnly14 (b gg ws lq nl r c : Nat) (lo : Int) (A : Option Addr) : Nat → Value → World → Prop
  | 0, v, _ => v = .int .i64 lo
  | 1, v, _ => v = .bool false
  | 2, v, _ => v = .bool false
  | 3, v, _ => v = .int .i64 lo
  | 4, v, _ => v = .pointer (some ⟨gg, 3, none⟩)
  | 5, v, _ => v = .slice A lq c
  | 6, v, _ => v = .int .i64 (lq : Int)
  | 7, v, _ => v = .bool false
  | 8, v, _ => v = .bool false
  | 9, v, _ => v = .bool false
  | 10, v, _ => v = .pointer (some ⟨b, 0, none⟩)
  | 11, v, _ => v = .int .i64 (nl : Int)
  | 12, v, _ => v = .int .i64 (ws : Int)
  | 13, v, _ => v = .pointer (some ⟨gg, 3, none⟩)
  | 14, v, _ => v = .slice A lq c
  | 15, v, _ => v = .int .i64 (lq : Int)
  | 16, v, _ => v = .int .i64 (r : Int)
  | 17, v, _ => v = .int .i64 lo
  | 18, v, _ => v = .int .i64 (nl : Int)
  | 19, v, _ => v = .bool false
  | 20, v, _ => v = .bool false
  | _, _, _ => True
set_option maxHeartbeats 1000000 in
theorem walk (nn : Int) (A : Option Addr) (os : List Opk) (cap : Nat) (w : World) (hnn : 0 ≤ nn ∧ nn ≤ 255) (h : Opks w A os) (hl : os.length ≤ 140737488351232) :
    Calls Try.prog 4 #[.int .u8 nn, .slice A os.length cap] w fun e w' => e = .returned (.bool true) ∧ Below w.heap.size w w' := by
  have HC := Lib.hid (awake_any w)
  obtain ⟨n, hn⟩ : ∃ n, os.length = n := ⟨_, rfl⟩
  have HLN := Lib.hid hn
  have HH := Lib.hid h
  have hl0 := hl
  rw [hn] at hl ⊢
  have HGR := Lib.hid (fun (w1 : World) (hb : Below w.heap.size w w1) => great_any A os cap w1 (h.later hb) hl0)
  rw [hn] at HGR
  clear h hn hl0
  obtain ⟨nd, hnd⟩ : ∃ nd, nn % 16 + 1 = nd := ⟨_, rfl⟩
  have hn1 : 1 ≤ nd ∧ nd ≤ 16 := by omega
  go_enter Try.func4, Try.ntmps4
  go_wp2_with fail
  refine HC.out.mono ?_
  rintro e w1 ⟨rfl, hb1⟩
  have HB1 := Lib.hid hb1
  clear hb1 HC
  go_wp2_with fail
  have HC := Lib.hid (New_any nd w1 hn1.1 hn1.2)
  refine HC.out.mono ?_
  rintro e w2 ⟨b, m, rfl, hn2, hb2⟩
  have HB2 := Lib.hid hb2
  have HN2 := Lib.hid hn2
  have HG2 := Lib.hid (HGR.out w2 (HB1.out.trans (hb2.mono HB1.out.size)))
  clear hn2 hb2 HC HGR hnd
  go_wp2_with fail
  refine HG2.out.mono ?_
  rintro e w3 ⟨rfl, hb3⟩
  have HB3 := Lib.hid (HB2.out.trans (hb3.mono HB2.out.size))
  have HN3 := Lib.hid (HN2.out.later hb3)
  clear hb3 HG2 HN2 HB2
  cases hgr : greatN os with
  | true =>
    clear hgr
    go_wp2_with fail
    go_returns
    exact ⟨rfl, HB1.out.trans (HB3.out.mono HB1.out.size)⟩
  | false =>
    have HT : Hid (n ≤ 80 ∧ total os ≤ 400) := Lib.hid (by
      unfold greatN at hgr
      rw [HLN.out] at hgr
      simp at hgr
      exact hgr)
    clear hgr
    obtain ⟨w4, hw4⟩ : ∃ W, W = w3.alloc (.map #[] 0) := ⟨_, rfl⟩
    have hb4 : Below w3.heap.size w3 w4 := by rw [hw4]; exact below_alloc _ _
    have HB4 := Lib.hid (HB3.out.trans (hb4.mono HB3.out.size))
    have HST : Hid (Sta w1.heap.size w4 b m w3.heap.size ⟨nd, fun _ _ => false, []⟩ none 0 (fun _ => 0) [] 0) := Lib.hid ⟨HN3.out.later hb4, by rw [hw4]; exact cnt_made w3 0, HB3.out.size, fun e => by have := (HN3.out.lt e).2; omega, fun p => by simp, fun p => Int.le_refl _, fun p => Int.le_refl _⟩
    have hmm := @run_makeMap Try.prog
    clear hb4 HB3 HN3
    go_wp2_with fail
    rw [← hw4]
    clear hw4 hmm
    generalize w3.heap.size = mc at HST ⊢
    go_loopw [38] (fun i wr => ∃ (k : Nat) (N : Nt) (A1 : Option Addr) (c1 : Nat) (f : Pk → Int), k ≤ n ∧ i = .int .i64 (k : Int) ∧ Hid (Sta w1.heap.size wr b m mc N A1 c1 f [] (total (os.take k) + k)) ∧ Hid (Below w1.heap.size w1 wr)) (fun i _ => n - (intOf i).toNat)
    case atStart => exact ⟨0, _, none, 0, _, Nat.zero_le _, rfl, HST, HB4⟩
    case round =>
      clear HST HB4
      obtain ⟨k, N, A1, c1, f, hk, rfl, HS, HB⟩ := hrel
      by_cases hkn : k < n
      · have hkl : k < os.length := by rw [HLN.out]; exact hkn
        obtain ⟨g, off, rfl, hr, ho⟩ := ((HH.out.later HB1.out).later HB.out).at hkl
        have HTK := Lib.hid (total_take os k hkl)
        have HTL := Lib.hid (total_le os (k + 1))
        obtain ⟨o, hoe⟩ : ∃ o, os[k] = o := ⟨_, rfl⟩
        rw [hoe] at hr ho HTK
        have x0 := hr 0 _ rfl
        rw [Nat.add_zero] at x0
        have x1 := hr 1 _ rfl
        have x2 := hr 2 _ rfl
        have x3 := hr 3 _ rfl
        obtain ⟨we, hwe⟩ : ∃ W, W = wr.alloc (.cells #[.int .i64 o.k, .int .i64 o.a, .int .i64 o.b, .slice o.A o.l.length o.c] 33) := ⟨_, rfl⟩
        have hbe : Below wr.heap.size wr we := by rw [hwe]; exact below_alloc _ _
        have HOC : Hid (Cells we wr.heap.size 33 o.vals) := Lib.hid (by rw [hwe]; exact cells_new _ _ _ _ rfl)
        have HOK := Lib.hid (ho.later hbe)
        have HSE := Lib.hid (HS.out.later hbe)
        have HBE := Lib.hid (HB.out.trans (hbe.mono HB.out.size))
        have HFT : Hid ((∀ i, foot b m A1 i → i < wr.heap.size) ∧ mc < wr.heap.size) := Lib.hid ⟨fun i e => (HS.out.net.lt e).2, HS.out.cnt.lt⟩
        have HIN : Hid (∀ w', Below w1.heap.size w1 w' → o.Ok w') := Lib.hid fun w' hb => by rw [← hoe]; exact (((HH.out.later HB1.out).later hb).2 _ (List.getElem_mem hkl))
        clear hr ho hoe hbe hkl HS HB
        obtain ⟨ok, oa, ob, oA, oc, ol⟩ := o
        dsimp only at x0 x1 x2 x3 hwe HTK
        obtain ⟨lq, hlq⟩ : ∃ lq, ol.length = lq := ⟨_, rfl⟩
        have HOL := Lib.hid hlq
        have HUB : Hid (∀ p, f p ≤ 480) := Lib.hid (fun p => by have h1 := HSE.out.hi p; have h2 := HT.out; have h3 := HTK.out; have h4 := HTL.out; omega)
        have hlq2 : lq ≤ 400 := by have h2 := HT.out; have h3 := HTK.out; have h4 := HTL.out; omega
        have y0 := HOC.out.cell (j := 0) rfl
        have y1 := HOC.out.cell (j := 1) rfl
        have y2 := HOC.out.cell (j := 2) rfl
        have y3 := HOC.out.cell (j := 3) rfl
        dsimp only at y0 y1 y2 y3
        rw [hlq] at y3 x3 hwe
        have hu : Hid (total (os.take k) + k ≤ total (os.take (k + 1)) + (k + 1)) := Lib.hid (by rw [HTK.out]; omega)
        clear hlq
        go_upto_block 2 with fail
        rw [← hwe]
        clear hwe x0 x1 x2 x3
        go_cut [10, 11, 13, 14, 15, 16] from 44 to 145 (fun _ _ _ _ _ _ wx => ∃ (N' : Nt) (A' : Option Addr) (c' : Nat) (f' : Pk → Int), Hid (Sta w1.heap.size wx b m mc N' A' c' f' [] (total (os.take (k + 1)) + (k + 1))) ∧ Hid (Below w1.heap.size w1 wx))
        case first =>
          by_cases k0 : ok = 0
          · subst k0
            have HL0 := Lib.hid (Len_any HSE.out.net)
            have hws := HSE.out.net.len
            obtain ⟨ws, hw0⟩ : ∃ ws, N.fl.length = ws := ⟨_, rfl⟩
            rw [hw0] at HL0 hws
            have hS := Send_any HSE.out.net oA ol oc (by rw [HOL.out]; omega) HOK.out.oks HBE.out.size (fun w' ho => (HIN.out w' (HBE.out.trans (ho.below HBE.out.size fun k e => (HSE.out.net.lt e).1))).pks)
            rw [HOL.out] at hS
            have HSN := Lib.hid hS
            have HLEN := Lib.hid (sendL_len ol N)
            have hlost := sendL_lost ol N
            have HCN := Lib.hid (fun q => sendL_count ol N q)
            obtain ⟨⟨N1, lo⟩, hsl⟩ : ∃ X, sendL N ol = X := ⟨_, rfl⟩
            rw [hsl] at HSN HLEN hlost HCN
            dsimp only at HSN HLEN hlost HCN
            rw [HOL.out] at HLEN hlost
            rw [hw0] at HLEN
            clear hS hsl hw0
            go_wp2_with fail
            refine HL0.out.mono ?_
            rintro e wq ⟨rfl, rfl⟩
            go_wp2_with fail
            refine HSN.out.mono ?_
            rintro e we2 ⟨rfl, hst⟩
            have hb2 := HBE.out.trans (hst.below HSE.out.net HBE.out.size)
            obtain ⟨A2, c2, hS2⟩ := HSE.out.step (pend' := ol) hst (fun q => by
              have h1 := HCN.out q
              have h2 := HSE.out.le q
              simp only [List.count_nil] at h2
              omega)
            obtain ⟨_, _, _, hoy, _⟩ := hst
            have hoc := cells_only HOC.out hoy (fun e => by have := HFT.out.1 _ e; omega)
            have HO3 : Hid (∀ wi, Below we2.heap.size we2 wi → wi.cell? ⟨wr.heap.size, 3, none⟩ = some (.slice oA lq oc)) := Lib.hid (fun wi hb => by
              have h1 := (hoc.later hb).cell (j := 3) rfl
              dsimp only at h1
              rw [HOL.out] at h1
              exact h1)
            have HOC2 := Lib.hid hoc
            have HS2 := Lib.hid hS2
            have HB2 := Lib.hid hb2
            obtain ⟨nl, hnl⟩ : ∃ nl, N1.fl.length = nl := ⟨_, rfl⟩
            obtain ⟨r, hr⟩ : ∃ r, r = ws + lq := ⟨_, rfl⟩
            have HLR : Hid (0 ≤ lo ∧ lo ≤ (lq : Int) ∧ (nl : Int) = ws + lq - lo ∧ r = ws + lq ∧ ws ≤ 256 ∧ lq ≤ 400) := Lib.hid ⟨hlost.1, hlost.2, by rw [← hnl]; exact HLEN.out, hr, hws, hlq2⟩
            have HLN2 : Hid (∀ wi, Below we2.heap.size we2 wi → Calls Try.prog 24 #[.pointer (some ⟨b, 0, none⟩)] wi fun e w' => e = .returned (.int .i64 (nl : Int)) ∧ w' = wi) := Lib.hid (fun wi hb => by
              have h1 := Len_any (HS2.out.net.later hb)
              rw [hnl] at h1
              exact h1)
            clear hb2 hS2 hoy hoc hnl hr hlost HSN HL0 HLEN HCN y0 y1 y2 y3
            go_upto_region 14 with (fail)
            refine Reg.region_heavy (by kernel_rfl) 20 [20] (netOnly14 b wr.heap.size ws lq nl r oc lo oA) (fun a => Below we2.heap.size we2 a) (fun a => Below we2.heap.size we2 a) (fun V => [(some 52, V 0), (some 53, V 1), (some 54, V 2), (some 55, V 3), (some 56, V 4), (some 57, V 5), (some 58, V 6), (some 59, V 7), (some 60, V 8), (some 61, V 9), (some 62, V 10), (some 63, V 11), (some 64, V 12), (some 65, V 13), (some 66, V 14), (some 67, V 15), (some 68, V 16), (some 69, V 17), (some 70, V 18), (some 71, V 19), (some 72, V 20)]) (by kernel_rfl) (by kernel_rfl) (by kernel_rfl) (fun V => rfl) ?_ ?_ ?_
            · exact (Below.refl _ _).drew
            · intro i o ho
              have hi : i < 21 := (Array.getElem?_eq_some_iff.1 ho).1
              rcases i with _ | _ | _ | _ | _ | _ | _ | _ | _ | _ | _ | _ | _ | _ | _ | _ | _ | _ | _ | _ | _ | i
              rotate_right
              · omega
              all_goals obtain rfl := Option.some.inj ho
              all_goals intro ρ wi hE hI hs hd
              all_goals try dsimp only at hI
              · have e11 : ρ (.tmp 11) = .int .i64 lo := hs 11; exact Reg.gw hI
              · obtain ⟨_, rfl, e52⟩ := hd 0 52; have hc := hE.const
                have y1 : decide (lo < 0) = false := by have := HLR.out; simp; omega
                exact Reg.gw hI
              · obtain ⟨_, rfl, e53⟩ := hd 1 53; exact Reg.gw hI
              · have e11 : ρ (.tmp 11) = .int .i64 lo := hs 11
                refine Reg.yes ?_
                exact Reg.gw hI
              · have e9 : ρ (.tmp 9) = .pointer (some ⟨wr.heap.size, 0, none⟩) := hs 9
                refine Reg.yes ?_
                exact Reg.gw hI
              · obtain ⟨_, rfl, e56⟩ := hd 4 56
                refine Reg.yes ?_
                have x0 := HO3.out _ hI; exact Reg.gw hI
              · obtain ⟨_, rfl, e57⟩ := hd 5 57
                refine Reg.yes ?_
                exact Reg.gw hI
              · obtain ⟨_, rfl, e55⟩ := hd 3 55; obtain ⟨_, rfl, e58⟩ := hd 6 58
                refine Reg.yes ?_
                have y1 : decide (lo > (lq : Int)) = false := by have := HLR.out; simp; omega
                exact Reg.gw hI
              · obtain ⟨_, rfl, e54⟩ := hd 2 54; obtain ⟨_, rfl, e59⟩ := hd 7 59; have hc := hE.const; exact Reg.gw hI
              · obtain ⟨_, rfl, e60⟩ := hd 8 60; exact Reg.gw hI
              · have e5 : ρ (.tmp 5) = .pointer (some ⟨b, 0, none⟩) := hs 5
                refine Reg.yes ?_
                exact Reg.gw hI
              · obtain ⟨_, rfl, e62⟩ := hd 10 62; have hf := hE.func
                refine Reg.yes ?_
                refine Reg.Gives.call (f := 24) (args := #[.pointer (some ⟨b, 0, none⟩)]) (w' := wi) (by go_simp) ?_
                refine (HLN2.out wi hI).mono ?_
                rintro e w'' ⟨rfl, rfl⟩
                exact ⟨_, rfl, Reg.OwedH.same hI rfl⟩
              · have e10 : ρ (.tmp 10) = .int .i64 (ws : Int) := hs 10
                refine Reg.yes ?_
                exact Reg.gw hI
              · have e9 : ρ (.tmp 9) = .pointer (some ⟨wr.heap.size, 0, none⟩) := hs 9
                refine Reg.yes ?_
                exact Reg.gw hI
              · obtain ⟨_, rfl, e65⟩ := hd 13 65
                refine Reg.yes ?_
                have x0 := HO3.out _ hI; exact Reg.gw hI
              · obtain ⟨_, rfl, e66⟩ := hd 14 66
                refine Reg.yes ?_
                exact Reg.gw hI
              · obtain ⟨_, rfl, e64⟩ := hd 12 64; obtain ⟨_, rfl, e67⟩ := hd 15 67
                refine Reg.yes ?_
                have y1 : IntKind.i64.wrap ((ws : Int) + (lq : Int)) = (r : Int) := by rw [IntWalk.i64_in _ (by have := HLR.out; omega)]; have := HLR.out; omega
                exact Reg.gw hI
              · have e11 : ρ (.tmp 11) = .int .i64 lo := hs 11
                refine Reg.yes ?_
                exact Reg.gw hI
              · obtain ⟨_, rfl, e68⟩ := hd 16 68; obtain ⟨_, rfl, e69⟩ := hd 17 69
                refine Reg.yes ?_
                have y1 : IntKind.i64.wrap ((r : Int) - lo) = (nl : Int) := by rw [IntWalk.i64_in _ (by have := HLR.out; omega)]; have := HLR.out; omega
                exact Reg.gw hI
              · obtain ⟨_, rfl, e63⟩ := hd 11 63; obtain ⟨_, rfl, e70⟩ := hd 18 70
                refine Reg.yes ?_
                have y1 : decide ((nl : Int) = (nl : Int)) = true := by simp
                exact Reg.gw hI
              · obtain ⟨_, rfl, e61⟩ := hd 9 61; obtain ⟨_, rfl, e71⟩ := hd 19 71; have hc := hE.const; exact Reg.gw hI
            · intro V wf hV hI
              have hV20 : V 20 = .bool false := hV 20 (by decide) rfl
              simp only [Reg.putsO, List.foldl_cons, List.foldl_nil, Act.put, List.setIfInBounds_toArray, List.set_cons_succ, List.set_cons_zero, hV20]
              replace hI : (fun a => Below we2.heap.size we2 a) wf := hI
              clear hV hV20
              have HSF := Lib.hid (HS2.out.later hI)
              have HBF := Lib.hid (HB2.out.trans (hI.mono HB2.out.size))
              have HOF := Lib.hid (HOC2.out.later hI)
              have y3 := HO3.out _ hI
              clear hI HLN2 HO3 HS2 HB2 HOC2
              go_wp2_with fail
              go_loopw [76] (fun i wx => ∃ (j : Nat) (fj : Pk → Int), j ≤ lq ∧ i = .int .i64 (j : Int) ∧ Hid (Sta w1.heap.size wx b m mc N1 A2 c2 fj (ol.drop j) (total (os.take k) + k + j)) ∧ Hid (Below w1.heap.size w1 wx)) (fun i _ => lq - (intOf i).toNat)
              case atStart => exact ⟨0, f, Nat.zero_le _, rfl, by rw [List.drop_zero]; exact HSF, HBF⟩
              case round =>
                clear HSF HBF HOF y3
                obtain ⟨j, fj, hj, rfl, HSJ, HBJ⟩ := hrel
                by_cases hjl : j < lq
                · have hjo : j < ol.length := by rw [HOL.out]; exact hjl
                  obtain ⟨g2, off2, rfl, x0, x1, x2, x3⟩ := ((HIN.out _ HBJ.out).pks).at hjo
                  obtain ⟨p, hp⟩ : ∃ p, ol[j] = p := ⟨_, rfl⟩
                  rw [hp] at x0 x1 x2 x3
                  have HPOK := Lib.hid (HOK.out.oks p (by rw [← hp]; exact List.getElem_mem hjo))
                  have HDR : Hid (ol.drop j = p :: ol.drop (j + 1)) := Lib.hid (by rw [List.drop_eq_getElem_cons hjo, hp])
                  obtain ⟨x, hx⟩ : ∃ x, fj p = x := ⟨_, rfl⟩
                  have hx1 : 0 ≤ x := by rw [← hx]; exact HSJ.out.lo p
                  have hx2 : x ≤ 900 := by have h1 := HSJ.out.hi p; have h2 := HT.out; have h3 := HTK.out; have h4 := HTL.out; omega
                  obtain ⟨wy, hwy⟩ : ∃ W, W = wr.alloc (.cells #[.int .i64 p.src, .int .i64 p.dst, .string p.bytes, .bool p.spoilt] 39) := ⟨_, rfl⟩
                  have hby : Below wr.heap.size wr wy := by rw [hwy]; exact below_alloc _ _
                  have hcy : Cells wy wr.heap.size 39 p.vals := by rw [hwy]; exact cells_new _ _ _ _ rfl
                  have hdy : Below wy.heap.size wy wy.drew := (Below.refl _ _).drew
                  have hmx : mc < wr.heap.size := HSJ.out.cnt.lt
                  have hS3 := (HSJ.out.later hby).later hdy
                  have hb3 := (HBJ.out.trans (hby.mono HBJ.out.size)).trans (hdy.mono (Nat.le_trans HBJ.out.size hby.size))
                  obtain ⟨v0, st, w5, w6, q1, q2, q3, q4, o5, hc6, o6⟩ := hS3.cnt.bump HPOK.out (x + 1)
                  have hq1 := cells_only (hcy.later hdy) o5 (fun e => by omega)
                  rw [hx] at q1 q3
                  have HS6 := Lib.hid (hS3.turn (pend' := ol.drop (j + 1)) (u' := total (os.take k) + k + (j + 1)) hc6 o6 (fun q => by
                    have h1 := hS3.le q
                    rw [HDR.out, List.count_cons] at h1
                    split
                    · rename_i e
                      subst e
                      simp at h1
                      omega
                    · rename_i e
                      have e2 : (p == q) = false := by simpa using fun e3 => e e3.symm
                      rw [e2] at h1
                      simpa using h1) (fun q => by
                    split
                    · omega
                    · exact hS3.lo q) (fun q => by
                    have h1 := hS3.hi q
                    split
                    · rename_i e; subst e; omega
                    · omega))
                  have HB6 := Lib.hid (hb3.trans (o6.below (by have := hb3.size; omega) fun k e => by rw [e]; exact hS3.low))
                  have a0 := (hcy.later hdy).cell (j := 0) rfl
                  have a1 := (hcy.later hdy).cell (j := 1) rfl
                  have a2 := (hcy.later hdy).cell (j := 2) rfl
                  have a3 := (hcy.later hdy).cell (j := 3) rfl
                  have d0 := hq1.cell (j := 0) rfl
                  have d1 := hq1.cell (j := 1) rfl
                  have d2 := hq1.cell (j := 2) rfl
                  have d3 := hq1.cell (j := 3) rfl
                  unfold Pk.val at q1 q2 q3
                  clear hby hcy hdy hmx hS3 hb3 hc6 o5 o6 hq1 hx hp hjo
                  go_upto_region 19 with (fail)
                  rw [← hwy]
                  clear hwy x0 x1 x2 x3
                  go_region
                  all_goals
                    go_wp2_with fail
                    go_roundw
                    case rel => exact ⟨j + 1, _, by omega, by go_num, HS6, HB6⟩
                    case measure => simp [intOf]; omega
                · obtain rfl : j = lq := by omega
                  have HSZ : Hid (Sta w1.heap.size wr b m mc N1 A2 c2 fj [] (total (os.take (k + 1)) + (k + 1))) := Lib.hid (by
                    have h1 := HSJ.out
                    rw [List.drop_of_length_le (by rw [HOL.out]; omega)] at h1
                    exact h1.up (by rw [HTK.out]; have := HOL.out; omega))
                  go_wp2_with fail
                  go_meet
                  case rel => exact ⟨_, A2, c2, fj, HSZ, HBJ⟩
          · by_cases k1 : ok = 1
            · subst k1
              have HC := Lib.hid (Take_any HSE.out.net oa)
              cases hh : hasN N oa with
              | false =>
                rw [show takeN N oa = (pk0, 8, N) by unfold takeN; rw [hh]; rfl] at HC
                dsimp only at HC
                unfold pk0 Pk.val at HC
                clear hh
                go_wp2_with fail
                refine HC.out.mono ?_
                rintro e wx ⟨rfl, hst⟩
                have hbx := HBE.out.trans (hst.below HSE.out.net HBE.out.size)
                obtain ⟨A2, c2, hS2⟩ := HSE.out.step (pend' := []) hst HSE.out.le
                have hb2 := below_alloc wx (.cells #[.int .i64 0, .int .i64 0, .string ⟨#[]⟩, .bool false] 39)
                have HS2 := Lib.hid ((hS2.up hu.out).later hb2)
                have HB2 := Lib.hid (hbx.trans (hb2.mono hbx.size))
                clear hst hbx hS2 hb2 HC y0 y1 y2 y3
                go_wp2_with fail
                go_meet
                case rel => exact ⟨_, A2, c2, f, HS2, HB2⟩
              | true =>
                obtain ⟨i, p, rfl, hi, hp⟩ := hasN_spec hh
                rw [show takeN N (i : Int) = (p, 0, { N with fl := rm N.fl i }) by unfold takeN; rw [hh, if_pos rfl, Int.toNat_natCast, hp]; rfl] at HC
                dsimp only at HC
                unfold Pk.val at HC
                have hcnt := fun q => rm_count N.fl i p q hp
                have hpok := HSE.out.net.pks p (List.mem_of_getElem? hp)
                obtain ⟨x, hx⟩ : ∃ x, f p = x := ⟨_, rfl⟩
                have hx1 : 1 ≤ x := by
                  have h1 := hcnt p
                  have h2 := HSE.out.le p
                  simp at h1 h2
                  omega
                have hx2 : x ≤ 480 := by rw [← hx]; exact HUB.out p
                have HLE : Hid (∀ q, ((rm N.fl i).count q : Int) + (if q = p then 1 else 0) ≤ f q) := Lib.hid (fun q => by
                  have h1 := hcnt q
                  have h2 := HSE.out.le q
                  simp at h2
                  omega)
                have HPOK := Lib.hid hpok
                clear hh hi hp hcnt hpok
                go_wp2_with fail
                refine HC.out.mono ?_
                rintro e wx ⟨rfl, hst⟩
                have hbx := HBE.out.trans (hst.below HSE.out.net HBE.out.size)
                obtain ⟨A2, c2, hS2⟩ := HSE.out.step (pend' := []) hst (fun q => by have h1 := HLE.out q; simp only [List.count_nil]; split at h1 <;> omega)
                obtain ⟨wy, hwy⟩ : ∃ W, W = wx.alloc (.cells #[.int .i64 p.src, .int .i64 p.dst, .string p.bytes, .bool p.spoilt] 39) := ⟨_, rfl⟩
                have hby : Below wx.heap.size wx wy := by rw [hwy]; exact below_alloc _ _
                have hcy : Cells wy wx.heap.size 39 p.vals := by rw [hwy]; exact cells_new _ _ _ _ rfl
                have hdy : Below wy.heap.size wy wy.drew := (Below.refl _ _).drew
                have hmx : mc < wx.heap.size := hS2.cnt.lt
                have hS3 := (hS2.later hby).later hdy
                have hb3 := (hbx.trans (hby.mono hbx.size)).trans (hdy.mono (Nat.le_trans hbx.size hby.size))
                obtain ⟨v0, st, w5, w6, q1, q2, q3, q4, o5, hc6, o6⟩ := hS3.cnt.bump HPOK.out (x - 1)
                have hq1 := cells_only (hcy.later hdy) o5 (fun e => by omega)
                have hq2 := cells_only (hcy.later hdy) o6 (fun e => by omega)
                have q5 := hc6.look HPOK.out
                rw [if_pos rfl] at q5
                rw [hx] at q1 q3
                have HS6 := Lib.hid ((hS3.turn (pend' := []) hc6 o6 (fun q => by
                  have h1 := HLE.out q
                  simp only [List.count_nil]
                  split at h1
                  · rename_i e; subst e; rw [if_pos rfl]; omega
                  · rename_i e; rw [if_neg e]; omega) (fun q => by
                  split
                  · omega
                  · exact hS3.lo q) (fun q => by
                  have h1 := hS3.hi q
                  split
                  · rename_i e; subst e; omega
                  · exact h1)).up hu.out)
                have HB6 := Lib.hid (hb3.trans (o6.below (by have := hb3.size; omega) fun k e => by rw [e]; exact hS3.low))
                have a0 := (hcy.later hdy).cell (j := 0) rfl
                have a1 := (hcy.later hdy).cell (j := 1) rfl
                have a2 := (hcy.later hdy).cell (j := 2) rfl
                have a3 := (hcy.later hdy).cell (j := 3) rfl
                have d0 := hq1.cell (j := 0) rfl
                have d1 := hq1.cell (j := 1) rfl
                have d2 := hq1.cell (j := 2) rfl
                have d3 := hq1.cell (j := 3) rfl
                have f0 := hq2.cell (j := 0) rfl
                have f1 := hq2.cell (j := 1) rfl
                have f2 := hq2.cell (j := 2) rfl
                have f3 := hq2.cell (j := 3) rfl
                have e9 : decide (x - 1 < 0) = false := by simp; omega
                unfold Pk.val at q1 q2 q3 q5
                clear hst hbx hS2 hby hcy hdy hmx hS3 hb3 hc6 o5 o6 hq1 hq2 HC y0 y1 y2 y3 hx HLE
                go_upto_region 24 with (fail)
                rw [← hwy]
                clear hwy
                go_region
                all_goals
                  go_wp2_with fail
                  go_meet
                  case rel => exact ⟨_, A2, c2, _, HS6, HB6⟩
            · by_cases k2 : ok = 2
              · subst k2
                have HC := Lib.hid (All_any HSE.out.net)
                go_wp2_with fail
                refine HC.out.mono ?_
                rintro e wx ⟨v, rfl, hrow, hbx⟩
                obtain ⟨V, vc, rfl⟩ := row_slice hrow
                have HROW := Lib.hid hrow
                have HSX := Lib.hid (HSE.out.later hbx)
                have HBX := Lib.hid (HBE.out.trans (hbx.mono HBE.out.size))
                have hox := HOC.out.later hbx
                have z1 := hox.cell (j := 1) rfl
                dsimp only at z1
                have HOX := Lib.hid hox
                have hwl : wr.heap.size < we.heap.size := HOC.out.lt
                have HXL := Lib.hid hbx.size
                clear hrow hbx hox HC y0 y1 y2 y3
                have HC := Lib.hid (Double_any HSX.out.net oa HBX.out.size)
                cases hh : hasN N oa with
                | false =>
                  rw [show doubleN N oa = (8, N) by unfold doubleN; rw [hh]; rfl] at HC
                  dsimp only at HC
                  clear hh
                  go_wp2_with fail
                  refine HC.out.mono ?_
                  rintro e wy ⟨rfl, hst⟩
                  have hby := HBX.out.trans (hst.below HSX.out.net HBX.out.size)
                  obtain ⟨A2, c2, hS2⟩ := HSX.out.step (pend' := []) hst HSX.out.le
                  have HS2 := Lib.hid (hS2.up hu.out)
                  have HB2 := Lib.hid hby
                  clear hst hby hS2 HC z1 hwl
                  go_wp2_with fail
                  go_meet
                  case rel => exact ⟨_, A2, c2, f, HS2, HB2⟩
                | true =>
                  obtain ⟨i, p, rfl, hi, hp⟩ := hasN_spec hh
                  by_cases hful : N.fl.length < 256
                  · rw [show doubleN N (i : Int) = (0, { N with fl := N.fl ++ [p] }) by unfold doubleN; rw [hh, if_pos rfl, if_pos hful, Int.toNat_natCast, hp]; rfl] at HC
                    dsimp only at HC
                    have hpok := HSX.out.net.pks p (List.mem_of_getElem? hp)
                    obtain ⟨x, hx⟩ : ∃ x, f p = x := ⟨_, rfl⟩
                    have hx1 : 0 ≤ x := by rw [← hx]; exact HSX.out.lo p
                    have hx2 : x ≤ 480 := by rw [← hx]; exact HUB.out p
                    obtain ⟨g2, rfl, hrg, hg1, hg2⟩ := HROW.out.at hp
                    obtain ⟨ln, hln⟩ : ∃ ln, N.fl.length = ln := ⟨_, rfl⟩
                    have HLE : Hid (∀ q, ((N.fl ++ [p]).count q : Int) ≤ f q + (([p] : List Pk).count q : Int)) := Lib.hid (fun q => by
                      have h2 := HSX.out.le q
                      rw [List.count_append]
                      simp only [List.count_nil] at h2
                      omega)
                    have HC1 : Hid (∀ q, (([p] : List Pk).count q : Int) = if q = p then 1 else 0) := Lib.hid (fun q => by
                      by_cases e : q = p
                      · subst e; simp
                      · have : (p == q) = false := by simpa using fun e2 => e e2.symm
                        simp [List.count_cons, this, e])
                    have HPOK := Lib.hid hpok
                    rw [hln] at hi ⊢
                    clear hh hpok hful hp hln
                    go_wp2_with fail
                    refine HC.out.mono ?_
                    rintro e wy ⟨rfl, hst⟩
                    have hby := HBX.out.trans (hst.below HSX.out.net HBX.out.size)
                    obtain ⟨A2, c2, hS2⟩ := HSX.out.step (pend' := [p]) hst HLE.out
                    obtain ⟨_, _, _, hoy, _⟩ := hst
                    have hry := range_only hrg hoy (fun e => by have := HFT.out.1 _ e; omega)
                    have hcy := cells_only HOX.out hoy (fun e => by have := HFT.out.1 _ e; omega)
                    have hdy : Below wy.heap.size wy wy.drew := (Below.refl _ _).drew
                    have hS3 := hS2.later hdy
                    have hb3 := hby.trans (hdy.mono hby.size)
                    have hm1 := HFT.out.2
                    obtain ⟨v0, st, w5, w6, q1, q2, q3, q4, o5, hc6, o6⟩ := hS3.cnt.bump HPOK.out (x + 1)
                    have hr1 := range_later hry hdy
                    have hr2 := range_only hr1 o5 (fun e => by omega)
                    have hk1 := hcy.later hdy
                    have hk2 := cells_only hk1 o5 (fun e => by omega)
                    rw [hx] at q1 q3
                    have HS6 := Lib.hid ((hS3.turn (pend' := []) (u' := total (os.take k) + k + 1) hc6 o6 (fun q => by
                      have h1 := HLE.out q
                      rw [HC1.out q] at h1
                      simp only [List.count_nil]
                      split at h1
                      · rename_i e; subst e; rw [if_pos rfl]; omega
                      · rename_i e; rw [if_neg e]; omega) (fun q => by
                      split
                      · omega
                      · exact hS3.lo q) (fun q => by
                      have h1 := hS3.hi q
                      split
                      · rename_i e; subst e; omega
                      · omega)).up (show total (os.take k) + k + 1 ≤ total (os.take (k + 1)) + (k + 1) by rw [HTK.out]; omega))
                    have HB6 := Lib.hid (hb3.trans (o6.below (by have := hb3.size; omega) fun k e => by rw [e]; exact hS3.low))
                    have a0 := hr1 0 _ rfl
                    rw [Nat.add_zero] at a0
                    have a1 := hr1 1 _ rfl
                    have a2 := hr1 2 _ rfl
                    have a3 := hr1 3 _ rfl
                    have d0 := hr2 0 _ rfl
                    rw [Nat.add_zero] at d0
                    have d1 := hr2 1 _ rfl
                    have d2 := hr2 2 _ rfl
                    have d3 := hr2 3 _ rfl
                    have f1 := hk1.cell (j := 1) rfl
                    have f2 := hk2.cell (j := 1) rfl
                    dsimp only at f1 f2
                    unfold Pk.val at q1 q2 q3
                    clear hby hS2 hoy hry hcy hdy hS3 hb3 hm1 hc6 o5 o6 hr1 hr2 hk1 hk2 HC hx HLE hrg hg1 hg2 z1 hwl
                    go_upto_region 30 with (fail)
                    go_region
                    all_goals
                      go_wp2_with fail
                      go_meet
                      case rel => exact ⟨_, A2, c2, _, HS6, HB6⟩
                  · rw [show doubleN N (i : Int) = (6, N) by unfold doubleN; rw [hh, if_pos rfl, if_neg hful]] at HC
                    dsimp only at HC
                    clear hh hi hp hful
                    go_wp2_with fail
                    refine HC.out.mono ?_
                    rintro e wy ⟨rfl, hst⟩
                    have hby := HBX.out.trans (hst.below HSX.out.net HBX.out.size)
                    obtain ⟨A2, c2, hS2⟩ := HSX.out.step (pend' := []) hst HSX.out.le
                    have HS2 := Lib.hid (hS2.up hu.out)
                    have HB2 := Lib.hid hby
                    clear hst hby hS2 HC z1 hwl
                    go_wp2_with fail
                    go_meet
                    case rel => exact ⟨_, A2, c2, f, HS2, HB2⟩
              · by_cases k3 : ok = 3
                · subst k3
                  have HC := Lib.hid (Cut_any HSE.out.net oa ob)
                  have hfl : (if betw N.nodes oa ob then setCut N oa ob true else N : Nt).fl = N.fl := by split <;> rfl
                  generalize (if betw N.nodes oa ob then setCut N oa ob true else N : Nt) = N2 at HC hfl
                  generalize (if betw N.nodes oa ob then (0 : Int) else 1) = rr at HC
                  have HFL := Lib.hid hfl
                  clear hfl
                  go_wp2_with fail
                  refine HC.out.mono ?_
                  rintro e wx ⟨rfl, hst⟩
                  have hbx := HBE.out.trans (hst.below HSE.out.net HBE.out.size)
                  obtain ⟨A2, c2, hS2⟩ := HSE.out.step (pend' := []) hst (fun p => by rw [HFL.out]; exact HSE.out.le p)
                  have HS2 := Lib.hid (hS2.up hu.out)
                  have HB2 := Lib.hid hbx
                  clear hst hbx hS2 HC y0 y1 y2 y3
                  go_wp2_with fail
                  go_meet
                  case rel => exact ⟨_, A2, c2, f, HS2, HB2⟩
                · by_cases k4 : ok = 4
                  · subst k4
                    have HC := Lib.hid (Heal_any HSE.out.net oa ob)
                    have hfl : (if betw N.nodes oa ob then setCut N oa ob false else N : Nt).fl = N.fl := by split <;> rfl
                    generalize (if betw N.nodes oa ob then setCut N oa ob false else N : Nt) = N2 at HC hfl
                    generalize (if betw N.nodes oa ob then (0 : Int) else 1) = rr at HC
                    have HFL := Lib.hid hfl
                    clear hfl
                    go_wp2_with fail
                    refine HC.out.mono ?_
                    rintro e wx ⟨rfl, hst⟩
                    have hbx := HBE.out.trans (hst.below HSE.out.net HBE.out.size)
                    obtain ⟨A2, c2, hS2⟩ := HSE.out.step (pend' := []) hst (fun p => by rw [HFL.out]; exact HSE.out.le p)
                    have HS2 := Lib.hid (hS2.up hu.out)
                    have HB2 := Lib.hid hbx
                    clear hst hbx hS2 HC y0 y1 y2 y3
                    go_wp2_with fail
                    go_meet
                    case rel => exact ⟨_, A2, c2, f, HS2, HB2⟩
                  · have e0 : decide (ok = 0) = false := by simpa using k0
                    have e1 : decide (ok = 1) = false := by simpa using k1
                    have e2 : decide (ok = 2) = false := by simpa using k2
                    have e3 : decide (ok = 3) = false := by simpa using k3
                    have e4 : decide (ok = 4) = false := by simpa using k4
                    have HS2 := Lib.hid (HSE.out.up hu.out)
                    clear y0 y1 y2 y3
                    go_wp2_with fail
                    go_meet
                    case rel => exact ⟨_, A1, c1, f, HS2, HBE⟩
        case rest =>
          obtain ⟨N', A', c', f', HSX, HBX⟩ := hcut
          have HL := Lib.hid (Len_any HSX.out.net)
          have hl5 := HSX.out.net.len
          obtain ⟨q, hq⟩ : ∃ q, N'.fl.length = q := ⟨_, rfl⟩
          rw [hq] at HL hl5
          have e5 : decide ((q : Int) > 256) = false := by simp; omega
          clear hq
          go_wp2_with fail
          refine HL.out.mono ?_
          rintro e wy ⟨rfl, rfl⟩
          go_wp2_with fail
          go_roundw
          case rel => exact ⟨k + 1, N', A', c', f', by omega, by go_num, HSX, HBX⟩
          case measure => simp [intOf]; omega
      · obtain rfl : k = n := by omega
        go_wp2_with fail
        go_returns
        exact ⟨rfl, HB1.out.trans (HB.out.mono HB1.out.size)⟩

theorem opened {H : Type} {enc : TypeId × Value → H} {W : World} {base : Nat} {gs : List (DataW H)} (v0 : Value) (d0 : DataW H) (p0 : List MemPlace) (v1 : Value) (d1 : DataW H) (p1 : List MemPlace)
    (o0 : Value.okWide Try.prog W .any base 5 v0) (t0 : DataW.Trod enc Try.prog W 0 (fun _ => true) true 5 v0 d0 p0)
    (o1 : Value.okWide Try.prog W .any base 22 v1) (t1 : DataW.Trod enc Try.prog W 0 (fun _ => true) true 22 v1 d1 p1)
    (hsz : (DataW.weightsEach Try.prog ([5, 22] ++ []) ([d0, d1] ++ gs)).all (· ≤ reachBytes) = true) :
    Calls Try.prog 4 #[v0, v1] W fun e W' => e = .returned (.bool true) ∧ Below W.heap.size W W' := by
  obtain ⟨x, rfl, _, _, hw⟩ := open_int Try.underlying5 o0 t0
  obtain ⟨a0, len, cap, rfl⟩ := okWide_slice Try.underlying22 o1
  obtain ⟨A, os, cap', e, h1, h2, _⟩ := came_ops (came_of t1 (Base.small_of hsz (j := 1) rfl rfl) (by simp [Value.cells]))
  rw [e]
  have hx : 0 ≤ x ∧ x ≤ 255 := by
    have e1 : IntKind.u8.min = 0 := rfl
    have e2 : IntKind.u8.max = 255 := rfl
    simpa [Lit.wf, e1, e2] using hw
  exact walk x A os cap' W hx h1 h2

theorem contract (H : Type) (enc : TypeId × Value → H) (W : World) (base : Nat) (args : Array Value) (ds gs : List (DataW H)) (before : List MemPlace)
    (hval : ∀ (j : Nat) t v, Try.f4.params[j]? = some t → args[j]? = some v → Value.okWide Try.prog W .any base t v)
    (hW : DataW.Whole enc Try.prog Try.f4.params.toList Rows.netOnlySpec.vars false W args.toList ds gs before)
    (hsz : (DataW.weightsEach Try.prog (Try.f4.params.toList ++ []) (ds ++ gs)).all (· ≤ reachBytes) = true) :
    Calls Try.prog 4 args W fun e W' => ∃ v, e = .returned v ∧ Rows.netOnlySpec.post enc Try.prog Try.f4 false true false false W args v W' := by
  have hW0 := hW
  obtain ⟨p, q, hA0, hV, rfl, _, _⟩ := hW
  have hA : DataW.TrodAll enc Try.prog W 0 (fun _ => true) true Try.f4.params.toList args.toList ds p := hA0
  rw [Try.params4] at hA hval hsz
  obtain ⟨v0, vs0, d0, ds0, p0, q0, hargs, rfl, rfl, h0, r0⟩ := trodAll_cons hA
  obtain ⟨v1, vs1, d1, ds1, p1, q1, rfl, rfl, rfl, h1, r1⟩ := trodAll_cons r0
  obtain ⟨rfl, rfl, rfl⟩ := trodAll_nil r1
  obtain rfl : args = #[v0, v1] := by cases args; simp_all
  refine (opened v0 d0 p0 v1 d1 p1 (hval 0 5 v0 rfl rfl) h0 (hval 1 22 v1 rfl rfl) h1 hsz).mono fun e W' ⟨he, hb⟩ => ⟨_, he, ?_⟩
  exact Base.law_post (tb := 4) Base.laidOut (by kernel_rfl) rfl Try.underlying4 rfl (fun l hl => by
    rw [Try.params4] at hl
    match l, hl with
    | [_, _], _ => rfl) (by rw [Try.params4]; rfl) hW0 hb

theorem laid_met (os : Os) : laidMet Try.prog Rows.netOnlyRow.laid ((Base.plainWorld os).forCall (fun _ _ => 0) ⟨#[], #[.int .u8 0, .slice none 0 0], []⟩).memory := laidMet_nil _ _
theorem reads (os : Os) {H : Type} (enc : TypeId × Value → H) : ∃ places, DataW.whole enc Try.prog ((Base.plainWorld os).forCall (fun _ _ => 0) ⟨#[], #[.int .u8 0, .slice none 0 0], []⟩).memory Try.f4.params.toList Rows.netOnlySpec.vars false (#[.int .u8 0, .slice none 0 0] : Array Value).toList 8 = some ([.lit (.int .u8 0), .nil], [], places) :=
  ⟨[], by kernel_rfl⟩

set_option maxRecDepth 100000 in
theorem lifted (os : Os) (started : os.Started) (H : Type) (enc : TypeId × Value → H) (F : Stop.Interp) :
    ReturnsInHanded {} Try.checked os 4 .any ((OpenSpec.ofChange Rows.netOnlySpec).preRow enc Try.prog Try.f4 Rows.netOnlyRow.domain false Rows.netOnlyRow.laid) (((OpenSpec.ofChange Rows.netOnlySpec).at F).post enc Try.prog Try.f4 false true false false) := by
  obtain ⟨places, hx⟩ := reads os enc
  refine returnsInHanded_of_row (C := Try.checked) (s := OpenSpec.ofChange Rows.netOnlySpec) Base.own started (by kernel_rfl) Try.func4
    (witness_row_at (enc := enc) (C := Try.checked) false (Base.plainWorld os) #[.int .u8 0, .slice none 0 0] rfl (by kernel_rfl) (by kernel_rfl) (by kernel_rfl)
      (OpenSpec.preRow_of_cond 8 hx (by kernel_rfl) (fun k hk => by cases hk) (by kernel_rfl) (laid_met os))) ?_
  intro W base args ds gs before hval hW _ _ hsz _ _ _
  exact contract H enc W base args ds gs before hval hW hsz

theorem said : Rows.NetOnlySaid :=
  OpenClaim.holds_of_cond 4 Try.f4 rfl rfl rfl rfl rfl rfl rfl ⟨rfl, rfl, rfl, rfl, rfl⟩ rfl rfl rfl rfl rfl (by kernel_rfl) Try.func4 (by kernel_rfl)
    (of_decide_eq_true (by kernel_rfl)) (by unfold Func.isWrapper; rw [if_neg (of_decide_eq_false (by kernel_rfl))]; exact ⟨rfl, rfl⟩)
    (fun os started H enc _ F => by rw [OpenClaim.pre_eq_preRow]; exact lifted os started H enc F)
#print axioms said
end Go.Proofs.Ytfhcfiebhagbeaa.NetOnly
