/-
  Layer 8: what single records do: In, Gone.
  Conditions: none.
-/
import Derived.Test.YtalhbblmnahcdaaGreatPa25
namespace Go.Proofs.YtalhbblmnahcdaaGreat.Led
set_option maxRecDepth 100000
open Go.RowKit Go.Deep Go.Proofs.YtalhbblmnahcdaaGreat.Mem Go.Proofs.YtalhbblmnahcdaaGreat.Item Go.Proofs.YtalhbblmnahcdaaGreat.Rec
def ledM_in1 (s : St) (y : Sy) (r : Rc) (b : Nat) (g : Nat) : Nat → Value → World → Prop
 | 0, v, _ => v = .pointer (some ⟨b, 0, none⟩)
 | 1, v, _ => v = .pointer (some ⟨b, 0, none⟩)
 | 2, v, _ => v = s.val y
 | 3, v, _ => v = .pointer (some ⟨g, 9, none⟩)
 | 4, v, _ => v = .int .i64 r.cell
 | 5, v, _ => v = .bool (hasC s r.cell)
 | 6, v, _ => v = .bool (!(hasC s r.cell))
 | 7, v, _ => v = .bool (!(hasC s r.cell))
 | _, _, _ => True
theorem ledM_in1_later {s : St} {y : Sy} {r : Rc} {b : Nat} {g : Nat} {j : Nat} {v : Value} {w w' : World} (_hb : Below w.heap.size w w') (h : ledM_in1 s y r b g j v w) : ledM_in1 s y r b g j v w' := by
 match j, h with
 | 0, h | 1, h | 2, h | 3, h | 4, h | 5, h | 6, h | 7, h => exact h
 | _ + 8, _ => exact trivial
def ledM_in3 (s : St) (y : Sy) (r : Rc) (b : Nat) (g : Nat) : Nat → Value → World → Prop
 | 0, v, _ => v = .pointer (some ⟨b, 0, none⟩)
 | 1, v, _ => v = .pointer (some ⟨b, 0, none⟩)
 | 2, v, _ => v = s.val y
 | 3, v, _ => v = .pointer (some ⟨g, 9, none⟩)
 | 4, v, _ => v = .int .i64 r.cell
 | 5, v, _ => v = .bool (owns s r.cell)
 | 6, v, _ => v = .bool (owns s r.cell)
 | _, _, _ => True
theorem ledM_in3_later {s : St} {y : Sy} {r : Rc} {b : Nat} {g : Nat} {j : Nat} {v : Value} {w w' : World} (_hb : Below w.heap.size w w') (h : ledM_in3 s y r b g j v w) : ledM_in3 s y r b g j v w' := by
 match j, h with
 | 0, h | 1, h | 2, h | 3, h | 4, h | 5, h | 6, h => exact h
 | _ + 7, _ => exact trivial
def ledM_in5 (s : St) (y : Sy) (r : Rc) (b : Nat) (g : Nat) (pb : Nat) (k : Nat) (pl : Pl) : Nat → Value → World → Prop
 | 0, v, _ => v = .pointer (some ⟨g, 11, none⟩)
 | 1, v, _ => v = .int .i64 r.hop
 | 2, v, _ => v = .pointer (some ⟨b, 0, none⟩)
 | 3, v, _ => v = .pointer (some ⟨b, 0, none⟩)
 | 4, v, _ => v = .pointer (some ⟨b, 4, none⟩)
 | 5, v, _ => v = .slice y.P s.places.length y.p
 | 6, v, _ => v = .pointer (some ⟨g, 9, none⟩)
 | 7, v, _ => v = .int .i64 r.cell
 | 8, v, _ => v = .pointer (some ⟨pb, k * 5, none⟩)
 | 9, v, _ => v = .pointer (some ⟨pb, k * 5 + 1, none⟩)
 | 10, v, _ => v = .int .i64 pl.hop
 | 11, v, _ => v = .bool (decide (r.hop ≤ pl.hop))
 | 12, v, _ => v = .bool (decide (r.hop ≤ pl.hop))
 | _, _, _ => True
def ledM_in7 (s : St) (y : Sy) (r : Rc) (b : Nat) (g : Nat) (pb : Nat) (k : Nat) : Nat → Value → World → Prop
 | 0, v, _ => v = .pointer (some ⟨b, 0, none⟩)
 | 1, v, _ => v = .pointer (some ⟨b, 0, none⟩)
 | 2, v, _ => v = .pointer (some ⟨b, 4, none⟩)
 | 3, v, _ => v = .slice y.P s.places.length y.p
 | 4, v, _ => v = .pointer (some ⟨g, 9, none⟩)
 | 5, v, _ => v = .int .i64 r.cell
 | 6, v, _ => v = .pointer (some ⟨g, 11, none⟩)
 | 7, v, _ => v = .int .i64 r.hop
 | 8, v, _ => v = .pointer (some ⟨g, 12, none⟩)
 | 9, v, _ => v = .int .i64 r.version
 | 10, v, _ => v = .pointer (some ⟨g, 13, none⟩)
 | 11, v, _ => v = .int .i64 r.value
 | 12, v, _ => v = .agg #[.int .i64 1, .int .i64 r.hop, .int .i64 0, .int .i64 r.version, .int .i64 r.value]
 | 13, v, _ => v = .pointer (some ⟨pb, k * 5, none⟩)
 | 14, _, _ => True
 | _, _, _ => True
theorem ledM_in7_keep {s : St} {y : Sy} {r : Rc} {b : Nat} {g : Nat} {pb : Nat} {k : Nat} {j : Nat} {v : Value} {w w' : World}  (h : ledM_in7 s y r b g pb k j v w) : ledM_in7 s y r b g pb k j v w' := by
 match j, h with
 | 0, h | 1, h | 2, h | 3, h | 4, h | 5, h | 6, h | 7, h | 8, h | 9, h | 10, h | 11, h | 12, h | 13, h | 14, h => exact h
 | _ + 15, _ => exact trivial
set_option maxHeartbeats 2000000 in
theorem in_any (s : St) (y : Sy) (r : Rc) (z : Lay) (base b : Nat) (w : World) (ho : Own base w b s y) (hh : Two w r.items r.nodes z) (hs : Small s) (hr : r.items.length ≤ 1000 ∧ r.nodes.length ≤ 1000) :
  Calls Tryz.prog 73 #[.pointer (some ⟨b, 0, none⟩), r.val z] w fun e w' => e = .returned (.int .i64 (fIn s r).2) ∧ Step base b s y w (fIn s r).1 w' := by
 obtain ⟨wb, hwb⟩ : ∃ v, v = w.alloc (.cells #[.int .i64 r.kind, .int .i64 r.tid.node, .int .i64 r.tid.epoch, .int .i64 r.tid.seq, .slice z.A r.items.length z.c, .slice z.B r.nodes.length z.d, .int .i64 r.node, .int .i64 r.count, .int .i64 r.num, .int .i64 r.cell, .int .i64 r.status, .int .i64 r.hop, .int .i64 r.version, .int .i64 r.value, .bool r.yes] 51) := ⟨_, rfl⟩
 have hb : Below w.heap.size w wb := by rw [hwb]; exact below_alloc _ _
 have HOwb := Lib.hid (ho.later hb)
 have HRwb : Hid (Cells wb w.heap.size 51 (r.vals z)) := Lib.hid (by rw [hwb]; exact cells_new _ _ _ _ rfl)
 have HHwb := Lib.hid (hh.later hb)
 have HBwb := Lib.hid hb
 have HSM := Lib.hid hs
 have HRS := Lib.hid hr
 obtain ⟨F, hF⟩ : ∃ F, fIn s r = F := ⟨_, rfl⟩
 have HF := Lib.hid hF.symm
 rw [hF]
 unfold Rc.val
 clear ho hh hs hr hb hF
 go_enter Tryz.func73, Tryz.ntmps73
 go_wp2_with fail
 rw [← hwb]
 clear hwb
 refine Reg.region_heavy (by kernel_rfl) 7 [7] (ledM_in1 s y r b w.heap.size) (fun a => Below wb.heap.size wb a) (fun a => Below wb.heap.size wb a) (fun V => [(some 6, V 0), (some 7, V 1), (some 8, V 2), (some 9, V 3), (some 10, V 4), (some 11, V 5), (some 12, V 6), (some 5, V 7)]) (by kernel_rfl) (by kernel_rfl) (by kernel_rfl) (fun V => rfl) ?_ ?_ ?_
 ·exact (Below.refl _ _).drew
 ·intro i o ho
  have hi : i < 8 := (Array.getElem?_eq_some_iff.1 ho).1
  rcases i with _ | _ | _ | _ | _ | _ | _ | _ | i
  rotate_right
  ·omega
  all_goals obtain rfl := Option.some.inj ho
  all_goals intro ρ wi hE hI hs hd
  all_goals try dsimp only at hI
  ·have e0 : ρ (.tmp 0) = .pointer (some ⟨b, 0, none⟩) := hs 0; exact Reg.gw hI
  ·obtain ⟨_, rfl, e6⟩ := hd 0 6; exact Reg.gw hI
  ·obtain ⟨_, rfl, e7⟩ := hd 1 7
   exact Reg.Gives.value (v := s.val y) (w' := wi) (exec_load _ _ rfl _ _ (by assumption) (state_load (HOwb.out.later hI))) (Reg.OwedH.same hI rfl)
  ·have e3 : ρ (.tmp 3) = .pointer (some ⟨w.heap.size, 0, none⟩) := hs 3; exact Reg.gw hI
  ·obtain ⟨_, rfl, e9⟩ := hd 3 9; have x0 := (HRwb.out.later hI).cell (j := 9) rfl; exact Reg.gw hI
  ·obtain ⟨_, rfl, e8⟩ := hd 2 8; obtain ⟨_, rfl, e10⟩ := hd 4 10; have hf := hE.func
   refine Reg.Gives.call (f := 42) (args := #[s.val y, .int .i64 r.cell]) (w' := wi) (by go_simp) ?_
   refine (has_any s y r.cell wi).mono ?_
   rintro e w'' ⟨rfl, hbb⟩
   exact ⟨_, rfl, ⟨rfl, hI.trans (hbb.mono hI.size), fun j u _ _ h => ledM_in1_later hbb h⟩⟩
  ·obtain ⟨_, rfl, e11⟩ := hd 5 11; exact Reg.gw hI
  ·obtain ⟨_, rfl, e12⟩ := hd 6 12; exact Reg.gw hI
 ·intro V wc hV hI
  have hV7 : V 7 = .bool (!(hasC s r.cell)) := hV 7 (by decide) rfl
  simp only [Reg.putsO, List.foldl_cons, List.foldl_nil, Act.put, List.setIfInBounds_toArray, List.set_cons_succ, List.set_cons_zero, hV7]
  replace hI : (fun a => Below wb.heap.size wb a) wc := hI
  clear hV hV7
  have HOwc := Lib.hid (HOwb.out.later hI)
  have HRwc := Lib.hid (HRwb.out.later hI)
  have HHwc := Lib.hid (HHwb.out.later hI)
  have HBwc := Lib.hid (HBwb.out.trans (hI.mono HBwb.out.size))
  clear hI
  cases hh : hasC s r.cell with
  | false =>
   have HHF := Lib.hid hh
   clear hh
   have HFX : Hid (F = (s, 1)) := Lib.hid (by rw [HF.out]; exact if_pos HHF.out)
   go_wp2_with fail
   go_returns
   exact ⟨ret_int (by rw [HFX.out]), by rw [HFX.out]; exact Step.same HOwc.out HBwc.out⟩
  | true =>
   have HHT := Lib.hid hh
   clear hh
   go_upto_region 3 with (fail)
   refine Reg.region_heavy (by kernel_rfl) 6 [6] (ledM_in3 s y r b w.heap.size) (fun a => Below wc.heap.size wc a) (fun a => Below wc.heap.size wc a) (fun V => [(some 14, V 0), (some 15, V 1), (some 16, V 2), (some 17, V 3), (some 18, V 4), (some 19, V 5), (some 13, V 6)]) (by kernel_rfl) (by kernel_rfl) (by kernel_rfl) (fun V => rfl) ?_ ?_ ?_
   ·exact (Below.refl _ _).drew
   ·intro i o ho
    have hi : i < 7 := (Array.getElem?_eq_some_iff.1 ho).1
    rcases i with _ | _ | _ | _ | _ | _ | _ | i
    rotate_right
    ·omega
    all_goals obtain rfl := Option.some.inj ho
    all_goals intro ρ wi hE hI hs hd
    all_goals try dsimp only at hI
    ·have e0 : ρ (.tmp 0) = .pointer (some ⟨b, 0, none⟩) := hs 0; exact Reg.gw hI
    ·obtain ⟨_, rfl, e14⟩ := hd 0 14; exact Reg.gw hI
    ·obtain ⟨_, rfl, e15⟩ := hd 1 15
     exact Reg.Gives.value (v := s.val y) (w' := wi) (exec_load _ _ rfl _ _ (by assumption) (state_load (HOwc.out.later hI))) (Reg.OwedH.same hI rfl)
    ·have e3 : ρ (.tmp 3) = .pointer (some ⟨w.heap.size, 0, none⟩) := hs 3; exact Reg.gw hI
    ·obtain ⟨_, rfl, e17⟩ := hd 3 17; have x0 := (HRwc.out.later hI).cell (j := 9) rfl; exact Reg.gw hI
    ·obtain ⟨_, rfl, e16⟩ := hd 2 16; obtain ⟨_, rfl, e18⟩ := hd 4 18; have hf := hE.func
     refine Reg.Gives.call (f := 15) (args := #[s.val y, .int .i64 r.cell]) (w' := wi) (by go_simp) ?_
     refine (Owns_any s y r.cell wi (HOwc.out.later hI).sees).mono ?_
     rintro e w'' ⟨rfl, hbb⟩
     exact ⟨_, rfl, ⟨rfl, hI.trans (hbb.mono hI.size), fun j u _ _ h => ledM_in3_later hbb h⟩⟩
    ·obtain ⟨_, rfl, e19⟩ := hd 5 19; exact Reg.gw hI
   ·intro V wd hV hI
    have hV6 : V 6 = .bool (owns s r.cell) := hV 6 (by decide) rfl
    simp only [Reg.putsO, List.foldl_cons, List.foldl_nil, Act.put, List.setIfInBounds_toArray, List.set_cons_succ, List.set_cons_zero, hV6]
    replace hI : (fun a => Below wc.heap.size wc a) wd := hI
    clear hV hV6
    have HOwd := Lib.hid (HOwc.out.later hI)
    have HRwd := Lib.hid (HRwc.out.later hI)
    have HHwd := Lib.hid (HHwc.out.later hI)
    have HBwd := Lib.hid (HBwc.out.trans (hI.mono HBwc.out.size))
    clear hI
    cases ha : owns s r.cell with
    | true =>
     have HA := Lib.hid ha
     clear ha
     have HFX : Hid (F = (s, 9)) := Lib.hid (by rw [HF.out]; unfold fIn; rw [HHT.out, HA.out]; rfl)
     go_wp2_with fail
     go_returns
     exact ⟨ret_int (by rw [HFX.out]), by rw [HFX.out]; exact Step.same HOwd.out HBwd.out⟩
    | false =>
     have HA := Lib.hid ha
     clear ha
     obtain ⟨pb, k, pl, hP, hk, hkl, hpl, hpa⟩ := HOwd.out.place HHT.out
     have HPK := Lib.hid (And.intro hP (And.intro hk (And.intro hkl hpl)))
     have HPA := Lib.hid hpa
     have HK := Lib.hid hk
     clear hP hk hkl hpl hpa
     go_upto_region 5 with (fail)
     refine Reg.region_heavy (by kernel_rfl) 12 [12] (ledM_in5 s y r b w.heap.size pb k pl) (fun a => Below wd.heap.size wd a) (fun a => Below wd.heap.size wd a) (fun V => [(some 21, V 0), (some 22, V 1), (some 23, V 2), (some 24, V 3), (some 25, V 4), (some 26, V 5), (some 27, V 6), (some 28, V 7), (some 29, V 8), (some 30, V 9), (some 31, V 10), (some 32, V 11), (some 20, V 12)]) (by kernel_rfl) (by kernel_rfl) (by kernel_rfl) (fun V => rfl) ?_ ?_ ?_
     ·exact (Below.refl _ _).drew
     ·intro i o ho
      have hi : i < 13 := (Array.getElem?_eq_some_iff.1 ho).1
      rcases i with _ | _ | _ | _ | _ | _ | _ | _ | _ | _ | _ | _ | _ | i
      rotate_right
      ·omega
      all_goals obtain rfl := Option.some.inj ho
      all_goals intro ρ wi hE hI hs hd
      all_goals try dsimp only at hI
      ·have e3 : ρ (.tmp 3) = .pointer (some ⟨w.heap.size, 0, none⟩) := hs 3; exact Reg.gw hI
      ·obtain ⟨_, rfl, e21⟩ := hd 0 21; have x0 := (HRwd.out.later hI).cell (j := 11) rfl; exact Reg.gw hI
      ·have e0 : ρ (.tmp 0) = .pointer (some ⟨b, 0, none⟩) := hs 0; exact Reg.gw hI
      ·obtain ⟨_, rfl, e23⟩ := hd 2 23; exact Reg.gw hI
      ·obtain ⟨_, rfl, e24⟩ := hd 3 24; exact Reg.gw hI
      ·obtain ⟨_, rfl, e25⟩ := hd 4 25; have x0 := (HOwd.out.later hI).cel.cell (j := 4) rfl; exact Reg.gw hI
      ·have e3 : ρ (.tmp 3) = .pointer (some ⟨w.heap.size, 0, none⟩) := hs 3; exact Reg.gw hI
      ·obtain ⟨_, rfl, e27⟩ := hd 6 27; have x0 := (HRwd.out.later hI).cell (j := 9) rfl; exact Reg.gw hI
      ·obtain ⟨_, rfl, e26⟩ := hd 5 26; obtain ⟨_, rfl, e28⟩ := hd 7 28; have hP := HPK.out.1; have hk := HPK.out.2.1; have hkl := HPK.out.2.2.1; exact Reg.gw hI
      ·obtain ⟨_, rfl, e29⟩ := hd 8 29; exact Reg.gw hI
      ·obtain ⟨_, rfl, e30⟩ := hd 9 30; have x0 := (HOwd.out.later hI).placeCell HPK.out.1 HPK.out.2.2.2 (j := 1) rfl; exact Reg.gw hI
      ·obtain ⟨_, rfl, e22⟩ := hd 1 22; obtain ⟨_, rfl, e31⟩ := hd 10 31; exact Reg.gw hI
      ·obtain ⟨_, rfl, e32⟩ := hd 11 32; exact Reg.gw hI
     ·intro V we hV hI
      have hV12 : V 12 = .bool (decide (r.hop ≤ pl.hop)) := hV 12 (by decide) rfl
      simp only [Reg.putsO, List.foldl_cons, List.foldl_nil, Act.put, List.setIfInBounds_toArray, List.set_cons_succ, List.set_cons_zero, hV12]
      replace hI : (fun a => Below wd.heap.size wd a) we := hI
      clear hV hV12
      have HOwe := Lib.hid (HOwd.out.later hI)
      have HRwe := Lib.hid (HRwd.out.later hI)
      have HHwe := Lib.hid (HHwd.out.later hI)
      have HBwe := Lib.hid (HBwd.out.trans (hI.mono HBwd.out.size))
      clear hI
      by_cases h1 : r.hop ≤ pl.hop
      ·have HA2 := Lib.hid h1
       have HFX : Hid (F = (s, 10)) := Lib.hid (by rw [HF.out]; unfold fIn; rw [HHT.out, HA.out, HPA.out, if_pos HA2.out]; rfl)
       go_wp2_with fail
       go_returns
       exact ⟨ret_int (by rw [HFX.out]), by rw [HFX.out]; exact Step.same HOwe.out HBwe.out⟩
      ·have HFX : Hid (F = ({ s with places := s.places.set k ⟨1, r.hop, 0, r.version, r.value⟩ }, 0)) := Lib.hid (by rw [HF.out]; unfold fIn setPl; rw [HHT.out, HA.out, HPA.out, if_neg h1, HK.out]; rfl)
       go_upto_region 7 with (fail)
       refine Reg.region_heavy (by kernel_rfl) 14 [] (ledM_in7 s y r b w.heap.size pb k) (fun a => Below we.heap.size we a) (fun a' => Own base a' b { s with places := s.places.set k ⟨1, r.hop, 0, r.version, r.value⟩ } y ∧ Only (fun j => some j = blk y.P) we a') (fun V => [(some 33, V 0), (some 34, V 1), (some 35, V 2), (some 36, V 3), (some 37, V 4), (some 38, V 5), (some 39, V 6), (some 40, V 7), (some 41, V 8), (some 42, V 9), (some 43, V 10), (some 44, V 11), (some 45, V 12), (some 46, V 13), (none, V 14)]) (by kernel_rfl) (by kernel_rfl) (by kernel_rfl) (fun V => rfl) ?_ ?_ ?_
       ·exact (Below.refl _ _).drew
       ·intro i o ho
        have hi : i < 15 := (Array.getElem?_eq_some_iff.1 ho).1
        rcases i with _ | _ | _ | _ | _ | _ | _ | _ | _ | _ | _ | _ | _ | _ | _ | i
        rotate_right
        ·omega
        all_goals obtain rfl := Option.some.inj ho
        all_goals intro ρ wi hE hI hs hd
        all_goals try dsimp only at hI
        ·have e0 : ρ (.tmp 0) = .pointer (some ⟨b, 0, none⟩) := hs 0; exact Reg.gw hI
        ·obtain ⟨_, rfl, e33⟩ := hd 0 33; exact Reg.gw hI
        ·obtain ⟨_, rfl, e34⟩ := hd 1 34; exact Reg.gw hI
        ·obtain ⟨_, rfl, e35⟩ := hd 2 35; have x0 := (HOwe.out.later hI).cel.cell (j := 4) rfl; exact Reg.gw hI
        ·have e3 : ρ (.tmp 3) = .pointer (some ⟨w.heap.size, 0, none⟩) := hs 3; exact Reg.gw hI
        ·obtain ⟨_, rfl, e37⟩ := hd 4 37; have x0 := (HRwe.out.later hI).cell (j := 9) rfl; exact Reg.gw hI
        ·have e3 : ρ (.tmp 3) = .pointer (some ⟨w.heap.size, 0, none⟩) := hs 3; exact Reg.gw hI
        ·obtain ⟨_, rfl, e39⟩ := hd 6 39; have x0 := (HRwe.out.later hI).cell (j := 11) rfl; exact Reg.gw hI
        ·have e3 : ρ (.tmp 3) = .pointer (some ⟨w.heap.size, 0, none⟩) := hs 3; exact Reg.gw hI
        ·obtain ⟨_, rfl, e41⟩ := hd 8 41; have x0 := (HRwe.out.later hI).cell (j := 12) rfl; exact Reg.gw hI
        ·have e3 : ρ (.tmp 3) = .pointer (some ⟨w.heap.size, 0, none⟩) := hs 3; exact Reg.gw hI
        ·obtain ⟨_, rfl, e43⟩ := hd 10 43; have x0 := (HRwe.out.later hI).cell (j := 13) rfl; exact Reg.gw hI
        ·obtain ⟨_, rfl, e40⟩ := hd 7 40; obtain ⟨_, rfl, e42⟩ := hd 9 42; obtain ⟨_, rfl, e44⟩ := hd 11 44; have hc := hE.const; exact Reg.gw hI
        ·obtain ⟨_, rfl, e36⟩ := hd 3 36; obtain ⟨_, rfl, e38⟩ := hd 5 38; have hP := HPK.out.1; have hk := HPK.out.2.1; have hkl := HPK.out.2.2.1; exact Reg.gw hI
        ·obtain ⟨_, rfl, e46⟩ := hd 13 46; obtain ⟨_, rfl, e45⟩ := hd 12 45
         obtain ⟨k1, k2, k3⟩ := (HOwe.out.later hI).putCells HPK.out.1 ⟨1, r.hop, 0, r.version, r.value⟩ HPK.out.2.2.1 [.int .i64 1, .int .i64 r.hop, .int .i64 0, .int .i64 r.version, .int .i64 r.value] 0 (by simp [Value.oneCell']) (Nat.le_refl _) (fun q _ => rfl)
         exact Reg.Gives.skip (exec_store 74 _ _ rfl pb (k * 5) #[.int .i64 1, .int .i64 r.hop, .int .i64 0, .int .i64 r.version, .int .i64 r.value] (by assumption) (by assumption) (run_storeVar_mid _ pb (k * 5) 74 #[.int .i64 1, .int .i64 r.hop, .int .i64 0, .int .i64 r.version, .int .i64 r.value] k3 (by kernel_rfl) (by simp [Value.oneCell']))) ⟨trivial, ⟨k1, (Only.of_below hI).trans k2 fun _ _ e => e⟩, fun _ _ _ _ h => ledM_in7_keep h⟩
       ·intro V wf hV hI
        simp only [Reg.putsO, List.foldl_cons, List.foldl_nil, Act.put, List.setIfInBounds_toArray, List.set_cons_succ, List.set_cons_zero]
        replace hI : (fun a' => Own base a' b { s with places := s.places.set k ⟨1, r.hop, 0, r.version, r.value⟩ } y ∧ Only (fun j => some j = blk y.P) we a') wf := hI
        clear hV
        have HN := Lib.hid hI
        clear hI
        go_wp2_with fail
        go_returns
        exact ⟨ret_int (by rw [HFX.out]), by rw [HFX.out]; exact ⟨y, HN.out.1, (Only.of_below HBwe.out).trans HN.out.2 fun _ _ e => Or.inr (Or.inl e), fun k e => Or.inl e⟩⟩
def ledM_go1 (s : St) (y : Sy) (r : Rc) (b : Nat) (g : Nat) : Nat → Value → World → Prop
 | 0, v, _ => v = .pointer (some ⟨b, 0, none⟩)
 | 1, v, _ => v = .pointer (some ⟨b, 0, none⟩)
 | 2, v, _ => v = s.val y
 | 3, v, _ => v = .pointer (some ⟨g, 9, none⟩)
 | 4, v, _ => v = .int .i64 r.cell
 | 5, v, _ => v = .bool (hasC s r.cell)
 | 6, v, _ => v = .bool (!(hasC s r.cell))
 | 7, v, _ => v = .bool (!(hasC s r.cell))
 | _, _, _ => True
theorem ledM_go1_later {s : St} {y : Sy} {r : Rc} {b : Nat} {g : Nat} {j : Nat} {v : Value} {w w' : World} (_hb : Below w.heap.size w w') (h : ledM_go1 s y r b g j v w) : ledM_go1 s y r b g j v w' := by
 match j, h with
 | 0, h | 1, h | 2, h | 3, h | 4, h | 5, h | 6, h | 7, h => exact h
 | _ + 8, _ => exact trivial
def ledM_go3 (s : St) (y : Sy) (r : Rc) (b : Nat) (g : Nat) (pb : Nat) (k : Nat) (pl : Pl) : Nat → Value → World → Prop
 | 0, v, _ => v = .pointer (some ⟨b, 0, none⟩)
 | 1, v, _ => v = .pointer (some ⟨b, 0, none⟩)
 | 2, v, _ => v = .pointer (some ⟨b, 4, none⟩)
 | 3, v, _ => v = .slice y.P s.places.length y.p
 | 4, v, _ => v = .pointer (some ⟨g, 9, none⟩)
 | 5, v, _ => v = .int .i64 r.cell
 | 6, v, _ => v = .pointer (some ⟨pb, k * 5, none⟩)
 | 7, v, _ => v = .pointer (some ⟨pb, k * 5, none⟩)
 | 8, v, _ => v = .int .i64 pl.status
 | 9, v, _ => v = .bool (pl.status != 2)
 | 10, v, _ => v = .bool (pl.status != 2)
 | _, _, _ => True
def ledM_go5 (s : St) (y : Sy) (r : Rc) (b : Nat) (g : Nat) (pb : Nat) (k : Nat) (pl : Pl) : Nat → Value → World → Prop
 | 0, v, _ => v = .pointer (some ⟨g, 11, none⟩)
 | 1, v, _ => v = .int .i64 r.hop
 | 2, v, _ => v = .pointer (some ⟨b, 0, none⟩)
 | 3, v, _ => v = .pointer (some ⟨b, 0, none⟩)
 | 4, v, _ => v = .pointer (some ⟨b, 4, none⟩)
 | 5, v, _ => v = .slice y.P s.places.length y.p
 | 6, v, _ => v = .pointer (some ⟨g, 9, none⟩)
 | 7, v, _ => v = .int .i64 r.cell
 | 8, v, _ => v = .pointer (some ⟨pb, k * 5, none⟩)
 | 9, v, _ => v = .pointer (some ⟨pb, k * 5 + 1, none⟩)
 | 10, v, _ => v = .int .i64 pl.hop
 | 11, v, _ => v = .bool (r.hop != pl.hop)
 | 12, v, _ => v = .bool (r.hop != pl.hop)
 | _, _, _ => True
def ledM_go7 (s : St) (y : Sy) (r : Rc) (b : Nat) (g : Nat) (pb : Nat) (k : Nat) : Nat → Value → World → Prop
 | 0, v, _ => v = .pointer (some ⟨b, 0, none⟩)
 | 1, v, _ => v = .pointer (some ⟨b, 0, none⟩)
 | 2, v, _ => v = .pointer (some ⟨b, 4, none⟩)
 | 3, v, _ => v = .slice y.P s.places.length y.p
 | 4, v, _ => v = .pointer (some ⟨g, 9, none⟩)
 | 5, v, _ => v = .int .i64 r.cell
 | 6, v, _ => v = .pointer (some ⟨g, 11, none⟩)
 | 7, v, _ => v = .int .i64 r.hop
 | 8, v, _ => v = .agg #[.int .i64 0, .int .i64 r.hop, .int .i64 0, .int .i64 0, .int .i64 0]
 | 9, v, _ => v = .pointer (some ⟨pb, k * 5, none⟩)
 | 10, _, _ => True
 | _, _, _ => True
theorem ledM_go7_keep {s : St} {y : Sy} {r : Rc} {b : Nat} {g : Nat} {pb : Nat} {k : Nat} {j : Nat} {v : Value} {w w' : World}  (h : ledM_go7 s y r b g pb k j v w) : ledM_go7 s y r b g pb k j v w' := by
 match j, h with
 | 0, h | 1, h | 2, h | 3, h | 4, h | 5, h | 6, h | 7, h | 8, h | 9, h | 10, h => exact h
 | _ + 11, _ => exact trivial
set_option maxHeartbeats 2000000 in
theorem gone_any (s : St) (y : Sy) (r : Rc) (z : Lay) (base b : Nat) (w : World) (ho : Own base w b s y) (hh : Two w r.items r.nodes z) (hs : Small s) (hr : r.items.length ≤ 1000 ∧ r.nodes.length ≤ 1000) :
  Calls Tryz.prog 74 #[.pointer (some ⟨b, 0, none⟩), r.val z] w fun e w' => e = .returned (.int .i64 (fGone s r).2) ∧ Step base b s y w (fGone s r).1 w' := by
 obtain ⟨wb, hwb⟩ : ∃ v, v = w.alloc (.cells #[.int .i64 r.kind, .int .i64 r.tid.node, .int .i64 r.tid.epoch, .int .i64 r.tid.seq, .slice z.A r.items.length z.c, .slice z.B r.nodes.length z.d, .int .i64 r.node, .int .i64 r.count, .int .i64 r.num, .int .i64 r.cell, .int .i64 r.status, .int .i64 r.hop, .int .i64 r.version, .int .i64 r.value, .bool r.yes] 51) := ⟨_, rfl⟩
 have hb : Below w.heap.size w wb := by rw [hwb]; exact below_alloc _ _
 have HOwb := Lib.hid (ho.later hb)
 have HRwb : Hid (Cells wb w.heap.size 51 (r.vals z)) := Lib.hid (by rw [hwb]; exact cells_new _ _ _ _ rfl)
 have HHwb := Lib.hid (hh.later hb)
 have HBwb := Lib.hid hb
 have HSM := Lib.hid hs
 have HRS := Lib.hid hr
 obtain ⟨F, hF⟩ : ∃ F, fGone s r = F := ⟨_, rfl⟩
 have HF := Lib.hid hF.symm
 rw [hF]
 unfold Rc.val
 clear ho hh hs hr hb hF
 go_enter Tryz.func74, Tryz.ntmps74
 go_wp2_with fail
 rw [← hwb]
 clear hwb
 refine Reg.region_heavy (by kernel_rfl) 7 [7] (ledM_go1 s y r b w.heap.size) (fun a => Below wb.heap.size wb a) (fun a => Below wb.heap.size wb a) (fun V => [(some 6, V 0), (some 7, V 1), (some 8, V 2), (some 9, V 3), (some 10, V 4), (some 11, V 5), (some 12, V 6), (some 5, V 7)]) (by kernel_rfl) (by kernel_rfl) (by kernel_rfl) (fun V => rfl) ?_ ?_ ?_
 ·exact (Below.refl _ _).drew
 ·intro i o ho
  have hi : i < 8 := (Array.getElem?_eq_some_iff.1 ho).1
  rcases i with _ | _ | _ | _ | _ | _ | _ | _ | i
  rotate_right
  ·omega
  all_goals obtain rfl := Option.some.inj ho
  all_goals intro ρ wi hE hI hs hd
  all_goals try dsimp only at hI
  ·have e0 : ρ (.tmp 0) = .pointer (some ⟨b, 0, none⟩) := hs 0; exact Reg.gw hI
  ·obtain ⟨_, rfl, e6⟩ := hd 0 6; exact Reg.gw hI
  ·obtain ⟨_, rfl, e7⟩ := hd 1 7
   exact Reg.Gives.value (v := s.val y) (w' := wi) (exec_load _ _ rfl _ _ (by assumption) (state_load (HOwb.out.later hI))) (Reg.OwedH.same hI rfl)
  ·have e3 : ρ (.tmp 3) = .pointer (some ⟨w.heap.size, 0, none⟩) := hs 3; exact Reg.gw hI
  ·obtain ⟨_, rfl, e9⟩ := hd 3 9; have x0 := (HRwb.out.later hI).cell (j := 9) rfl; exact Reg.gw hI
  ·obtain ⟨_, rfl, e8⟩ := hd 2 8; obtain ⟨_, rfl, e10⟩ := hd 4 10; have hf := hE.func
   refine Reg.Gives.call (f := 42) (args := #[s.val y, .int .i64 r.cell]) (w' := wi) (by go_simp) ?_
   refine (has_any s y r.cell wi).mono ?_
   rintro e w'' ⟨rfl, hbb⟩
   exact ⟨_, rfl, ⟨rfl, hI.trans (hbb.mono hI.size), fun j u _ _ h => ledM_go1_later hbb h⟩⟩
  ·obtain ⟨_, rfl, e11⟩ := hd 5 11; exact Reg.gw hI
  ·obtain ⟨_, rfl, e12⟩ := hd 6 12; exact Reg.gw hI
 ·intro V wc hV hI
  have hV7 : V 7 = .bool (!(hasC s r.cell)) := hV 7 (by decide) rfl
  simp only [Reg.putsO, List.foldl_cons, List.foldl_nil, Act.put, List.setIfInBounds_toArray, List.set_cons_succ, List.set_cons_zero, hV7]
  replace hI : (fun a => Below wb.heap.size wb a) wc := hI
  clear hV hV7
  have HOwc := Lib.hid (HOwb.out.later hI)
  have HRwc := Lib.hid (HRwb.out.later hI)
  have HHwc := Lib.hid (HHwb.out.later hI)
  have HBwc := Lib.hid (HBwb.out.trans (hI.mono HBwb.out.size))
  clear hI
  cases hh : hasC s r.cell with
  | false =>
   have HHF := Lib.hid hh
   clear hh
   have HFX : Hid (F = (s, 1)) := Lib.hid (by rw [HF.out]; exact if_pos HHF.out)
   go_wp2_with fail
   go_returns
   exact ⟨ret_int (by rw [HFX.out]), by rw [HFX.out]; exact Step.same HOwc.out HBwc.out⟩
  | true =>
   have HHT := Lib.hid hh
   clear hh
   obtain ⟨pb, k, pl, hP, hk, hkl, hpl, hpa⟩ := HOwc.out.place HHT.out
   have HPK := Lib.hid (And.intro hP (And.intro hk (And.intro hkl hpl)))
   have HPA := Lib.hid hpa
   have HK := Lib.hid hk
   clear hP hk hkl hpl hpa
   go_upto_region 3 with (fail)
   refine Reg.region_heavy (by kernel_rfl) 10 [10] (ledM_go3 s y r b w.heap.size pb k pl) (fun a => Below wc.heap.size wc a) (fun a => Below wc.heap.size wc a) (fun V => [(some 14, V 0), (some 15, V 1), (some 16, V 2), (some 17, V 3), (some 18, V 4), (some 19, V 5), (some 20, V 6), (some 21, V 7), (some 22, V 8), (some 23, V 9), (some 13, V 10)]) (by kernel_rfl) (by kernel_rfl) (by kernel_rfl) (fun V => rfl) ?_ ?_ ?_
   ·exact (Below.refl _ _).drew
   ·intro i o ho
    have hi : i < 11 := (Array.getElem?_eq_some_iff.1 ho).1
    rcases i with _ | _ | _ | _ | _ | _ | _ | _ | _ | _ | _ | i
    rotate_right
    ·omega
    all_goals obtain rfl := Option.some.inj ho
    all_goals intro ρ wi hE hI hs hd
    all_goals try dsimp only at hI
    ·have e0 : ρ (.tmp 0) = .pointer (some ⟨b, 0, none⟩) := hs 0; exact Reg.gw hI
    ·obtain ⟨_, rfl, e14⟩ := hd 0 14; exact Reg.gw hI
    ·obtain ⟨_, rfl, e15⟩ := hd 1 15; exact Reg.gw hI
    ·obtain ⟨_, rfl, e16⟩ := hd 2 16; have x0 := (HOwc.out.later hI).cel.cell (j := 4) rfl; exact Reg.gw hI
    ·have e3 : ρ (.tmp 3) = .pointer (some ⟨w.heap.size, 0, none⟩) := hs 3; exact Reg.gw hI
    ·obtain ⟨_, rfl, e18⟩ := hd 4 18; have x0 := (HRwc.out.later hI).cell (j := 9) rfl; exact Reg.gw hI
    ·obtain ⟨_, rfl, e17⟩ := hd 3 17; obtain ⟨_, rfl, e19⟩ := hd 5 19; have hP := HPK.out.1; have hk := HPK.out.2.1; have hkl := HPK.out.2.2.1; exact Reg.gw hI
    ·obtain ⟨_, rfl, e20⟩ := hd 6 20; exact Reg.gw hI
    ·obtain ⟨_, rfl, e21⟩ := hd 7 21; have x0 := (HOwc.out.later hI).placeCell HPK.out.1 HPK.out.2.2.2 (j := 0) rfl
     rw [Nat.add_zero] at x0
     exact Reg.gw hI
    ·obtain ⟨_, rfl, e22⟩ := hd 8 22; have hc := hE.const; exact Reg.gw hI
    ·obtain ⟨_, rfl, e23⟩ := hd 9 23; exact Reg.gw hI
   ·intro V wd hV hI
    have hV10 : V 10 = .bool (pl.status != 2) := hV 10 (by decide) rfl
    simp only [Reg.putsO, List.foldl_cons, List.foldl_nil, Act.put, List.setIfInBounds_toArray, List.set_cons_succ, List.set_cons_zero, hV10]
    replace hI : (fun a => Below wc.heap.size wc a) wd := hI
    clear hV hV10
    have HOwd := Lib.hid (HOwc.out.later hI)
    have HRwd := Lib.hid (HRwc.out.later hI)
    have HHwd := Lib.hid (HHwc.out.later hI)
    have HBwd := Lib.hid (HBwc.out.trans (hI.mono HBwc.out.size))
    clear hI
    by_cases h0 : pl.status = 2
    ·have HA := Lib.hid h0
     clear h0
     go_upto_region 5 with (first | fail | simp [HA.out])
     refine Reg.region_heavy (by kernel_rfl) 12 [12] (ledM_go5 s y r b w.heap.size pb k pl) (fun a => Below wd.heap.size wd a) (fun a => Below wd.heap.size wd a) (fun V => [(some 25, V 0), (some 26, V 1), (some 27, V 2), (some 28, V 3), (some 29, V 4), (some 30, V 5), (some 31, V 6), (some 32, V 7), (some 33, V 8), (some 34, V 9), (some 35, V 10), (some 36, V 11), (some 24, V 12)]) (by kernel_rfl) (by kernel_rfl) (by kernel_rfl) (fun V => rfl) ?_ ?_ ?_
     ·exact (Below.refl _ _).drew
     ·intro i o ho
      have hi : i < 13 := (Array.getElem?_eq_some_iff.1 ho).1
      rcases i with _ | _ | _ | _ | _ | _ | _ | _ | _ | _ | _ | _ | _ | i
      rotate_right
      ·omega
      all_goals obtain rfl := Option.some.inj ho
      all_goals intro ρ wi hE hI hs hd
      all_goals try dsimp only at hI
      ·have e3 : ρ (.tmp 3) = .pointer (some ⟨w.heap.size, 0, none⟩) := hs 3; exact Reg.gw hI
      ·obtain ⟨_, rfl, e25⟩ := hd 0 25; have x0 := (HRwd.out.later hI).cell (j := 11) rfl; exact Reg.gw hI
      ·have e0 : ρ (.tmp 0) = .pointer (some ⟨b, 0, none⟩) := hs 0; exact Reg.gw hI
      ·obtain ⟨_, rfl, e27⟩ := hd 2 27; exact Reg.gw hI
      ·obtain ⟨_, rfl, e28⟩ := hd 3 28; exact Reg.gw hI
      ·obtain ⟨_, rfl, e29⟩ := hd 4 29; have x0 := (HOwd.out.later hI).cel.cell (j := 4) rfl; exact Reg.gw hI
      ·have e3 : ρ (.tmp 3) = .pointer (some ⟨w.heap.size, 0, none⟩) := hs 3; exact Reg.gw hI
      ·obtain ⟨_, rfl, e31⟩ := hd 6 31; have x0 := (HRwd.out.later hI).cell (j := 9) rfl; exact Reg.gw hI
      ·obtain ⟨_, rfl, e30⟩ := hd 5 30; obtain ⟨_, rfl, e32⟩ := hd 7 32; have hP := HPK.out.1; have hk := HPK.out.2.1; have hkl := HPK.out.2.2.1; exact Reg.gw hI
      ·obtain ⟨_, rfl, e33⟩ := hd 8 33; exact Reg.gw hI
      ·obtain ⟨_, rfl, e34⟩ := hd 9 34; have x0 := (HOwd.out.later hI).placeCell HPK.out.1 HPK.out.2.2.2 (j := 1) rfl; exact Reg.gw hI
      ·obtain ⟨_, rfl, e26⟩ := hd 1 26; obtain ⟨_, rfl, e35⟩ := hd 10 35; exact Reg.gw hI
      ·obtain ⟨_, rfl, e36⟩ := hd 11 36; exact Reg.gw hI
     ·intro V we hV hI
      have hV12 : V 12 = .bool (r.hop != pl.hop) := hV 12 (by decide) rfl
      simp only [Reg.putsO, List.foldl_cons, List.foldl_nil, Act.put, List.setIfInBounds_toArray, List.set_cons_succ, List.set_cons_zero, hV12]
      replace hI : (fun a => Below wd.heap.size wd a) we := hI
      clear hV hV12
      have HOwe := Lib.hid (HOwd.out.later hI)
      have HRwe := Lib.hid (HRwd.out.later hI)
      have HHwe := Lib.hid (HHwd.out.later hI)
      have HBwe := Lib.hid (HBwd.out.trans (hI.mono HBwd.out.size))
      clear hI
      by_cases h1 : r.hop = pl.hop
      ·have HA2 := Lib.hid h1
       have HFX : Hid (F = ({ s with places := s.places.set k ⟨0, r.hop, 0, 0, 0⟩ }, 0)) := Lib.hid (by rw [HF.out]; unfold fGone setPl; rw [HHT.out, HPA.out, if_neg (by decide), if_neg (fun h => h HA.out), if_neg (fun h => h HA2.out), HK.out]; rfl)
       go_upto_region 7 with (fail)
       refine Reg.region_heavy (by kernel_rfl) 10 [] (ledM_go7 s y r b w.heap.size pb k) (fun a => Below we.heap.size we a) (fun a' => Own base a' b { s with places := s.places.set k ⟨0, r.hop, 0, 0, 0⟩ } y ∧ Only (fun j => some j = blk y.P) we a') (fun V => [(some 37, V 0), (some 38, V 1), (some 39, V 2), (some 40, V 3), (some 41, V 4), (some 42, V 5), (some 43, V 6), (some 44, V 7), (some 45, V 8), (some 46, V 9), (none, V 10)]) (by kernel_rfl) (by kernel_rfl) (by kernel_rfl) (fun V => rfl) ?_ ?_ ?_
       ·exact (Below.refl _ _).drew
       ·intro i o ho
        have hi : i < 11 := (Array.getElem?_eq_some_iff.1 ho).1
        rcases i with _ | _ | _ | _ | _ | _ | _ | _ | _ | _ | _ | i
        rotate_right
        ·omega
        all_goals obtain rfl := Option.some.inj ho
        all_goals intro ρ wi hE hI hs hd
        all_goals try dsimp only at hI
        ·have e0 : ρ (.tmp 0) = .pointer (some ⟨b, 0, none⟩) := hs 0; exact Reg.gw hI
        ·obtain ⟨_, rfl, e37⟩ := hd 0 37; exact Reg.gw hI
        ·obtain ⟨_, rfl, e38⟩ := hd 1 38; exact Reg.gw hI
        ·obtain ⟨_, rfl, e39⟩ := hd 2 39; have x0 := (HOwe.out.later hI).cel.cell (j := 4) rfl; exact Reg.gw hI
        ·have e3 : ρ (.tmp 3) = .pointer (some ⟨w.heap.size, 0, none⟩) := hs 3; exact Reg.gw hI
        ·obtain ⟨_, rfl, e41⟩ := hd 4 41; have x0 := (HRwe.out.later hI).cell (j := 9) rfl; exact Reg.gw hI
        ·have e3 : ρ (.tmp 3) = .pointer (some ⟨w.heap.size, 0, none⟩) := hs 3; exact Reg.gw hI
        ·obtain ⟨_, rfl, e43⟩ := hd 6 43; have x0 := (HRwe.out.later hI).cell (j := 11) rfl; exact Reg.gw hI
        ·obtain ⟨_, rfl, e44⟩ := hd 7 44; have hc := hE.const; exact Reg.gw hI
        ·obtain ⟨_, rfl, e40⟩ := hd 3 40; obtain ⟨_, rfl, e42⟩ := hd 5 42; have hP := HPK.out.1; have hk := HPK.out.2.1; have hkl := HPK.out.2.2.1; exact Reg.gw hI
        ·obtain ⟨_, rfl, e46⟩ := hd 9 46; obtain ⟨_, rfl, e45⟩ := hd 8 45
         obtain ⟨k1, k2, k3⟩ := (HOwe.out.later hI).putCells HPK.out.1 ⟨0, r.hop, 0, 0, 0⟩ HPK.out.2.2.1 [.int .i64 0, .int .i64 r.hop, .int .i64 0, .int .i64 0, .int .i64 0] 0 (by simp [Value.oneCell']) (Nat.le_refl _) (fun q _ => rfl)
         exact Reg.Gives.skip (exec_store 74 _ _ rfl pb (k * 5) #[.int .i64 0, .int .i64 r.hop, .int .i64 0, .int .i64 0, .int .i64 0] (by assumption) (by assumption) (run_storeVar_mid _ pb (k * 5) 74 #[.int .i64 0, .int .i64 r.hop, .int .i64 0, .int .i64 0, .int .i64 0] k3 (by kernel_rfl) (by simp [Value.oneCell']))) ⟨trivial, ⟨k1, (Only.of_below hI).trans k2 fun _ _ e => e⟩, fun _ _ _ _ h => ledM_go7_keep h⟩
       ·intro V wf hV hI
        simp only [Reg.putsO, List.foldl_cons, List.foldl_nil, Act.put, List.setIfInBounds_toArray, List.set_cons_succ, List.set_cons_zero]
        replace hI : (fun a' => Own base a' b { s with places := s.places.set k ⟨0, r.hop, 0, 0, 0⟩ } y ∧ Only (fun j => some j = blk y.P) we a') wf := hI
        clear hV
        have HN := Lib.hid hI
        clear hI
        go_wp2_with fail
        go_returns
        exact ⟨ret_int (by rw [HFX.out]), by rw [HFX.out]; exact ⟨y, HN.out.1, (Only.of_below HBwe.out).trans HN.out.2 fun _ _ e => Or.inr (Or.inl e), fun k e => Or.inl e⟩⟩
      ·have HA2 := Lib.hid h1
       have HFX : Hid (F = (s, 10)) := Lib.hid (by rw [HF.out]; unfold fGone; rw [HHT.out, HPA.out, if_neg (by decide), if_neg (fun h => h HA.out), if_pos HA2.out])
       go_wp2_with fail
       go_returns
       exact ⟨ret_int (by rw [HFX.out]), by rw [HFX.out]; exact Step.same HOwe.out HBwe.out⟩
    ·have HA := Lib.hid h0
     have HFX : Hid (F = (s, 8)) := Lib.hid (by rw [HF.out]; unfold fGone; rw [HHT.out, HPA.out, if_neg (by decide), if_pos HA.out])
     go_wp2_with fail
     go_returns
     exact ⟨ret_int (by rw [HFX.out]), by rw [HFX.out]; exact Step.same HOwd.out HBwd.out⟩
end Go.Proofs.YtalhbblmnahcdaaGreat.Led
