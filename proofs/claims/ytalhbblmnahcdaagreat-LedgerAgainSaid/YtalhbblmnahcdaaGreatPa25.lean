/-
  Layer 8: what single records do: Epoch, Cell, In, Gone, End.
  Conditions: none.
-/
import Derived.Test.YtalhbblmnahcdaaGreatPa24
namespace Go.Proofs.YtalhbblmnahcdaaGreat.Led
set_option maxRecDepth 100000
open Go.RowKit Go.Deep Go.Proofs.YtalhbblmnahcdaaGreat.Mem Go.Proofs.YtalhbblmnahcdaaGreat.Item Go.Proofs.YtalhbblmnahcdaaGreat.Rec
def room (s : St) : Bool := decide (((s.prep.length : Int) + (s.dec.length : Int)) < 512)
def setPl (s : St) (c : Int) (p : Pl) : St := { s with places := s.places.set c.toNat p }
def fBegin (s : St) (r : Rc) : St × Int := if r.num ≤ s.epoch then (s, 10) else ({ s with epoch := r.num }, 0)
def fIn (s : St) (r : Rc) : St × Int := if hasC s r.cell = false then (s, 1) else if owns s r.cell = true then (s, 9) else if r.hop ≤ (plAt s r.cell).hop then (s, 10) else (setPl s r.cell ⟨1, r.hop, 0, r.version, r.value⟩, 0)
def fGone (s : St) (r : Rc) : St × Int := if hasC s r.cell = false then (s, 1) else if (plAt s r.cell).status ≠ 2 then (s, 8) else if r.hop ≠ (plAt s r.cell).hop then (s, 10) else (setPl s r.cell ⟨0, r.hop, 0, 0, 0⟩, 0)
def fPlace (s : St) (r : Rc) : St × Int := if hasC s r.cell = false then (s, 1) else if above s [r.node] = true then (s, 1) else if locked s r.cell = true then (s, 12) else (setPl s r.cell ⟨r.status, r.hop, r.node, r.version, r.value⟩, 0)
def ledM_beg1 (s : St) (r : Rc) (b : Nat) (g : Nat) : Nat → Value → World → Prop
 | 0, v, _ => v = .pointer (some ⟨g, 8, none⟩)
 | 1, v, _ => v = .int .i64 r.num
 | 2, v, _ => v = .pointer (some ⟨b, 0, none⟩)
 | 3, v, _ => v = .pointer (some ⟨b, 0, none⟩)
 | 4, v, _ => v = .pointer (some ⟨b, 3, none⟩)
 | 5, v, _ => v = .int .i64 s.epoch
 | 6, v, _ => v = .bool (decide (r.num ≤ s.epoch))
 | _, _, _ => True
set_option maxHeartbeats 1000000 in
theorem begin_any (s : St) (y : Sy) (r : Rc) (z : Lay) (base b : Nat) (w : World) (ho : Own base w b s y) (hh : Two w r.items r.nodes z) (hs : Small s) (hr : r.items.length ≤ 1000 ∧ r.nodes.length ≤ 1000) :
  Calls Tryz.prog 65 #[.pointer (some ⟨b, 0, none⟩), r.val z] w fun e w' => e = .returned (.int .i64 (fBegin s r).2) ∧ Step base b s y w (fBegin s r).1 w' := by
 obtain ⟨wb, hwb⟩ : ∃ v, v = w.alloc (.cells #[.int .i64 r.kind, .int .i64 r.tid.node, .int .i64 r.tid.epoch, .int .i64 r.tid.seq, .slice z.A r.items.length z.c, .slice z.B r.nodes.length z.d, .int .i64 r.node, .int .i64 r.count, .int .i64 r.num, .int .i64 r.cell, .int .i64 r.status, .int .i64 r.hop, .int .i64 r.version, .int .i64 r.value, .bool r.yes] 51) := ⟨_, rfl⟩
 have hb : Below w.heap.size w wb := by rw [hwb]; exact below_alloc _ _
 have HOwb := Lib.hid (ho.later hb)
 have HRwb : Hid (Cells wb w.heap.size 51 (r.vals z)) := Lib.hid (by rw [hwb]; exact cells_new _ _ _ _ rfl)
 have HHwb := Lib.hid (hh.later hb)
 have HBwb := Lib.hid hb
 have HSM := Lib.hid hs
 have HRS := Lib.hid hr
 obtain ⟨F, hF⟩ : ∃ F, fBegin s r = F := ⟨_, rfl⟩
 have HF := Lib.hid hF.symm
 rw [hF]
 unfold Rc.val
 clear ho hh hs hr hb hF
 go_enter Tryz.func65, Tryz.ntmps65
 go_wp2_with fail
 rw [← hwb]
 clear hwb
 refine Reg.region_heavy (by kernel_rfl) 6 [6] (ledM_beg1 s r b w.heap.size) (fun a => Below wb.heap.size wb a) (fun a => Below wb.heap.size wb a) (fun V => [(some 5, V 0), (some 6, V 1), (some 7, V 2), (some 8, V 3), (some 9, V 4), (some 10, V 5), (some 11, V 6)]) (by kernel_rfl) (by kernel_rfl) (by kernel_rfl) (fun V => rfl) ?_ ?_ ?_
 ·exact (Below.refl _ _).drew
 ·intro i o ho
  have hi : i < 7 := (Array.getElem?_eq_some_iff.1 ho).1
  rcases i with _ | _ | _ | _ | _ | _ | _ | i
  rotate_right
  ·omega
  all_goals obtain rfl := Option.some.inj ho
  all_goals intro ρ wi hE hI hs hd
  all_goals try dsimp only at hI
  ·have e3 : ρ (.tmp 3) = .pointer (some ⟨w.heap.size, 0, none⟩) := hs 3; exact Reg.gw hI
  ·obtain ⟨_, rfl, e5⟩ := hd 0 5; have x0 := (HRwb.out.later hI).cell (j := 8) rfl; exact Reg.gw hI
  ·have e0 : ρ (.tmp 0) = .pointer (some ⟨b, 0, none⟩) := hs 0; exact Reg.gw hI
  ·obtain ⟨_, rfl, e7⟩ := hd 2 7; exact Reg.gw hI
  ·obtain ⟨_, rfl, e8⟩ := hd 3 8; exact Reg.gw hI
  ·obtain ⟨_, rfl, e9⟩ := hd 4 9; have x0 := (HOwb.out.later hI).cel.cell (j := 3) rfl; exact Reg.gw hI
  ·obtain ⟨_, rfl, e6⟩ := hd 1 6; obtain ⟨_, rfl, e10⟩ := hd 5 10; exact Reg.gw hI
 ·intro V wc hV hI
  have hV6 : V 6 = .bool (decide (r.num ≤ s.epoch)) := hV 6 (by decide) rfl
  simp only [Reg.putsO, List.foldl_cons, List.foldl_nil, Act.put, List.setIfInBounds_toArray, List.set_cons_succ, List.set_cons_zero, hV6]
  replace hI : (fun a => Below wb.heap.size wb a) wc := hI
  clear hV hV6
  have HOwc := Lib.hid (HOwb.out.later hI)
  have HRwc := Lib.hid (HRwb.out.later hI)
  have HHwc := Lib.hid (HHwb.out.later hI)
  have HBwc := Lib.hid (HBwb.out.trans (hI.mono HBwb.out.size))
  clear hI
  by_cases h1 : r.num ≤ s.epoch
  ·have HFX : Hid (F = (s, 10)) := Lib.hid (by rw [HF.out]; exact if_pos h1)
   go_wp2_with fail
   go_returns
   exact ⟨ret_int (by rw [HFX.out]), by rw [HFX.out]; exact Step.same HOwc.out HBwc.out⟩
  ·have HFX : Hid (F = ({ s with epoch := r.num }, 0)) := Lib.hid (by rw [HF.out]; exact if_neg h1)
   have hc := HRwc.out
   unfold Rc.vals at hc
   have x8 := hc.cell (j := 8) rfl
   have hq := HOwc.out.cel
   unfold St.vals at hq
   have q3 := hq.cell (j := 3) rfl
   have q4 := hq.frozen (j := 3) (by simp)
   have HN : Hid (Own base (wc.setCell ⟨b, 3, none⟩ (.int .i64 r.num)) b { s with epoch := r.num } y ∧ Only (fun k => k = b) wc (wc.setCell ⟨b, 3, none⟩ (.int .i64 r.num))) := Lib.hid ⟨HOwc.out.put (Only.of_set _ ⟨b, 3, none⟩ _) (HOwc.out.cel.set_ 3 _) rfl rfl rfl rfl, Only.of_set _ ⟨b, 3, none⟩ _⟩
   clear hc hq
   go_wp2_with fail
   go_returns
   exact ⟨ret_int (by rw [HFX.out]), by rw [HFX.out]; exact ⟨y, HN.out.1, (Only.of_below HBwc.out).trans HN.out.2 fun k _ e => Or.inl e, fun k e => Or.inl e⟩⟩
def ledM_pl1f (s : St) (y : Sy) (r : Rc) (b : Nat) (g : Nat) : Nat → Value → World → Prop
 | 0, v, _ => v = .pointer (some ⟨b, 0, none⟩)
 | 1, v, _ => v = .pointer (some ⟨b, 0, none⟩)
 | 2, v, _ => v = s.val y
 | 3, v, _ => v = .pointer (some ⟨g, 9, none⟩)
 | 4, v, _ => v = .int .i64 r.cell
 | 5, v, _ => v = .bool false
 | 6, v, _ => v = .bool true
 | 7, v, _ => v = .bool true
 | 8, v, _ => v = undef
 | 9, v, _ => v = undef
 | 10, v, _ => v = undef
 | 11, v, _ => v = undef
 | 12, v, _ => v = undef
 | 13, v, _ => v = undef
 | 14, v, _ => v = undef
 | 15, v, _ => v = .bool true
 | 16, v, _ => v = .bool true
 | _, _, _ => True
theorem ledM_pl1f_later {s : St} {y : Sy} {r : Rc} {b : Nat} {g : Nat} {j : Nat} {v : Value} {w w' : World} (_hb : Below w.heap.size w w') (h : ledM_pl1f s y r b g j v w) : ledM_pl1f s y r b g j v w' := by
 match j, h with
 | 0, h | 1, h | 2, h | 3, h | 4, h | 5, h | 6, h | 7, h | 8, h | 9, h | 10, h | 11, h | 12, h | 13, h | 14, h | 15, h | 16, h => exact h
 | _ + 17, _ => exact trivial
def ledM_pl1t (s : St) (y : Sy) (r : Rc) (b : Nat) (g : Nat) : Nat → Value → World → Prop
 | 0, v, _ => v = .pointer (some ⟨b, 0, none⟩)
 | 1, v, _ => v = .pointer (some ⟨b, 0, none⟩)
 | 2, v, _ => v = s.val y
 | 3, v, _ => v = .pointer (some ⟨g, 9, none⟩)
 | 4, v, _ => v = .int .i64 r.cell
 | 5, v, _ => v = .bool true
 | 6, v, _ => v = .bool false
 | 7, v, _ => v = .bool false
 | 8, v, _ => v = .pointer (some ⟨b, 0, none⟩)
 | 9, v, _ => v = .pointer (some ⟨b, 0, none⟩)
 | 10, v, _ => v = s.val y
 | 11, v, _ => v = .pointer (some ⟨g, 6, none⟩)
 | 12, v, _ => v = .int .i64 r.node
 | 13, v, w => ∃ kk, v = .slice (some ⟨kk, 0, none⟩) 1 1 ∧ Cells w kk 3 ([r.node].map (Value.int .i64))
 | 14, v, _ => v = .bool (above s [r.node])
 | 15, v, _ => v = .bool (above s [r.node])
 | 16, v, _ => v = .bool (above s [r.node])
 | _, _, _ => True
theorem ledM_pl1t_later {s : St} {y : Sy} {r : Rc} {b : Nat} {g : Nat} {j : Nat} {v : Value} {w w' : World} (hb : Below w.heap.size w w') (h : ledM_pl1t s y r b g j v w) : ledM_pl1t s y r b g j v w' := by
 match j, h with
 | 0, h | 1, h | 2, h | 3, h | 4, h | 5, h | 6, h | 7, h | 8, h | 9, h | 10, h | 11, h | 12, h | 14, h | 15, h | 16, h => exact h
 | 13, h =>
  obtain ⟨kk, h1, h2⟩ := h
  exact ⟨kk, h1, h2.later hb⟩
 | _ + 17, _ => exact trivial
def ledM_pl3 (s : St) (y : Sy) (r : Rc) (b : Nat) (g : Nat) : Nat → Value → World → Prop
 | 0, v, _ => v = .pointer (some ⟨b, 0, none⟩)
 | 1, v, _ => v = .pointer (some ⟨b, 0, none⟩)
 | 2, v, _ => v = s.val y
 | 3, v, _ => v = .pointer (some ⟨g, 9, none⟩)
 | 4, v, _ => v = .int .i64 r.cell
 | 5, v, _ => v = .bool (locked s r.cell)
 | 6, v, _ => v = .bool (locked s r.cell)
 | _, _, _ => True
theorem ledM_pl3_later {s : St} {y : Sy} {r : Rc} {b : Nat} {g : Nat} {j : Nat} {v : Value} {w w' : World} (_hb : Below w.heap.size w w') (h : ledM_pl3 s y r b g j v w) : ledM_pl3 s y r b g j v w' := by
 match j, h with
 | 0, h | 1, h | 2, h | 3, h | 4, h | 5, h | 6, h => exact h
 | _ + 7, _ => exact trivial
def ledM_pl5 (s : St) (y : Sy) (r : Rc) (b : Nat) (g : Nat) (pb : Nat) (k : Nat) : Nat → Value → World → Prop
 | 0, v, _ => v = .pointer (some ⟨b, 0, none⟩)
 | 1, v, _ => v = .pointer (some ⟨b, 0, none⟩)
 | 2, v, _ => v = .pointer (some ⟨b, 4, none⟩)
 | 3, v, _ => v = .slice y.P s.places.length y.p
 | 4, v, _ => v = .pointer (some ⟨g, 9, none⟩)
 | 5, v, _ => v = .int .i64 r.cell
 | 6, v, _ => v = .pointer (some ⟨g, 10, none⟩)
 | 7, v, _ => v = .int .i64 r.status
 | 8, v, _ => v = .pointer (some ⟨g, 11, none⟩)
 | 9, v, _ => v = .int .i64 r.hop
 | 10, v, _ => v = .pointer (some ⟨g, 6, none⟩)
 | 11, v, _ => v = .int .i64 r.node
 | 12, v, _ => v = .pointer (some ⟨g, 12, none⟩)
 | 13, v, _ => v = .int .i64 r.version
 | 14, v, _ => v = .pointer (some ⟨g, 13, none⟩)
 | 15, v, _ => v = .int .i64 r.value
 | 16, v, _ => v = .agg #[.int .i64 r.status, .int .i64 r.hop, .int .i64 r.node, .int .i64 r.version, .int .i64 r.value]
 | 17, v, _ => v = .pointer (some ⟨pb, k * 5, none⟩)
 | 18, _, _ => True
 | _, _, _ => True
theorem ledM_pl5_keep {s : St} {y : Sy} {r : Rc} {b : Nat} {g : Nat} {pb : Nat} {k : Nat} {j : Nat} {v : Value} {w w' : World}  (h : ledM_pl5 s y r b g pb k j v w) : ledM_pl5 s y r b g pb k j v w' := by
 match j, h with
 | 0, h | 1, h | 2, h | 3, h | 4, h | 5, h | 6, h | 7, h | 8, h | 9, h | 10, h | 11, h | 12, h | 13, h | 14, h | 15, h | 16, h | 17, h | 18, h => exact h
 | _ + 19, _ => exact trivial
set_option maxHeartbeats 2000000 in
theorem place_any (s : St) (y : Sy) (r : Rc) (z : Lay) (base b : Nat) (w : World) (ho : Own base w b s y) (hh : Two w r.items r.nodes z) (hs : Small s) (hr : r.items.length ≤ 1000 ∧ r.nodes.length ≤ 1000) :
  Calls Tryz.prog 66 #[.pointer (some ⟨b, 0, none⟩), r.val z] w fun e w' => e = .returned (.int .i64 (fPlace s r).2) ∧ Step base b s y w (fPlace s r).1 w' := by
 obtain ⟨wb, hwb⟩ : ∃ v, v = w.alloc (.cells #[.int .i64 r.kind, .int .i64 r.tid.node, .int .i64 r.tid.epoch, .int .i64 r.tid.seq, .slice z.A r.items.length z.c, .slice z.B r.nodes.length z.d, .int .i64 r.node, .int .i64 r.count, .int .i64 r.num, .int .i64 r.cell, .int .i64 r.status, .int .i64 r.hop, .int .i64 r.version, .int .i64 r.value, .bool r.yes] 51) := ⟨_, rfl⟩
 have hb : Below w.heap.size w wb := by rw [hwb]; exact below_alloc _ _
 have HOwb := Lib.hid (ho.later hb)
 have HRwb : Hid (Cells wb w.heap.size 51 (r.vals z)) := Lib.hid (by rw [hwb]; exact cells_new _ _ _ _ rfl)
 have HHwb := Lib.hid (hh.later hb)
 have HBwb := Lib.hid hb
 have HSM := Lib.hid hs
 have HRS := Lib.hid hr
 obtain ⟨F, hF⟩ : ∃ F, fPlace s r = F := ⟨_, rfl⟩
 have HF := Lib.hid hF.symm
 rw [hF]
 unfold Rc.val
 clear ho hh hs hr hb hF
 go_enter Tryz.func66, Tryz.ntmps66
 go_wp2_with fail
 rw [← hwb]
 clear hwb
 cases hh : hasC s r.cell with
 | false =>
  have HHF := Lib.hid hh
  clear hh
  refine Reg.region_heavy (by kernel_rfl) 16 [16] (ledM_pl1f s y r b w.heap.size) (fun a => Below wb.heap.size wb a) (fun a => Below wb.heap.size wb a) (fun V => [(some 6, V 0), (some 7, V 1), (some 8, V 2), (some 9, V 3), (some 10, V 4), (some 11, V 5), (some 12, V 6), (some 13, V 7), (some 14, V 8), (some 15, V 9), (some 16, V 10), (some 17, V 11), (some 18, V 12), (some 19, V 13), (some 20, V 14), (some 21, V 15), (some 5, V 16)]) (by kernel_rfl) (by kernel_rfl) (by kernel_rfl) (fun V => rfl) ?_ ?_ ?_
  ·exact (Below.refl _ _).drew
  ·intro i o ho
   have hi : i < 17 := (Array.getElem?_eq_some_iff.1 ho).1
   rcases i with _ | _ | _ | _ | _ | _ | _ | _ | _ | _ | _ | _ | _ | _ | _ | _ | _ | i
   rotate_right
   ·omega
   all_goals obtain rfl := Option.some.inj ho
   all_goals intro ρ wi hE hI hs hd
   all_goals try dsimp only at hI
   ·have e0 : ρ (.tmp 0) = .pointer (some ⟨b, 0, none⟩) := hs 0; exact Reg.gw hI
   ·obtain ⟨_, rfl, e6⟩ := hd 0 6; exact Reg.gw hI
   ·obtain ⟨_, rfl, e7⟩ := hd 1 7
    exact Reg.Gives.value (v := s.val y) (w' := wi) (exec_load _ _ rfl _ _ (by assumption) (state_load (HOwb.out.later hI))) (Reg.OwedH.same hI rfl)
   ·have e3 : ρ (.tmp 3) = .pointer (some ⟨w.heap.size, 0, none⟩) := hs 3; exact Reg.gw hI
   ·obtain ⟨_, rfl, e9⟩ := hd 3 9; have x0 := (HRwb.out.later hI).cell (j := 9) rfl; exact Reg.gw hI
   ·obtain ⟨_, rfl, e8⟩ := hd 2 8; obtain ⟨_, rfl, e10⟩ := hd 4 10; have hf := hE.func
    refine Reg.Gives.call (f := 42) (args := #[s.val y, .int .i64 r.cell]) (w' := wi) (by go_simp) ?_
    refine (calls_bool (has_any s y r.cell wi) HHF.out).mono ?_
    rintro e w'' ⟨rfl, hbb⟩
    exact ⟨_, rfl, ⟨rfl, hI.trans (hbb.mono hI.size), fun j u _ _ h => ledM_pl1f_later hbb h⟩⟩
   ·obtain ⟨_, rfl, e11⟩ := hd 5 11; exact Reg.gw hI
   ·obtain ⟨_, rfl, e12⟩ := hd 6 12; exact Reg.gw hI
   ·exact Reg.no hI
   ·exact Reg.no hI
   ·exact Reg.no hI
   ·exact Reg.no hI
   ·exact Reg.no hI
   ·exact Reg.no hI
   ·exact Reg.no hI
   ·obtain ⟨_, rfl, e13⟩ := hd 7 13; obtain ⟨_, rfl, e20⟩ := hd 14 20; have hc := hE.const; exact Reg.gw hI
   ·obtain ⟨_, rfl, e21⟩ := hd 15 21; exact Reg.gw hI
  ·intro V wc hV hI
   have hV16 : V 16 = .bool true := hV 16 (by decide) rfl
   simp only [Reg.putsO, List.foldl_cons, List.foldl_nil, Act.put, List.setIfInBounds_toArray, List.set_cons_succ, List.set_cons_zero, hV16]
   replace hI : (fun a => Below wb.heap.size wb a) wc := hI
   clear hV hV16
   have HOwc := Lib.hid (HOwb.out.later hI)
   have HRwc := Lib.hid (HRwb.out.later hI)
   have HHwc := Lib.hid (HHwb.out.later hI)
   have HBwc := Lib.hid (HBwb.out.trans (hI.mono HBwb.out.size))
   clear hI
   have HFX : Hid (F = (s, 1)) := Lib.hid (by rw [HF.out]; exact if_pos HHF.out)
   go_wp2_with fail
   go_returns
   exact ⟨ret_int (by rw [HFX.out]), by rw [HFX.out]; exact Step.same HOwc.out HBwc.out⟩
 | true =>
  have HHT := Lib.hid hh
  clear hh
  refine Reg.region_heavy (by kernel_rfl) 16 [16] (ledM_pl1t s y r b w.heap.size) (fun a => Below wb.heap.size wb a) (fun a => Below wb.heap.size wb a) (fun V => [(some 6, V 0), (some 7, V 1), (some 8, V 2), (some 9, V 3), (some 10, V 4), (some 11, V 5), (some 12, V 6), (some 13, V 7), (some 14, V 8), (some 15, V 9), (some 16, V 10), (some 17, V 11), (some 18, V 12), (some 19, V 13), (some 20, V 14), (some 21, V 15), (some 5, V 16)]) (by kernel_rfl) (by kernel_rfl) (by kernel_rfl) (fun V => rfl) ?_ ?_ ?_
  ·exact (Below.refl _ _).drew
  ·intro i o ho
   have hi : i < 17 := (Array.getElem?_eq_some_iff.1 ho).1
   rcases i with _ | _ | _ | _ | _ | _ | _ | _ | _ | _ | _ | _ | _ | _ | _ | _ | _ | i
   rotate_right
   ·omega
   all_goals obtain rfl := Option.some.inj ho
   all_goals intro ρ wi hE hI hs hd
   all_goals try dsimp only at hI
   ·have e0 : ρ (.tmp 0) = .pointer (some ⟨b, 0, none⟩) := hs 0; exact Reg.gw hI
   ·obtain ⟨_, rfl, e6⟩ := hd 0 6; exact Reg.gw hI
   ·obtain ⟨_, rfl, e7⟩ := hd 1 7
    exact Reg.Gives.value (v := s.val y) (w' := wi) (exec_load _ _ rfl _ _ (by assumption) (state_load (HOwb.out.later hI))) (Reg.OwedH.same hI rfl)
   ·have e3 : ρ (.tmp 3) = .pointer (some ⟨w.heap.size, 0, none⟩) := hs 3; exact Reg.gw hI
   ·obtain ⟨_, rfl, e9⟩ := hd 3 9; have x0 := (HRwb.out.later hI).cell (j := 9) rfl; exact Reg.gw hI
   ·obtain ⟨_, rfl, e8⟩ := hd 2 8; obtain ⟨_, rfl, e10⟩ := hd 4 10; have hf := hE.func
    refine Reg.Gives.call (f := 42) (args := #[s.val y, .int .i64 r.cell]) (w' := wi) (by go_simp) ?_
    refine (calls_bool (has_any s y r.cell wi) HHT.out).mono ?_
    rintro e w'' ⟨rfl, hbb⟩
    exact ⟨_, rfl, ⟨rfl, hI.trans (hbb.mono hI.size), fun j u _ _ h => ledM_pl1t_later hbb h⟩⟩
   ·obtain ⟨_, rfl, e11⟩ := hd 5 11; exact Reg.gw hI
   ·obtain ⟨_, rfl, e12⟩ := hd 6 12; exact Reg.gw hI
   ·have e0 : ρ (.tmp 0) = .pointer (some ⟨b, 0, none⟩) := hs 0
    refine Reg.yes ?_
    exact Reg.gw hI
   ·obtain ⟨_, rfl, e14⟩ := hd 8 14
    refine Reg.yes ?_
    exact Reg.gw hI
   ·obtain ⟨_, rfl, e15⟩ := hd 9 15
    refine Reg.yes ?_
    exact Reg.Gives.value (v := s.val y) (w' := wi) (exec_load _ _ rfl _ _ (by assumption) (state_load (HOwb.out.later hI))) (Reg.OwedH.same hI rfl)
   ·have e3 : ρ (.tmp 3) = .pointer (some ⟨w.heap.size, 0, none⟩) := hs 3
    refine Reg.yes ?_
    exact Reg.gw hI
   ·obtain ⟨_, rfl, e17⟩ := hd 11 17
    refine Reg.yes ?_
    have x0 := (HRwb.out.later hI).cell (j := 6) rfl; exact Reg.gw hI
   ·obtain ⟨_, rfl, e18⟩ := hd 12 18
    refine Reg.yes ?_
    have hal := below_alloc wi (.cells #[.int .i64 r.node] 3)
    exact Reg.Gives.value (v := .slice (some ⟨wi.heap.size, 0, none⟩) 1 1) (w' := wi.alloc (.cells #[.int .i64 r.node] 3)) (by go_simp) ⟨⟨_, rfl, cells_new wi _ _ _ rfl⟩, hI.trans (hal.mono hI.size), fun j u _ _ h => ledM_pl1t_later hal h⟩
   ·obtain ⟨_, rfl, e16⟩ := hd 10 16; obtain ⟨u19, g19, e19⟩ := hd 13 19; have hf := hE.func
    refine Reg.yes ?_
    obtain ⟨kk, rfl, hck⟩ := g19
    refine Reg.Gives.call (f := 95) (args := #[s.val y, .slice (some ⟨kk, 0, none⟩) 1 1]) (w' := wi) (by go_simp) ?_
    refine (above_any s y (some ⟨kk, 0, none⟩) [r.node] 1 wi (fun j hj => ⟨kk, 0, rfl, cells_nums hck j hj⟩) (by simp)).mono ?_
    rintro e w'' ⟨rfl, hbb⟩
    exact ⟨_, rfl, ⟨rfl, hI.trans (hbb.mono hI.size), fun j u _ _ h => ledM_pl1t_later hbb h⟩⟩
   ·obtain ⟨_, rfl, e13⟩ := hd 7 13; obtain ⟨_, rfl, e20⟩ := hd 14 20; have hc := hE.const; exact Reg.gw hI
   ·obtain ⟨_, rfl, e21⟩ := hd 15 21; exact Reg.gw hI
  ·intro V wc hV hI
   have hV16 : V 16 = .bool (above s [r.node]) := hV 16 (by decide) rfl
   simp only [Reg.putsO, List.foldl_cons, List.foldl_nil, Act.put, List.setIfInBounds_toArray, List.set_cons_succ, List.set_cons_zero, hV16]
   replace hI : (fun a => Below wb.heap.size wb a) wc := hI
   clear hV hV16
   have HOwc := Lib.hid (HOwb.out.later hI)
   have HRwc := Lib.hid (HRwb.out.later hI)
   have HHwc := Lib.hid (HHwb.out.later hI)
   have HBwc := Lib.hid (HBwb.out.trans (hI.mono HBwb.out.size))
   clear hI
   cases ha : above s [r.node] with
   | true =>
    have HA := Lib.hid ha
    clear ha
    have HFX : Hid (F = (s, 1)) := Lib.hid (by rw [HF.out]; unfold fPlace; rw [HHT.out, HA.out]; rfl)
    go_wp2_with fail
    go_returns
    exact ⟨ret_int (by rw [HFX.out]), by rw [HFX.out]; exact Step.same HOwc.out HBwc.out⟩
   | false =>
    have HA := Lib.hid ha
    clear ha
    go_upto_region 3 with (fail)
    refine Reg.region_heavy (by kernel_rfl) 6 [6] (ledM_pl3 s y r b w.heap.size) (fun a => Below wc.heap.size wc a) (fun a => Below wc.heap.size wc a) (fun V => [(some 23, V 0), (some 24, V 1), (some 25, V 2), (some 26, V 3), (some 27, V 4), (some 28, V 5), (some 22, V 6)]) (by kernel_rfl) (by kernel_rfl) (by kernel_rfl) (fun V => rfl) ?_ ?_ ?_
    ·exact (Below.refl _ _).drew
    ·intro i o ho
     have hi : i < 7 := (Array.getElem?_eq_some_iff.1 ho).1
     rcases i with _ | _ | _ | _ | _ | _ | _ | i
     rotate_right
     ·omega
     all_goals obtain rfl := Option.some.inj ho
     all_goals intro ρ wi hE hI hs hd
     all_goals try dsimp only at hI
     ·have e0 : ρ (.tmp 0) = .pointer (some ⟨b, 0, none⟩) := hs 0; exact Reg.gw hI
     ·obtain ⟨_, rfl, e23⟩ := hd 0 23; exact Reg.gw hI
     ·obtain ⟨_, rfl, e24⟩ := hd 1 24
      exact Reg.Gives.value (v := s.val y) (w' := wi) (exec_load _ _ rfl _ _ (by assumption) (state_load (HOwc.out.later hI))) (Reg.OwedH.same hI rfl)
     ·have e3 : ρ (.tmp 3) = .pointer (some ⟨w.heap.size, 0, none⟩) := hs 3; exact Reg.gw hI
     ·obtain ⟨_, rfl, e26⟩ := hd 3 26; have x0 := (HRwc.out.later hI).cell (j := 9) rfl; exact Reg.gw hI
     ·obtain ⟨_, rfl, e25⟩ := hd 2 25; obtain ⟨_, rfl, e27⟩ := hd 4 27; have hf := hE.func
      refine Reg.Gives.call (f := 17) (args := #[s.val y, .int .i64 r.cell]) (w' := wi) (by go_simp) ?_
      refine (Locked_any s y r.cell wi (HOwc.out.later hI).sees ⟨Nat.le_trans HSM.out.prep (by decide), fun p hp => Nat.le_trans (HSM.out.pin p hp).1 (by decide)⟩).mono ?_
      rintro e w'' ⟨rfl, hbb⟩
      exact ⟨_, rfl, ⟨rfl, hI.trans (hbb.mono hI.size), fun j u _ _ h => ledM_pl3_later hbb h⟩⟩
     ·obtain ⟨_, rfl, e28⟩ := hd 5 28; exact Reg.gw hI
    ·intro V wd hV hI
     have hV6 : V 6 = .bool (locked s r.cell) := hV 6 (by decide) rfl
     simp only [Reg.putsO, List.foldl_cons, List.foldl_nil, Act.put, List.setIfInBounds_toArray, List.set_cons_succ, List.set_cons_zero, hV6]
     replace hI : (fun a => Below wc.heap.size wc a) wd := hI
     clear hV hV6
     have HOwd := Lib.hid (HOwc.out.later hI)
     have HRwd := Lib.hid (HRwc.out.later hI)
     have HHwd := Lib.hid (HHwc.out.later hI)
     have HBwd := Lib.hid (HBwc.out.trans (hI.mono HBwc.out.size))
     clear hI
     cases hl : locked s r.cell with
     | true =>
      have HL := Lib.hid hl
      clear hl
      have HFX : Hid (F = (s, 12)) := Lib.hid (by rw [HF.out]; unfold fPlace; rw [HHT.out, HA.out, HL.out]; rfl)
      go_wp2_with fail
      go_returns
      exact ⟨ret_int (by rw [HFX.out]), by rw [HFX.out]; exact Step.same HOwd.out HBwd.out⟩
     | false =>
      have HL := Lib.hid hl
      clear hl
      obtain ⟨pb, k, pl, hP, hk, hkl, hpl, _⟩ := HOwd.out.place HHT.out
      have HPK := Lib.hid (And.intro hP (And.intro hk (And.intro hkl hpl)))
      have HFX : Hid (F = ({ s with places := s.places.set k ⟨r.status, r.hop, r.node, r.version, r.value⟩ }, 0)) := Lib.hid (by rw [HF.out]; unfold fPlace setPl; rw [HHT.out, HA.out, HL.out, hk]; rfl)
      clear hP hk hkl hpl
      go_upto_region 5 with (fail)
      refine Reg.region_heavy (by kernel_rfl) 18 [] (ledM_pl5 s y r b w.heap.size pb k) (fun a => Below wd.heap.size wd a) (fun a' => Own base a' b { s with places := s.places.set k ⟨r.status, r.hop, r.node, r.version, r.value⟩ } y ∧ Only (fun j => some j = blk y.P) wd a') (fun V => [(some 29, V 0), (some 30, V 1), (some 31, V 2), (some 32, V 3), (some 33, V 4), (some 34, V 5), (some 35, V 6), (some 36, V 7), (some 37, V 8), (some 38, V 9), (some 39, V 10), (some 40, V 11), (some 41, V 12), (some 42, V 13), (some 43, V 14), (some 44, V 15), (some 45, V 16), (some 46, V 17), (none, V 18)]) (by kernel_rfl) (by kernel_rfl) (by kernel_rfl) (fun V => rfl) ?_ ?_ ?_
      ·exact (Below.refl _ _).drew
      ·intro i o ho
       have hi : i < 19 := (Array.getElem?_eq_some_iff.1 ho).1
       rcases i with _ | _ | _ | _ | _ | _ | _ | _ | _ | _ | _ | _ | _ | _ | _ | _ | _ | _ | _ | i
       rotate_right
       ·omega
       all_goals obtain rfl := Option.some.inj ho
       all_goals intro ρ wi hE hI hs hd
       all_goals try dsimp only at hI
       ·have e0 : ρ (.tmp 0) = .pointer (some ⟨b, 0, none⟩) := hs 0; exact Reg.gw hI
       ·obtain ⟨_, rfl, e29⟩ := hd 0 29; exact Reg.gw hI
       ·obtain ⟨_, rfl, e30⟩ := hd 1 30; exact Reg.gw hI
       ·obtain ⟨_, rfl, e31⟩ := hd 2 31; have x0 := (HOwd.out.later hI).cel.cell (j := 4) rfl; exact Reg.gw hI
       ·have e3 : ρ (.tmp 3) = .pointer (some ⟨w.heap.size, 0, none⟩) := hs 3; exact Reg.gw hI
       ·obtain ⟨_, rfl, e33⟩ := hd 4 33; have x0 := (HRwd.out.later hI).cell (j := 9) rfl; exact Reg.gw hI
       ·have e3 : ρ (.tmp 3) = .pointer (some ⟨w.heap.size, 0, none⟩) := hs 3; exact Reg.gw hI
       ·obtain ⟨_, rfl, e35⟩ := hd 6 35; have x0 := (HRwd.out.later hI).cell (j := 10) rfl; exact Reg.gw hI
       ·have e3 : ρ (.tmp 3) = .pointer (some ⟨w.heap.size, 0, none⟩) := hs 3; exact Reg.gw hI
       ·obtain ⟨_, rfl, e37⟩ := hd 8 37; have x0 := (HRwd.out.later hI).cell (j := 11) rfl; exact Reg.gw hI
       ·have e3 : ρ (.tmp 3) = .pointer (some ⟨w.heap.size, 0, none⟩) := hs 3; exact Reg.gw hI
       ·obtain ⟨_, rfl, e39⟩ := hd 10 39; have x0 := (HRwd.out.later hI).cell (j := 6) rfl; exact Reg.gw hI
       ·have e3 : ρ (.tmp 3) = .pointer (some ⟨w.heap.size, 0, none⟩) := hs 3; exact Reg.gw hI
       ·obtain ⟨_, rfl, e41⟩ := hd 12 41; have x0 := (HRwd.out.later hI).cell (j := 12) rfl; exact Reg.gw hI
       ·have e3 : ρ (.tmp 3) = .pointer (some ⟨w.heap.size, 0, none⟩) := hs 3; exact Reg.gw hI
       ·obtain ⟨_, rfl, e43⟩ := hd 14 43; have x0 := (HRwd.out.later hI).cell (j := 13) rfl; exact Reg.gw hI
       ·obtain ⟨_, rfl, e36⟩ := hd 7 36; obtain ⟨_, rfl, e38⟩ := hd 9 38; obtain ⟨_, rfl, e40⟩ := hd 11 40; obtain ⟨_, rfl, e42⟩ := hd 13 42; obtain ⟨_, rfl, e44⟩ := hd 15 44; exact Reg.gw hI
       ·obtain ⟨_, rfl, e32⟩ := hd 3 32; obtain ⟨_, rfl, e34⟩ := hd 5 34; have hP := HPK.out.1; have hk := HPK.out.2.1; have hkl := HPK.out.2.2.1; exact Reg.gw hI
       ·obtain ⟨_, rfl, e46⟩ := hd 17 46; obtain ⟨_, rfl, e45⟩ := hd 16 45
        obtain ⟨k1, k2, k3⟩ := (HOwd.out.later hI).putCells HPK.out.1 ⟨r.status, r.hop, r.node, r.version, r.value⟩ HPK.out.2.2.1 [.int .i64 r.status, .int .i64 r.hop, .int .i64 r.node, .int .i64 r.version, .int .i64 r.value] 0 (by simp [Value.oneCell']) (Nat.le_refl _) (fun q _ => rfl)
        exact Reg.Gives.skip (exec_store 74 _ _ rfl pb (k * 5) #[.int .i64 r.status, .int .i64 r.hop, .int .i64 r.node, .int .i64 r.version, .int .i64 r.value] (by assumption) (by assumption) (run_storeVar_mid _ pb (k * 5) 74 #[.int .i64 r.status, .int .i64 r.hop, .int .i64 r.node, .int .i64 r.version, .int .i64 r.value] k3 (by kernel_rfl) (by simp [Value.oneCell']))) ⟨trivial, ⟨k1, (Only.of_below hI).trans k2 fun _ _ e => e⟩, fun _ _ _ _ h => ledM_pl5_keep h⟩
      ·intro V we hV hI
       simp only [Reg.putsO, List.foldl_cons, List.foldl_nil, Act.put, List.setIfInBounds_toArray, List.set_cons_succ, List.set_cons_zero]
       replace hI : (fun a' => Own base a' b { s with places := s.places.set k ⟨r.status, r.hop, r.node, r.version, r.value⟩ } y ∧ Only (fun j => some j = blk y.P) wd a') we := hI
       clear hV
       have HN := Lib.hid hI
       clear hI
       go_wp2_with fail
       go_returns
       exact ⟨ret_int (by rw [HFX.out]), by rw [HFX.out]; exact ⟨y, HN.out.1, (Only.of_below HBwd.out).trans HN.out.2 fun _ _ e => Or.inr (Or.inl e), fun k e => Or.inl e⟩⟩
end Go.Proofs.YtalhbblmnahcdaaGreat.Led
