/-
  Layer 8: Out, End.
  Conditions: none.
-/
import Derived.Test.YtalhbblmnahcdaaGreatPa30
namespace Go.Proofs.YtalhbblmnahcdaaGreat.Led
set_option maxRecDepth 100000
open Go.RowKit Go.Deep Go.Proofs.YtalhbblmnahcdaaGreat.Mem Go.Proofs.YtalhbblmnahcdaaGreat.Item Go.Proofs.YtalhbblmnahcdaaGreat.Rec
def fOut (s : St) (r : Rc) : St × Int := if hasC s r.cell = false then (s, 1) else if r.node = s.node then (s, 1) else if above s [r.node] = true then (s, 1) else if owns s r.cell = false then (s, 8) else if locked s r.cell = true then (s, 12) else if r.hop ≠ IntKind.i64.wrap ((plAt s r.cell).hop + 1) then (s, 10) else (setPl s r.cell ⟨2, r.hop, r.node, (plAt s r.cell).version, (plAt s r.cell).value⟩, 0)
def ledM_ou1a (s : St) (y : Sy) (r : Rc) (b : Nat) (g : Nat) : Nat → Value → World → Prop
 | 0, v, _ => v = .pointer (some ⟨b, 0, none⟩)
 | 1, v, _ => v = .pointer (some ⟨b, 0, none⟩)
 | 2, v, _ => v = s.val y
 | 3, v, _ => v = .pointer (some ⟨g, 9, none⟩)
 | 4, v, _ => v = .int .i64 r.cell
 | 5, v, _ => v = .bool false
 | 6, v, _ => v = .bool true
 | 7, v, _ => v = .bool true
 | 8, v, _ => v = undef
 | 9, v, _ => v = undef
 | 10, v, _ => v = undef
 | 11, v, _ => v = undef
 | 12, v, _ => v = undef
 | 13, v, _ => v = undef
 | 14, v, _ => v = undef
 | 15, v, _ => v = .bool true
 | 16, v, _ => v = .bool true
 | 17, v, _ => v = undef
 | 18, v, _ => v = undef
 | 19, v, _ => v = undef
 | 20, v, _ => v = undef
 | 21, v, _ => v = undef
 | 22, v, _ => v = undef
 | 23, v, _ => v = undef
 | 24, v, _ => v = .bool true
 | 25, v, _ => v = .bool true
 | _, _, _ => True
theorem ledM_ou1a_later {s : St} {y : Sy} {r : Rc} {b : Nat} {g : Nat} {j : Nat} {v : Value} {w w' : World} (_hb : Below w.heap.size w w') (h : ledM_ou1a s y r b g j v w) : ledM_ou1a s y r b g j v w' := by
 match j, h with
 | 0, h | 1, h | 2, h | 3, h | 4, h | 5, h | 6, h | 7, h | 8, h | 9, h | 10, h | 11, h | 12, h | 13, h | 14, h | 15, h | 16, h | 17, h | 18, h | 19, h | 20, h | 21, h | 22, h | 23, h | 24, h | 25, h => exact h
 | _ + 26, _ => exact trivial
def ledM_ou1b (s : St) (y : Sy) (r : Rc) (b : Nat) (g : Nat) : Nat → Value → World → Prop
 | 0, v, _ => v = .pointer (some ⟨b, 0, none⟩)
 | 1, v, _ => v = .pointer (some ⟨b, 0, none⟩)
 | 2, v, _ => v = s.val y
 | 3, v, _ => v = .pointer (some ⟨g, 9, none⟩)
 | 4, v, _ => v = .int .i64 r.cell
 | 5, v, _ => v = .bool true
 | 6, v, _ => v = .bool false
 | 7, v, _ => v = .bool false
 | 8, v, _ => v = .pointer (some ⟨g, 6, none⟩)
 | 9, v, _ => v = .int .i64 r.node
 | 10, v, _ => v = .pointer (some ⟨b, 0, none⟩)
 | 11, v, _ => v = .pointer (some ⟨b, 0, none⟩)
 | 12, v, _ => v = .pointer (some ⟨b, 0, none⟩)
 | 13, v, _ => v = .int .i64 s.node
 | 14, v, _ => v = .bool true
 | 15, v, _ => v = .bool true
 | 16, v, _ => v = .bool true
 | 17, v, _ => v = undef
 | 18, v, _ => v = undef
 | 19, v, _ => v = undef
 | 20, v, _ => v = undef
 | 21, v, _ => v = undef
 | 22, v, _ => v = undef
 | 23, v, _ => v = undef
 | 24, v, _ => v = .bool true
 | 25, v, _ => v = .bool true
 | _, _, _ => True
theorem ledM_ou1b_later {s : St} {y : Sy} {r : Rc} {b : Nat} {g : Nat} {j : Nat} {v : Value} {w w' : World} (_hb : Below w.heap.size w w') (h : ledM_ou1b s y r b g j v w) : ledM_ou1b s y r b g j v w' := by
 match j, h with
 | 0, h | 1, h | 2, h | 3, h | 4, h | 5, h | 6, h | 7, h | 8, h | 9, h | 10, h | 11, h | 12, h | 13, h | 14, h | 15, h | 16, h | 17, h | 18, h | 19, h | 20, h | 21, h | 22, h | 23, h | 24, h | 25, h => exact h
 | _ + 26, _ => exact trivial
def ledM_ou1c (s : St) (y : Sy) (r : Rc) (b : Nat) (g : Nat) : Nat → Value → World → Prop
 | 0, v, _ => v = .pointer (some ⟨b, 0, none⟩)
 | 1, v, _ => v = .pointer (some ⟨b, 0, none⟩)
 | 2, v, _ => v = s.val y
 | 3, v, _ => v = .pointer (some ⟨g, 9, none⟩)
 | 4, v, _ => v = .int .i64 r.cell
 | 5, v, _ => v = .bool true
 | 6, v, _ => v = .bool false
 | 7, v, _ => v = .bool false
 | 8, v, _ => v = .pointer (some ⟨g, 6, none⟩)
 | 9, v, _ => v = .int .i64 r.node
 | 10, v, _ => v = .pointer (some ⟨b, 0, none⟩)
 | 11, v, _ => v = .pointer (some ⟨b, 0, none⟩)
 | 12, v, _ => v = .pointer (some ⟨b, 0, none⟩)
 | 13, v, _ => v = .int .i64 s.node
 | 14, v, _ => v = .bool false
 | 15, v, _ => v = .bool false
 | 16, v, _ => v = .bool false
 | 17, v, _ => v = .pointer (some ⟨b, 0, none⟩)
 | 18, v, _ => v = .pointer (some ⟨b, 0, none⟩)
 | 19, v, _ => v = s.val y
 | 20, v, _ => v = .pointer (some ⟨g, 6, none⟩)
 | 21, v, _ => v = .int .i64 r.node
 | 22, v, w => ∃ kk, v = .slice (some ⟨kk, 0, none⟩) 1 1 ∧ Cells w kk 3 ([r.node].map (Value.int .i64))
 | 23, v, _ => v = .bool (above s [r.node])
 | 24, v, _ => v = .bool (above s [r.node])
 | 25, v, _ => v = .bool (above s [r.node])
 | _, _, _ => True
theorem ledM_ou1c_later {s : St} {y : Sy} {r : Rc} {b : Nat} {g : Nat} {j : Nat} {v : Value} {w w' : World} (hb : Below w.heap.size w w') (h : ledM_ou1c s y r b g j v w) : ledM_ou1c s y r b g j v w' := by
 match j, h with
 | 0, h | 1, h | 2, h | 3, h | 4, h | 5, h | 6, h | 7, h | 8, h | 9, h | 10, h | 11, h | 12, h | 13, h | 14, h | 15, h | 16, h | 17, h | 18, h | 19, h | 20, h | 21, h | 23, h | 24, h | 25, h => exact h
 | 22, h =>
  obtain ⟨kk, h1, h2⟩ := h
  exact ⟨kk, h1, h2.later hb⟩
 | _ + 26, _ => exact trivial
def ledM_ou3 (s : St) (y : Sy) (r : Rc) (b : Nat) (g : Nat) : Nat → Value → World → Prop
 | 0, v, _ => v = .pointer (some ⟨b, 0, none⟩)
 | 1, v, _ => v = .pointer (some ⟨b, 0, none⟩)
 | 2, v, _ => v = s.val y
 | 3, v, _ => v = .pointer (some ⟨g, 9, none⟩)
 | 4, v, _ => v = .int .i64 r.cell
 | 5, v, _ => v = .bool (owns s r.cell)
 | 6, v, _ => v = .bool (!(owns s r.cell))
 | 7, v, _ => v = .bool (!(owns s r.cell))
 | _, _, _ => True
theorem ledM_ou3_later {s : St} {y : Sy} {r : Rc} {b : Nat} {g : Nat} {j : Nat} {v : Value} {w w' : World} (_hb : Below w.heap.size w w') (h : ledM_ou3 s y r b g j v w) : ledM_ou3 s y r b g j v w' := by
 match j, h with
 | 0, h | 1, h | 2, h | 3, h | 4, h | 5, h | 6, h | 7, h => exact h
 | _ + 8, _ => exact trivial
def ledM_ou5 (s : St) (y : Sy) (r : Rc) (b : Nat) (g : Nat) : Nat → Value → World → Prop
 | 0, v, _ => v = .pointer (some ⟨b, 0, none⟩)
 | 1, v, _ => v = .pointer (some ⟨b, 0, none⟩)
 | 2, v, _ => v = s.val y
 | 3, v, _ => v = .pointer (some ⟨g, 9, none⟩)
 | 4, v, _ => v = .int .i64 r.cell
 | 5, v, _ => v = .bool (locked s r.cell)
 | 6, v, _ => v = .bool (locked s r.cell)
 | _, _, _ => True
theorem ledM_ou5_later {s : St} {y : Sy} {r : Rc} {b : Nat} {g : Nat} {j : Nat} {v : Value} {w w' : World} (_hb : Below w.heap.size w w') (h : ledM_ou5 s y r b g j v w) : ledM_ou5 s y r b g j v w' := by
 match j, h with
 | 0, h | 1, h | 2, h | 3, h | 4, h | 5, h | 6, h => exact h
 | _ + 7, _ => exact trivial
def ledM_ou7 (s : St) (y : Sy) (r : Rc) (b : Nat) (g : Nat) (pb : Nat) (k : Nat) (pl : Pl) : Nat → Value → World → Prop
 | 0, v, _ => v = .pointer (some ⟨g, 11, none⟩)
 | 1, v, _ => v = .int .i64 r.hop
 | 2, v, _ => v = .pointer (some ⟨b, 0, none⟩)
 | 3, v, _ => v = .pointer (some ⟨b, 0, none⟩)
 | 4, v, _ => v = .pointer (some ⟨b, 4, none⟩)
 | 5, v, _ => v = .slice y.P s.places.length y.p
 | 6, v, _ => v = .pointer (some ⟨g, 9, none⟩)
 | 7, v, _ => v = .int .i64 r.cell
 | 8, v, _ => v = .pointer (some ⟨pb, k * 5, none⟩)
 | 9, v, _ => v = .pointer (some ⟨pb, k * 5 + 1, none⟩)
 | 10, v, _ => v = .int .i64 pl.hop
 | 11, v, _ => v = .int .i64 (IntKind.i64.wrap (pl.hop + 1))
 | 12, v, _ => v = .bool (r.hop != (IntKind.i64.wrap (pl.hop + 1)))
 | 13, v, _ => v = .bool (r.hop != (IntKind.i64.wrap (pl.hop + 1)))
 | _, _, _ => True
def ledM_ou9 (s : St) (y : Sy) (r : Rc) (b : Nat) (g : Nat) (pb : Nat) (k : Nat) : Nat → Value → World → Prop
 | 0, v, _ => v = .pointer (some ⟨b, 0, none⟩)
 | 1, v, _ => v = .pointer (some ⟨b, 0, none⟩)
 | 2, v, _ => v = .pointer (some ⟨b, 4, none⟩)
 | 3, v, _ => v = .slice y.P s.places.length y.p
 | 4, v, _ => v = .pointer (some ⟨g, 9, none⟩)
 | 5, v, _ => v = .int .i64 r.cell
 | 6, v, _ => v = .pointer (some ⟨pb, k * 5, none⟩)
 | 7, v, _ => v = .pointer (some ⟨pb, k * 5, none⟩)
 | _, _, _ => True
set_option maxHeartbeats 4000000 in
theorem out_any (s : St) (y : Sy) (r : Rc) (z : Lay) (base b : Nat) (w : World) (ho : Own base w b s y) (hh : Two w r.items r.nodes z) (hs : Small s) (hr : r.items.length ≤ 1000 ∧ r.nodes.length ≤ 1000) :
  Calls Tryz.prog 72 #[.pointer (some ⟨b, 0, none⟩), r.val z] w fun e w' => e = .returned (.int .i64 (fOut s r).2) ∧ Step base b s y w (fOut s r).1 w' := by
 obtain ⟨wb, hwb⟩ : ∃ v, v = w.alloc (.cells #[.int .i64 r.kind, .int .i64 r.tid.node, .int .i64 r.tid.epoch, .int .i64 r.tid.seq, .slice z.A r.items.length z.c, .slice z.B r.nodes.length z.d, .int .i64 r.node, .int .i64 r.count, .int .i64 r.num, .int .i64 r.cell, .int .i64 r.status, .int .i64 r.hop, .int .i64 r.version, .int .i64 r.value, .bool r.yes] 51) := ⟨_, rfl⟩
 have hb : Below w.heap.size w wb := by rw [hwb]; exact below_alloc _ _
 have HOwb := Lib.hid (ho.later hb)
 have HRwb : Hid (Cells wb w.heap.size 51 (r.vals z)) := Lib.hid (by rw [hwb]; exact cells_new _ _ _ _ rfl)
 have HHwb := Lib.hid (hh.later hb)
 have HBwb := Lib.hid hb
 have HSM := Lib.hid hs
 have HRS := Lib.hid hr
 have HIP : Hid (¬ some w.heap.size = blk y.P) := Lib.hid fun e => by have := (ho.lists.lt (Or.inl e)).2; omega
 obtain ⟨F, hF⟩ : ∃ F, fOut s r = F := ⟨_, rfl⟩
 have HF := Lib.hid hF.symm
 rw [hF]
 unfold Rc.val
 clear ho hh hs hr hb hF
 go_enter Tryz.func72, Tryz.ntmps72
 go_wp2_with fail
 rw [← hwb]
 clear hwb
 cases hh : hasC s r.cell with
 | false =>
  have HHF := Lib.hid hh
  clear hh
  refine Reg.region_heavy (by kernel_rfl) 25 [25] (ledM_ou1a s y r b w.heap.size) (fun a => Below wb.heap.size wb a) (fun a => Below wb.heap.size wb a) (fun V => [(some 7, V 0), (some 8, V 1), (some 9, V 2), (some 10, V 3), (some 11, V 4), (some 12, V 5), (some 13, V 6), (some 14, V 7), (some 15, V 8), (some 16, V 9), (some 17, V 10), (some 18, V 11), (some 19, V 12), (some 20, V 13), (some 21, V 14), (some 22, V 15), (some 23, V 16), (some 24, V 17), (some 25, V 18), (some 26, V 19), (some 27, V 20), (some 28, V 21), (some 29, V 22), (some 30, V 23), (some 31, V 24), (some 6, V 25)]) (by kernel_rfl) (by kernel_rfl) (by kernel_rfl) (fun V => rfl) ?_ ?_ ?_
  ·exact (Below.refl _ _).drew
  ·intro i o ho
   have hi : i < 26 := (Array.getElem?_eq_some_iff.1 ho).1
   rcases i with _ | _ | _ | _ | _ | _ | _ | _ | _ | _ | _ | _ | _ | _ | _ | _ | _ | _ | _ | _ | _ | _ | _ | _ | _ | _ | i
   rotate_right
   ·omega
   all_goals obtain rfl := Option.some.inj ho
   all_goals intro ρ wi hE hI hs hd
   all_goals try dsimp only at hI
   ·have e0 : ρ (.tmp 0) = .pointer (some ⟨b, 0, none⟩) := hs 0; exact Reg.gw hI
   ·obtain ⟨_, rfl, e7⟩ := hd 0 7; exact Reg.gw hI
   ·obtain ⟨_, rfl, e8⟩ := hd 1 8
    exact Reg.Gives.value (v := s.val y) (w' := wi) (exec_load _ _ rfl _ _ (by assumption) (state_load (HOwb.out.later hI))) (Reg.OwedH.same hI rfl)
   ·have e3 : ρ (.tmp 3) = .pointer (some ⟨w.heap.size, 0, none⟩) := hs 3; exact Reg.gw hI
   ·obtain ⟨_, rfl, e10⟩ := hd 3 10; have x0 := (HRwb.out.later hI).cell (j := 9) rfl; exact Reg.gw hI
   ·obtain ⟨_, rfl, e9⟩ := hd 2 9; obtain ⟨_, rfl, e11⟩ := hd 4 11; have hf := hE.func
    refine Reg.Gives.call (f := 42) (args := #[s.val y, .int .i64 r.cell]) (w' := wi) (by go_simp) ?_
    refine (calls_bool (has_any s y r.cell wi) HHF.out).mono ?_
    rintro e w'' ⟨rfl, hbb⟩
    exact ⟨_, rfl, ⟨rfl, hI.trans (hbb.mono hI.size), fun j u _ _ h => ledM_ou1a_later hbb h⟩⟩
   ·obtain ⟨_, rfl, e12⟩ := hd 5 12; exact Reg.gw hI
   ·obtain ⟨_, rfl, e13⟩ := hd 6 13; exact Reg.gw hI
   ·exact Reg.no hI
   ·exact Reg.no hI
   ·exact Reg.no hI
   ·exact Reg.no hI
   ·exact Reg.no hI
   ·exact Reg.no hI
   ·exact Reg.no hI
   ·obtain ⟨_, rfl, e14⟩ := hd 7 14; obtain ⟨_, rfl, e21⟩ := hd 14 21; have hc := hE.const; exact Reg.gw hI
   ·obtain ⟨_, rfl, e22⟩ := hd 15 22; exact Reg.gw hI
   ·exact Reg.no hI
   ·exact Reg.no hI
   ·exact Reg.no hI
   ·exact Reg.no hI
   ·exact Reg.no hI
   ·exact Reg.no hI
   ·exact Reg.no hI
   ·obtain ⟨_, rfl, e23⟩ := hd 16 23; obtain ⟨_, rfl, e30⟩ := hd 23 30; have hc := hE.const; exact Reg.gw hI
   ·obtain ⟨_, rfl, e31⟩ := hd 24 31; exact Reg.gw hI
  ·intro V wc hV hI
   have hV25 : V 25 = .bool true := hV 25 (by decide) rfl
   simp only [Reg.putsO, List.foldl_cons, List.foldl_nil, Act.put, List.setIfInBounds_toArray, List.set_cons_succ, List.set_cons_zero, hV25]
   replace hI : (fun a => Below wb.heap.size wb a) wc := hI
   clear hV hV25
   have HOwc := Lib.hid (HOwb.out.later hI)
   have HRwc := Lib.hid (HRwb.out.later hI)
   have HHwc := Lib.hid (HHwb.out.later hI)
   have HBwc := Lib.hid (HBwb.out.trans (hI.mono HBwb.out.size))
   clear hI
   have HFX : Hid (F = (s, 1)) := Lib.hid (by rw [HF.out]; exact if_pos HHF.out)
   go_wp2_with fail
   go_returns
   exact ⟨ret_int (by rw [HFX.out]), by rw [HFX.out]; exact Step.same HOwc.out HBwc.out⟩
 | true =>
  have HHT := Lib.hid hh
  clear hh
  by_cases he : r.node = s.node
  ·have HE := Lib.hid he
   clear he
   refine Reg.region_heavy (by kernel_rfl) 25 [25] (ledM_ou1b s y r b w.heap.size) (fun a => Below wb.heap.size wb a) (fun a => Below wb.heap.size wb a) (fun V => [(some 7, V 0), (some 8, V 1), (some 9, V 2), (some 10, V 3), (some 11, V 4), (some 12, V 5), (some 13, V 6), (some 14, V 7), (some 15, V 8), (some 16, V 9), (some 17, V 10), (some 18, V 11), (some 19, V 12), (some 20, V 13), (some 21, V 14), (some 22, V 15), (some 23, V 16), (some 24, V 17), (some 25, V 18), (some 26, V 19), (some 27, V 20), (some 28, V 21), (some 29, V 22), (some 30, V 23), (some 31, V 24), (some 6, V 25)]) (by kernel_rfl) (by kernel_rfl) (by kernel_rfl) (fun V => rfl) ?_ ?_ ?_
   ·exact (Below.refl _ _).drew
   ·intro i o ho
    have hi : i < 26 := (Array.getElem?_eq_some_iff.1 ho).1
    rcases i with _ | _ | _ | _ | _ | _ | _ | _ | _ | _ | _ | _ | _ | _ | _ | _ | _ | _ | _ | _ | _ | _ | _ | _ | _ | _ | i
    rotate_right
    ·omega
    all_goals obtain rfl := Option.some.inj ho
    all_goals intro ρ wi hE hI hs hd
    all_goals try dsimp only at hI
    ·have e0 : ρ (.tmp 0) = .pointer (some ⟨b, 0, none⟩) := hs 0; exact Reg.gw hI
    ·obtain ⟨_, rfl, e7⟩ := hd 0 7; exact Reg.gw hI
    ·obtain ⟨_, rfl, e8⟩ := hd 1 8
     exact Reg.Gives.value (v := s.val y) (w' := wi) (exec_load _ _ rfl _ _ (by assumption) (state_load (HOwb.out.later hI))) (Reg.OwedH.same hI rfl)
    ·have e3 : ρ (.tmp 3) = .pointer (some ⟨w.heap.size, 0, none⟩) := hs 3; exact Reg.gw hI
    ·obtain ⟨_, rfl, e10⟩ := hd 3 10; have x0 := (HRwb.out.later hI).cell (j := 9) rfl; exact Reg.gw hI
    ·obtain ⟨_, rfl, e9⟩ := hd 2 9; obtain ⟨_, rfl, e11⟩ := hd 4 11; have hf := hE.func
     refine Reg.Gives.call (f := 42) (args := #[s.val y, .int .i64 r.cell]) (w' := wi) (by go_simp) ?_
     refine (calls_bool (has_any s y r.cell wi) HHT.out).mono ?_
     rintro e w'' ⟨rfl, hbb⟩
     exact ⟨_, rfl, ⟨rfl, hI.trans (hbb.mono hI.size), fun j u _ _ h => ledM_ou1b_later hbb h⟩⟩
    ·obtain ⟨_, rfl, e12⟩ := hd 5 12; exact Reg.gw hI
    ·obtain ⟨_, rfl, e13⟩ := hd 6 13; exact Reg.gw hI
    ·have e3 : ρ (.tmp 3) = .pointer (some ⟨w.heap.size, 0, none⟩) := hs 3
     refine Reg.yes ?_
     exact Reg.gw hI
    ·obtain ⟨_, rfl, e15⟩ := hd 8 15
     refine Reg.yes ?_
     have x0 := (HRwb.out.later hI).cell (j := 6) rfl; exact Reg.gw hI
    ·have e0 : ρ (.tmp 0) = .pointer (some ⟨b, 0, none⟩) := hs 0
     refine Reg.yes ?_
     exact Reg.gw hI
    ·obtain ⟨_, rfl, e17⟩ := hd 10 17
     refine Reg.yes ?_
     exact Reg.gw hI
    ·obtain ⟨_, rfl, e18⟩ := hd 11 18
     refine Reg.yes ?_
     exact Reg.gw hI
    ·obtain ⟨_, rfl, e19⟩ := hd 12 19
     refine Reg.yes ?_
     have x0 := (HOwb.out.later hI).cel.cell (j := 0) rfl; exact Reg.gw hI
    ·obtain ⟨_, rfl, e16⟩ := hd 9 16; obtain ⟨_, rfl, e20⟩ := hd 13 20
     refine Reg.yes ?_
     have hne := HE.out; exact Reg.gw hI
    ·obtain ⟨_, rfl, e14⟩ := hd 7 14; obtain ⟨_, rfl, e21⟩ := hd 14 21; have hc := hE.const; exact Reg.gw hI
    ·obtain ⟨_, rfl, e22⟩ := hd 15 22; exact Reg.gw hI
    ·exact Reg.no hI
    ·exact Reg.no hI
    ·exact Reg.no hI
    ·exact Reg.no hI
    ·exact Reg.no hI
    ·exact Reg.no hI
    ·exact Reg.no hI
    ·obtain ⟨_, rfl, e23⟩ := hd 16 23; obtain ⟨_, rfl, e30⟩ := hd 23 30; have hc := hE.const; exact Reg.gw hI
    ·obtain ⟨_, rfl, e31⟩ := hd 24 31; exact Reg.gw hI
   ·intro V wc hV hI
    have hV25 : V 25 = .bool true := hV 25 (by decide) rfl
    simp only [Reg.putsO, List.foldl_cons, List.foldl_nil, Act.put, List.setIfInBounds_toArray, List.set_cons_succ, List.set_cons_zero, hV25]
    replace hI : (fun a => Below wb.heap.size wb a) wc := hI
    clear hV hV25
    have HOwc := Lib.hid (HOwb.out.later hI)
    have HRwc := Lib.hid (HRwb.out.later hI)
    have HHwc := Lib.hid (HHwb.out.later hI)
    have HBwc := Lib.hid (HBwb.out.trans (hI.mono HBwb.out.size))
    clear hI
    have HFX : Hid (F = (s, 1)) := Lib.hid (by rw [HF.out]; unfold fOut; rw [HHT.out, if_neg (by decide), if_pos HE.out])
    go_wp2_with fail
    go_returns
    exact ⟨ret_int (by rw [HFX.out]), by rw [HFX.out]; exact Step.same HOwc.out HBwc.out⟩
  ·have HE := Lib.hid he
   clear he
   refine Reg.region_heavy (by kernel_rfl) 25 [25] (ledM_ou1c s y r b w.heap.size) (fun a => Below wb.heap.size wb a) (fun a => Below wb.heap.size wb a) (fun V => [(some 7, V 0), (some 8, V 1), (some 9, V 2), (some 10, V 3), (some 11, V 4), (some 12, V 5), (some 13, V 6), (some 14, V 7), (some 15, V 8), (some 16, V 9), (some 17, V 10), (some 18, V 11), (some 19, V 12), (some 20, V 13), (some 21, V 14), (some 22, V 15), (some 23, V 16), (some 24, V 17), (some 25, V 18), (some 26, V 19), (some 27, V 20), (some 28, V 21), (some 29, V 22), (some 30, V 23), (some 31, V 24), (some 6, V 25)]) (by kernel_rfl) (by kernel_rfl) (by kernel_rfl) (fun V => rfl) ?_ ?_ ?_
   ·exact (Below.refl _ _).drew
   ·intro i o ho
    have hi : i < 26 := (Array.getElem?_eq_some_iff.1 ho).1
    rcases i with _ | _ | _ | _ | _ | _ | _ | _ | _ | _ | _ | _ | _ | _ | _ | _ | _ | _ | _ | _ | _ | _ | _ | _ | _ | _ | i
    rotate_right
    ·omega
    all_goals obtain rfl := Option.some.inj ho
    all_goals intro ρ wi hE hI hs hd
    all_goals try dsimp only at hI
    ·have e0 : ρ (.tmp 0) = .pointer (some ⟨b, 0, none⟩) := hs 0; exact Reg.gw hI
    ·obtain ⟨_, rfl, e7⟩ := hd 0 7; exact Reg.gw hI
    ·obtain ⟨_, rfl, e8⟩ := hd 1 8
     exact Reg.Gives.value (v := s.val y) (w' := wi) (exec_load _ _ rfl _ _ (by assumption) (state_load (HOwb.out.later hI))) (Reg.OwedH.same hI rfl)
    ·have e3 : ρ (.tmp 3) = .pointer (some ⟨w.heap.size, 0, none⟩) := hs 3; exact Reg.gw hI
    ·obtain ⟨_, rfl, e10⟩ := hd 3 10; have x0 := (HRwb.out.later hI).cell (j := 9) rfl; exact Reg.gw hI
    ·obtain ⟨_, rfl, e9⟩ := hd 2 9; obtain ⟨_, rfl, e11⟩ := hd 4 11; have hf := hE.func
     refine Reg.Gives.call (f := 42) (args := #[s.val y, .int .i64 r.cell]) (w' := wi) (by go_simp) ?_
     refine (calls_bool (has_any s y r.cell wi) HHT.out).mono ?_
     rintro e w'' ⟨rfl, hbb⟩
     exact ⟨_, rfl, ⟨rfl, hI.trans (hbb.mono hI.size), fun j u _ _ h => ledM_ou1c_later hbb h⟩⟩
    ·obtain ⟨_, rfl, e12⟩ := hd 5 12; exact Reg.gw hI
    ·obtain ⟨_, rfl, e13⟩ := hd 6 13; exact Reg.gw hI
    ·have e3 : ρ (.tmp 3) = .pointer (some ⟨w.heap.size, 0, none⟩) := hs 3
     refine Reg.yes ?_
     exact Reg.gw hI
    ·obtain ⟨_, rfl, e15⟩ := hd 8 15
     refine Reg.yes ?_
     have x0 := (HRwb.out.later hI).cell (j := 6) rfl; exact Reg.gw hI
    ·have e0 : ρ (.tmp 0) = .pointer (some ⟨b, 0, none⟩) := hs 0
     refine Reg.yes ?_
     exact Reg.gw hI
    ·obtain ⟨_, rfl, e17⟩ := hd 10 17
     refine Reg.yes ?_
     exact Reg.gw hI
    ·obtain ⟨_, rfl, e18⟩ := hd 11 18
     refine Reg.yes ?_
     exact Reg.gw hI
    ·obtain ⟨_, rfl, e19⟩ := hd 12 19
     refine Reg.yes ?_
     have x0 := (HOwb.out.later hI).cel.cell (j := 0) rfl; exact Reg.gw hI
    ·obtain ⟨_, rfl, e16⟩ := hd 9 16; obtain ⟨_, rfl, e20⟩ := hd 13 20
     refine Reg.yes ?_
     have hne := HE.out; exact Reg.gw hI
    ·obtain ⟨_, rfl, e14⟩ := hd 7 14; obtain ⟨_, rfl, e21⟩ := hd 14 21; have hc := hE.const; exact Reg.gw hI
    ·obtain ⟨_, rfl, e22⟩ := hd 15 22; exact Reg.gw hI
    ·have e0 : ρ (.tmp 0) = .pointer (some ⟨b, 0, none⟩) := hs 0
     refine Reg.yes ?_
     exact Reg.gw hI
    ·obtain ⟨_, rfl, e24⟩ := hd 17 24
     refine Reg.yes ?_
     exact Reg.gw hI
    ·obtain ⟨_, rfl, e25⟩ := hd 18 25
     refine Reg.yes ?_
     exact Reg.Gives.value (v := s.val y) (w' := wi) (exec_load _ _ rfl _ _ (by assumption) (state_load (HOwb.out.later hI))) (Reg.OwedH.same hI rfl)
    ·have e3 : ρ (.tmp 3) = .pointer (some ⟨w.heap.size, 0, none⟩) := hs 3
     refine Reg.yes ?_
     exact Reg.gw hI
    ·obtain ⟨_, rfl, e27⟩ := hd 20 27
     refine Reg.yes ?_
     have x0 := (HRwb.out.later hI).cell (j := 6) rfl; exact Reg.gw hI
    ·obtain ⟨_, rfl, e28⟩ := hd 21 28
     refine Reg.yes ?_
     have hal := below_alloc wi (.cells #[.int .i64 r.node] 3)
     exact Reg.Gives.value (v := .slice (some ⟨wi.heap.size, 0, none⟩) 1 1) (w' := wi.alloc (.cells #[.int .i64 r.node] 3)) (by go_simp) ⟨⟨_, rfl, cells_new wi _ _ _ rfl⟩, hI.trans (hal.mono hI.size), fun j u _ _ h => ledM_ou1c_later hal h⟩
    ·obtain ⟨_, rfl, e26⟩ := hd 19 26; obtain ⟨u29, g29, e29⟩ := hd 22 29; have hf := hE.func
     refine Reg.yes ?_
     obtain ⟨kk, rfl, hck⟩ := g29
     refine Reg.Gives.call (f := 95) (args := #[s.val y, .slice (some ⟨kk, 0, none⟩) 1 1]) (w' := wi) (by go_simp) ?_
     refine (above_any s y (some ⟨kk, 0, none⟩) [r.node] 1 wi (fun j hj => ⟨kk, 0, rfl, cells_nums hck j hj⟩) (by simp)).mono ?_
     rintro e w'' ⟨rfl, hbb⟩
     exact ⟨_, rfl, ⟨rfl, hI.trans (hbb.mono hI.size), fun j u _ _ h => ledM_ou1c_later hbb h⟩⟩
    ·obtain ⟨_, rfl, e23⟩ := hd 16 23; obtain ⟨_, rfl, e30⟩ := hd 23 30; have hc := hE.const; exact Reg.gw hI
    ·obtain ⟨_, rfl, e31⟩ := hd 24 31; exact Reg.gw hI
   ·intro V wc hV hI
    have hV25 : V 25 = .bool (above s [r.node]) := hV 25 (by decide) rfl
    simp only [Reg.putsO, List.foldl_cons, List.foldl_nil, Act.put, List.setIfInBounds_toArray, List.set_cons_succ, List.set_cons_zero, hV25]
    replace hI : (fun a => Below wb.heap.size wb a) wc := hI
    clear hV hV25
    have HOwc := Lib.hid (HOwb.out.later hI)
    have HRwc := Lib.hid (HRwb.out.later hI)
    have HHwc := Lib.hid (HHwb.out.later hI)
    have HBwc := Lib.hid (HBwb.out.trans (hI.mono HBwb.out.size))
    clear hI
    cases ha : above s [r.node] with
    | true =>
     have HA := Lib.hid ha
     clear ha
     have HFX : Hid (F = (s, 1)) := Lib.hid (by rw [HF.out]; unfold fOut; rw [HHT.out, if_neg (by decide), if_neg HE.out, HA.out]; rfl)
     go_wp2_with fail
     go_returns
     exact ⟨ret_int (by rw [HFX.out]), by rw [HFX.out]; exact Step.same HOwc.out HBwc.out⟩
    | false =>
     have HA := Lib.hid ha
     clear ha
     go_upto_region 3 with (fail)
     refine Reg.region_heavy (by kernel_rfl) 7 [7] (ledM_ou3 s y r b w.heap.size) (fun a => Below wc.heap.size wc a) (fun a => Below wc.heap.size wc a) (fun V => [(some 33, V 0), (some 34, V 1), (some 35, V 2), (some 36, V 3), (some 37, V 4), (some 38, V 5), (some 39, V 6), (some 32, V 7)]) (by kernel_rfl) (by kernel_rfl) (by kernel_rfl) (fun V => rfl) ?_ ?_ ?_
     ·exact (Below.refl _ _).drew
     ·intro i o ho
      have hi : i < 8 := (Array.getElem?_eq_some_iff.1 ho).1
      rcases i with _ | _ | _ | _ | _ | _ | _ | _ | i
      rotate_right
      ·omega
      all_goals obtain rfl := Option.some.inj ho
      all_goals intro ρ wi hE hI hs hd
      all_goals try dsimp only at hI
      ·have e0 : ρ (.tmp 0) = .pointer (some ⟨b, 0, none⟩) := hs 0; exact Reg.gw hI
      ·obtain ⟨_, rfl, e33⟩ := hd 0 33; exact Reg.gw hI
      ·obtain ⟨_, rfl, e34⟩ := hd 1 34
       exact Reg.Gives.value (v := s.val y) (w' := wi) (exec_load _ _ rfl _ _ (by assumption) (state_load (HOwc.out.later hI))) (Reg.OwedH.same hI rfl)
      ·have e3 : ρ (.tmp 3) = .pointer (some ⟨w.heap.size, 0, none⟩) := hs 3; exact Reg.gw hI
      ·obtain ⟨_, rfl, e36⟩ := hd 3 36; have x0 := (HRwc.out.later hI).cell (j := 9) rfl; exact Reg.gw hI
      ·obtain ⟨_, rfl, e35⟩ := hd 2 35; obtain ⟨_, rfl, e37⟩ := hd 4 37; have hf := hE.func
       refine Reg.Gives.call (f := 15) (args := #[s.val y, .int .i64 r.cell]) (w' := wi) (by go_simp) ?_
       refine (Owns_any s y r.cell wi (HOwc.out.later hI).sees).mono ?_
       rintro e w'' ⟨rfl, hbb⟩
       exact ⟨_, rfl, ⟨rfl, hI.trans (hbb.mono hI.size), fun j u _ _ h => ledM_ou3_later hbb h⟩⟩
      ·obtain ⟨_, rfl, e38⟩ := hd 5 38; exact Reg.gw hI
      ·obtain ⟨_, rfl, e39⟩ := hd 6 39; exact Reg.gw hI
     ·intro V wd hV hI
      have hV7 : V 7 = .bool (!(owns s r.cell)) := hV 7 (by decide) rfl
      simp only [Reg.putsO, List.foldl_cons, List.foldl_nil, Act.put, List.setIfInBounds_toArray, List.set_cons_succ, List.set_cons_zero, hV7]
      replace hI : (fun a => Below wc.heap.size wc a) wd := hI
      clear hV hV7
      have HOwd := Lib.hid (HOwc.out.later hI)
      have HRwd := Lib.hid (HRwc.out.later hI)
      have HHwd := Lib.hid (HHwc.out.later hI)
      have HBwd := Lib.hid (HBwc.out.trans (hI.mono HBwc.out.size))
      clear hI
      cases hw : owns s r.cell with
      | false =>
       have HW := Lib.hid hw
       clear hw
       have HFX : Hid (F = (s, 8)) := Lib.hid (by rw [HF.out]; unfold fOut; rw [HHT.out, if_neg (by decide), if_neg HE.out, HA.out, HW.out]; rfl)
       go_wp2_with fail
       go_returns
       exact ⟨ret_int (by rw [HFX.out]), by rw [HFX.out]; exact Step.same HOwd.out HBwd.out⟩
      | true =>
       have HW := Lib.hid hw
       clear hw
       go_upto_region 5 with (fail)
       refine Reg.region_heavy (by kernel_rfl) 6 [6] (ledM_ou5 s y r b w.heap.size) (fun a => Below wd.heap.size wd a) (fun a => Below wd.heap.size wd a) (fun V => [(some 41, V 0), (some 42, V 1), (some 43, V 2), (some 44, V 3), (some 45, V 4), (some 46, V 5), (some 40, V 6)]) (by kernel_rfl) (by kernel_rfl) (by kernel_rfl) (fun V => rfl) ?_ ?_ ?_
       ·exact (Below.refl _ _).drew
       ·intro i o ho
        have hi : i < 7 := (Array.getElem?_eq_some_iff.1 ho).1
        rcases i with _ | _ | _ | _ | _ | _ | _ | i
        rotate_right
        ·omega
        all_goals obtain rfl := Option.some.inj ho
        all_goals intro ρ wi hE hI hs hd
        all_goals try dsimp only at hI
        ·have e0 : ρ (.tmp 0) = .pointer (some ⟨b, 0, none⟩) := hs 0; exact Reg.gw hI
        ·obtain ⟨_, rfl, e41⟩ := hd 0 41; exact Reg.gw hI
        ·obtain ⟨_, rfl, e42⟩ := hd 1 42
         exact Reg.Gives.value (v := s.val y) (w' := wi) (exec_load _ _ rfl _ _ (by assumption) (state_load (HOwd.out.later hI))) (Reg.OwedH.same hI rfl)
        ·have e3 : ρ (.tmp 3) = .pointer (some ⟨w.heap.size, 0, none⟩) := hs 3; exact Reg.gw hI
        ·obtain ⟨_, rfl, e44⟩ := hd 3 44; have x0 := (HRwd.out.later hI).cell (j := 9) rfl; exact Reg.gw hI
        ·obtain ⟨_, rfl, e43⟩ := hd 2 43; obtain ⟨_, rfl, e45⟩ := hd 4 45; have hf := hE.func
         refine Reg.Gives.call (f := 17) (args := #[s.val y, .int .i64 r.cell]) (w' := wi) (by go_simp) ?_
         refine (Locked_any s y r.cell wi (HOwd.out.later hI).sees ⟨Nat.le_trans HSM.out.prep (by decide), fun p hp => Nat.le_trans (HSM.out.pin p hp).1 (by decide)⟩).mono ?_
         rintro e w'' ⟨rfl, hbb⟩
         exact ⟨_, rfl, ⟨rfl, hI.trans (hbb.mono hI.size), fun j u _ _ h => ledM_ou5_later hbb h⟩⟩
        ·obtain ⟨_, rfl, e46⟩ := hd 5 46; exact Reg.gw hI
       ·intro V we hV hI
        have hV6 : V 6 = .bool (locked s r.cell) := hV 6 (by decide) rfl
        simp only [Reg.putsO, List.foldl_cons, List.foldl_nil, Act.put, List.setIfInBounds_toArray, List.set_cons_succ, List.set_cons_zero, hV6]
        replace hI : (fun a => Below wd.heap.size wd a) we := hI
        clear hV hV6
        have HOwe := Lib.hid (HOwd.out.later hI)
        have HRwe := Lib.hid (HRwd.out.later hI)
        have HHwe := Lib.hid (HHwd.out.later hI)
        have HBwe := Lib.hid (HBwd.out.trans (hI.mono HBwd.out.size))
        clear hI
        cases hl : locked s r.cell with
        | true =>
         have HL := Lib.hid hl
         clear hl
         have HFX : Hid (F = (s, 12)) := Lib.hid (by rw [HF.out]; unfold fOut; rw [HHT.out, if_neg (by decide), if_neg HE.out, HA.out, HW.out, HL.out]; rfl)
         go_wp2_with fail
         go_returns
         exact ⟨ret_int (by rw [HFX.out]), by rw [HFX.out]; exact Step.same HOwe.out HBwe.out⟩
        | false =>
         have HL := Lib.hid hl
         clear hl
         obtain ⟨pb, k, pl, hP, hk, hkl, hpl, hpa⟩ := HOwe.out.place HHT.out
         have HPK := Lib.hid (And.intro hP (And.intro hk (And.intro hkl hpl)))
         have HPA := Lib.hid hpa
         clear hP hk hkl hpl hpa
         go_upto_region 7 with (fail)
         refine Reg.region_heavy (by kernel_rfl) 13 [13] (ledM_ou7 s y r b w.heap.size pb k pl) (fun a => Below we.heap.size we a) (fun a => Below we.heap.size we a) (fun V => [(some 48, V 0), (some 49, V 1), (some 50, V 2), (some 51, V 3), (some 52, V 4), (some 53, V 5), (some 54, V 6), (some 55, V 7), (some 56, V 8), (some 57, V 9), (some 58, V 10), (some 59, V 11), (some 60, V 12), (some 47, V 13)]) (by kernel_rfl) (by kernel_rfl) (by kernel_rfl) (fun V => rfl) ?_ ?_ ?_
         ·exact (Below.refl _ _).drew
         ·intro i o ho
          have hi : i < 14 := (Array.getElem?_eq_some_iff.1 ho).1
          rcases i with _ | _ | _ | _ | _ | _ | _ | _ | _ | _ | _ | _ | _ | _ | i
          rotate_right
          ·omega
          all_goals obtain rfl := Option.some.inj ho
          all_goals intro ρ wi hE hI hs hd
          all_goals try dsimp only at hI
          ·have e3 : ρ (.tmp 3) = .pointer (some ⟨w.heap.size, 0, none⟩) := hs 3; exact Reg.gw hI
          ·obtain ⟨_, rfl, e48⟩ := hd 0 48; have x0 := (HRwe.out.later hI).cell (j := 11) rfl; exact Reg.gw hI
          ·have e0 : ρ (.tmp 0) = .pointer (some ⟨b, 0, none⟩) := hs 0; exact Reg.gw hI
          ·obtain ⟨_, rfl, e50⟩ := hd 2 50; exact Reg.gw hI
          ·obtain ⟨_, rfl, e51⟩ := hd 3 51; exact Reg.gw hI
          ·obtain ⟨_, rfl, e52⟩ := hd 4 52; have x0 := (HOwe.out.later hI).cel.cell (j := 4) rfl; exact Reg.gw hI
          ·have e3 : ρ (.tmp 3) = .pointer (some ⟨w.heap.size, 0, none⟩) := hs 3; exact Reg.gw hI
          ·obtain ⟨_, rfl, e54⟩ := hd 6 54; have x0 := (HRwe.out.later hI).cell (j := 9) rfl; exact Reg.gw hI
          ·obtain ⟨_, rfl, e53⟩ := hd 5 53; obtain ⟨_, rfl, e55⟩ := hd 7 55; have hP := HPK.out.1; have hk := HPK.out.2.1; have hkl := HPK.out.2.2.1; exact Reg.gw hI
          ·obtain ⟨_, rfl, e56⟩ := hd 8 56; exact Reg.gw hI
          ·obtain ⟨_, rfl, e57⟩ := hd 9 57; have x0 := (HOwe.out.later hI).placeCell HPK.out.1 HPK.out.2.2.2 (j := 1) rfl; exact Reg.gw hI
          ·obtain ⟨_, rfl, e58⟩ := hd 10 58; have hc := hE.const; exact Reg.gw hI
          ·obtain ⟨_, rfl, e49⟩ := hd 1 49; obtain ⟨_, rfl, e59⟩ := hd 11 59; exact Reg.gw hI
          ·obtain ⟨_, rfl, e60⟩ := hd 12 60; exact Reg.gw hI
         ·intro V wf hV hI
          have hV13 : V 13 = .bool (r.hop != (IntKind.i64.wrap (pl.hop + 1))) := hV 13 (by decide) rfl
          simp only [Reg.putsO, List.foldl_cons, List.foldl_nil, Act.put, List.setIfInBounds_toArray, List.set_cons_succ, List.set_cons_zero, hV13]
          replace hI : (fun a => Below we.heap.size we a) wf := hI
          clear hV hV13
          have HOwf := Lib.hid (HOwe.out.later hI)
          have HRwf := Lib.hid (HRwe.out.later hI)
          have HHwf := Lib.hid (HHwe.out.later hI)
          have HBwf := Lib.hid (HBwe.out.trans (hI.mono HBwe.out.size))
          clear hI
          obtain ⟨nh, hnh⟩ : ∃ n, IntKind.i64.wrap (pl.hop + 1) = n := ⟨_, rfl⟩
          have HNH := Lib.hid hnh
          simp only [hnh]
          clear hnh
          by_cases h1 : r.hop = nh
          ·have HA2 := Lib.hid h1
           have HFX : Hid (F = (wrS s k pl 2 r.hop r.node 0 0 true true true false false, 0)) := Lib.hid (by
            rw [HF.out]
            unfold fOut setPl wrS
            rw [HHT.out, if_neg (by decide), if_neg HE.out, HA.out, HW.out, HL.out, HPA.out, HNH.out, HPK.out.2.1, Int.toNat_natCast]
            simp [HA2.out])
           go_upto_region 9 with (fail)
           refine Reg.region_heavy (by kernel_rfl) 7 [7] (ledM_ou9 s y r b w.heap.size pb k) (fun a => Below wf.heap.size wf a) (fun a => Below wf.heap.size wf a) (fun V => [(some 61, V 0), (some 62, V 1), (some 63, V 2), (some 64, V 3), (some 65, V 4), (some 66, V 5), (some 67, V 6), (some 5, V 7)]) (by kernel_rfl) (by kernel_rfl) (by kernel_rfl) (fun V => rfl) ?_ ?_ ?_
           ·exact (Below.refl _ _).drew
           ·intro i o ho
            have hi : i < 8 := (Array.getElem?_eq_some_iff.1 ho).1
            rcases i with _ | _ | _ | _ | _ | _ | _ | _ | i
            rotate_right
            ·omega
            all_goals obtain rfl := Option.some.inj ho
            all_goals intro ρ wi hE hI hs hd
            all_goals try dsimp only at hI
            ·have e0 : ρ (.tmp 0) = .pointer (some ⟨b, 0, none⟩) := hs 0; exact Reg.gw hI
            ·obtain ⟨_, rfl, e61⟩ := hd 0 61; exact Reg.gw hI
            ·obtain ⟨_, rfl, e62⟩ := hd 1 62; exact Reg.gw hI
            ·obtain ⟨_, rfl, e63⟩ := hd 2 63; have x0 := (HOwf.out.later hI).cel.cell (j := 4) rfl; exact Reg.gw hI
            ·have e3 : ρ (.tmp 3) = .pointer (some ⟨w.heap.size, 0, none⟩) := hs 3; exact Reg.gw hI
            ·obtain ⟨_, rfl, e65⟩ := hd 4 65; have x0 := (HRwf.out.later hI).cell (j := 9) rfl; exact Reg.gw hI
            ·obtain ⟨_, rfl, e64⟩ := hd 3 64; obtain ⟨_, rfl, e66⟩ := hd 5 66; have hP := HPK.out.1; have hk := HPK.out.2.1; have hkl := HPK.out.2.2.1; exact Reg.gw hI
            ·obtain ⟨_, rfl, e67⟩ := hd 6 67; exact Reg.gw hI
           ·intro V wg hV hI
            have hV7 : V 7 = .pointer (some ⟨pb, k * 5, none⟩) := hV 7 (by decide) rfl
            simp only [Reg.putsO, List.foldl_cons, List.foldl_nil, Act.put, List.setIfInBounds_toArray, List.set_cons_succ, List.set_cons_zero, hV7]
            replace hI : (fun a => Below wf.heap.size wf a) wg := hI
            clear hV hV7
            have HOwg := Lib.hid (HOwf.out.later hI)
            have HRwg := Lib.hid (HRwf.out.later hI)
            have HHwg := Lib.hid (HHwf.out.later hI)
            have HBwg := Lib.hid (HBwf.out.trans (hI.mono HBwf.out.size))
            clear hI
            have HI : Own base wg.drew b (wrS s k pl 2 r.hop r.node 0 0 false false false false false) y ∧ Only (fun j => some j = blk y.P) wg wg.drew ∧ Cells wg.drew w.heap.size 51 (r.vals z) := ⟨by rw [wrS_none HPK.out.2.2.2]; exact HOwg.out.later (Below.refl _ _).drew, Only.of_below (Below.refl _ _).drew, HRwg.out.later (Below.refl _ _).drew⟩
            go_upto_region 10 with (fail)
            refine Reg.region_inv (by kernel_rfl) (fun i => ([some (.pointer (some ⟨pb, k * 5, none⟩)), some (.pointer (some ⟨pb, k * 5, none⟩)), some (.pointer (some ⟨pb, k * 5, none⟩)), some (.pointer (some ⟨w.heap.size, 11, none⟩)), some (.int .i64 r.hop), some (.pointer (some ⟨w.heap.size, 6, none⟩)), some (.int .i64 r.node), some (.pointer (some ⟨pb, k * 5, none⟩)), some (.pointer (some ⟨pb, k * 5, none⟩)), none, some (.pointer (some ⟨pb, k * 5, none⟩)), some (.pointer (some ⟨pb, k * 5 + 1, none⟩)), none, some (.pointer (some ⟨pb, k * 5, none⟩)), some (.pointer (some ⟨pb, k * 5 + 2, none⟩)), none] : List (Option Value)).getD i none) (fun D V W => Own base W b (wrS s k pl 2 r.hop r.node 0 0 (D 9) (D 12) (D 15) false false) y ∧ Only (fun j => some j = blk y.P) wg W ∧ Cells W w.heap.size 51 (r.vals z)) (fun V => [(some 68, V 0), (some 69, V 1), (some 70, V 2), (some 71, V 3), (some 72, V 4), (some 73, V 5), (some 74, V 6), (some 75, V 7), (some 76, V 8), (none, V 9), (some 77, V 10), (some 78, V 11), (none, V 12), (some 79, V 13), (some 80, V 14), (none, V 15)]) (by kernel_rfl) (by kernel_rfl) (fun V => rfl) ?_ ?_ ?_
            ·intro V
             exact HI
            ·intro i o ho
             have hi : i < 16 := (Array.getElem?_eq_some_iff.1 ho).1
             rcases i with _ | _ | _ | _ | _ | _ | _ | _ | _ | _ | _ | _ | _ | _ | _ | _ | i
             rotate_right
             ·omega
             all_goals obtain rfl := Option.some.inj ho
             all_goals intro D V ρ wi hE hI hDi hT hF hs hd hk
             ·have e5 : ρ (.tmp 5) = .pointer (some ⟨pb, k * 5, none⟩) := hs 5; clear hT hF hk
              exact Reg.Gives.value (v := .pointer (some ⟨pb, k * 5, none⟩)) (w' := wi) (by go_simp) ⟨fun x h => Option.some.inj h, hI⟩
             ·have e5 : ρ (.tmp 5) = .pointer (some ⟨pb, k * 5, none⟩) := hs 5; clear hT hF hk
              exact Reg.Gives.value (v := .pointer (some ⟨pb, k * 5, none⟩)) (w' := wi) (by go_simp) ⟨fun x h => Option.some.inj h, hI⟩
             ·have e5 : ρ (.tmp 5) = .pointer (some ⟨pb, k * 5, none⟩) := hs 5; clear hT hF hk
              exact Reg.Gives.value (v := .pointer (some ⟨pb, k * 5, none⟩)) (w' := wi) (by go_simp) ⟨fun x h => Option.some.inj h, hI⟩
             ·have e3 : ρ (.tmp 3) = .pointer (some ⟨w.heap.size, 0, none⟩) := hs 3; clear hT hF hk
              exact Reg.Gives.value (v := .pointer (some ⟨w.heap.size, 11, none⟩)) (w' := wi) (by go_simp) ⟨fun x h => Option.some.inj h, hI⟩
             ·have e71 : ρ (.tmp 71) = .pointer (some ⟨w.heap.size, 11, none⟩) := (hd 3 71).trans (hk 3 _ rfl); clear hT hF; have x0 := hI.2.2.cell (j := 11) rfl
              exact Reg.Gives.value (v := .int .i64 r.hop) (w' := wi) (by go_simp) ⟨fun x h => Option.some.inj h, hI⟩
             ·have e3 : ρ (.tmp 3) = .pointer (some ⟨w.heap.size, 0, none⟩) := hs 3; clear hT hF hk
              exact Reg.Gives.value (v := .pointer (some ⟨w.heap.size, 6, none⟩)) (w' := wi) (by go_simp) ⟨fun x h => Option.some.inj h, hI⟩
             ·have e73 : ρ (.tmp 73) = .pointer (some ⟨w.heap.size, 6, none⟩) := (hd 5 73).trans (hk 5 _ rfl); clear hT hF; have x0 := hI.2.2.cell (j := 6) rfl
              exact Reg.Gives.value (v := .int .i64 r.node) (w' := wi) (by go_simp) ⟨fun x h => Option.some.inj h, hI⟩
             ·have e68 : ρ (.tmp 68) = .pointer (some ⟨pb, k * 5, none⟩) := (hd 0 68).trans (hk 0 _ rfl); clear hT hF hk
              exact Reg.Gives.value (v := .pointer (some ⟨pb, k * 5, none⟩)) (w' := wi) (by go_simp) ⟨fun x h => Option.some.inj h, hI⟩
             ·have e75 : ρ (.tmp 75) = .pointer (some ⟨pb, k * 5, none⟩) := (hd 7 75).trans (hk 7 _ rfl); clear hT hF hk
              exact Reg.Gives.value (v := .pointer (some ⟨pb, k * 5, none⟩)) (w' := wi) (by go_simp) ⟨fun x h => Option.some.inj h, hI⟩
             ·have e76 : ρ (.tmp 76) = .pointer (some ⟨pb, k * 5, none⟩) := (hd 8 76).trans (hk 8 _ rfl); have hc := hE.const; have hD9 : D 9 = false := hDi; clear hT hF
              rw [hD9] at hI
              have x0 := hI.1.placeCell HPK.out.1 (wrS_at HPK.out.2.2.1) (j := 0) rfl
              have x1 := hI.1.placeFree HPK.out.1 (k := k) (by rw [wrS_len]; exact HPK.out.2.2.1) (j := 0) (by decide)
              rw [Nat.add_zero] at x0 x1
              obtain ⟨i1, i2⟩ := wr_put0 hI.1 HPK.out.1 HPK.out.2.2.1
              rw [Nat.add_zero] at i1 i2
              exact Reg.Gives.skip (w' := wi.setCell ⟨pb, k * 5, none⟩ (.int .i64 (2))) (by go_simp) ⟨fun x h => (by cases h), by show Own base (wi.setCell ⟨pb, k * 5, none⟩ (.int .i64 (2))) b (wrS s k pl 2 r.hop r.node 0 0 true (D 12) (D 15) false false) y ∧ Only (fun j => some j = blk y.P) wg (wi.setCell ⟨pb, k * 5, none⟩ (.int .i64 (2))) ∧ Cells (wi.setCell ⟨pb, k * 5, none⟩ (.int .i64 (2))) w.heap.size 51 (r.vals z); exact ⟨i1, hI.2.1.trans i2 fun _ _ e => e, cells_only hI.2.2 i2 HIP.out⟩⟩
             ·have e69 : ρ (.tmp 69) = .pointer (some ⟨pb, k * 5, none⟩) := (hd 1 69).trans (hk 1 _ rfl); clear hT hF hk
              exact Reg.Gives.value (v := .pointer (some ⟨pb, k * 5, none⟩)) (w' := wi) (by go_simp) ⟨fun x h => Option.some.inj h, hI⟩
             ·have e77 : ρ (.tmp 77) = .pointer (some ⟨pb, k * 5, none⟩) := (hd 10 77).trans (hk 10 _ rfl); clear hT hF hk
              exact Reg.Gives.value (v := .pointer (some ⟨pb, k * 5 + 1, none⟩)) (w' := wi) (by go_simp) ⟨fun x h => Option.some.inj h, hI⟩
             ·have e78 : ρ (.tmp 78) = .pointer (some ⟨pb, k * 5 + 1, none⟩) := (hd 11 78).trans (hk 11 _ rfl); have e72 : ρ (.tmp 72) = .int .i64 r.hop := (hd 4 72).trans (hk 4 _ rfl); have hD12 : D 12 = false := hDi; clear hT hF
              rw [hD12] at hI
              have x0 := hI.1.placeCell HPK.out.1 (wrS_at HPK.out.2.2.1) (j := 1) rfl
              have x1 := hI.1.placeFree HPK.out.1 (k := k) (by rw [wrS_len]; exact HPK.out.2.2.1) (j := 1) (by decide)
              obtain ⟨i1, i2⟩ := wr_put1 hI.1 HPK.out.1 HPK.out.2.2.1
              exact Reg.Gives.skip (w' := wi.setCell ⟨pb, k * 5 + 1, none⟩ (.int .i64 (r.hop))) (by go_simp) ⟨fun x h => (by cases h), by show Own base (wi.setCell ⟨pb, k * 5 + 1, none⟩ (.int .i64 (r.hop))) b (wrS s k pl 2 r.hop r.node 0 0 (D 9) true (D 15) false false) y ∧ Only (fun j => some j = blk y.P) wg (wi.setCell ⟨pb, k * 5 + 1, none⟩ (.int .i64 (r.hop))) ∧ Cells (wi.setCell ⟨pb, k * 5 + 1, none⟩ (.int .i64 (r.hop))) w.heap.size 51 (r.vals z); exact ⟨i1, hI.2.1.trans i2 fun _ _ e => e, cells_only hI.2.2 i2 HIP.out⟩⟩
             ·have e70 : ρ (.tmp 70) = .pointer (some ⟨pb, k * 5, none⟩) := (hd 2 70).trans (hk 2 _ rfl); clear hT hF hk
              exact Reg.Gives.value (v := .pointer (some ⟨pb, k * 5, none⟩)) (w' := wi) (by go_simp) ⟨fun x h => Option.some.inj h, hI⟩
             ·have e79 : ρ (.tmp 79) = .pointer (some ⟨pb, k * 5, none⟩) := (hd 13 79).trans (hk 13 _ rfl); clear hT hF hk
              exact Reg.Gives.value (v := .pointer (some ⟨pb, k * 5 + 2, none⟩)) (w' := wi) (by go_simp) ⟨fun x h => Option.some.inj h, hI⟩
             ·have e80 : ρ (.tmp 80) = .pointer (some ⟨pb, k * 5 + 2, none⟩) := (hd 14 80).trans (hk 14 _ rfl); have e74 : ρ (.tmp 74) = .int .i64 r.node := (hd 6 74).trans (hk 6 _ rfl); have hD15 : D 15 = false := hDi; clear hT hF
              rw [hD15] at hI
              have x0 := hI.1.placeCell HPK.out.1 (wrS_at HPK.out.2.2.1) (j := 2) rfl
              have x1 := hI.1.placeFree HPK.out.1 (k := k) (by rw [wrS_len]; exact HPK.out.2.2.1) (j := 2) (by decide)
              obtain ⟨i1, i2⟩ := wr_put2 hI.1 HPK.out.1 HPK.out.2.2.1
              exact Reg.Gives.skip (w' := wi.setCell ⟨pb, k * 5 + 2, none⟩ (.int .i64 (r.node))) (by go_simp) ⟨fun x h => (by cases h), by show Own base (wi.setCell ⟨pb, k * 5 + 2, none⟩ (.int .i64 (r.node))) b (wrS s k pl 2 r.hop r.node 0 0 (D 9) (D 12) true false false) y ∧ Only (fun j => some j = blk y.P) wg (wi.setCell ⟨pb, k * 5 + 2, none⟩ (.int .i64 (r.node))) ∧ Cells (wi.setCell ⟨pb, k * 5 + 2, none⟩ (.int .i64 (r.node))) w.heap.size 51 (r.vals z); exact ⟨i1, hI.2.1.trans i2 fun _ _ e => e, cells_only hI.2.2 i2 HIP.out⟩⟩
            ·intro V wh hk hI
             simp only [Reg.putsO, List.foldl_cons, List.foldl_nil, Act.put, List.setIfInBounds_toArray, List.set_cons_succ, List.set_cons_zero]
             replace hI : Own base wh b (wrS s k pl 2 r.hop r.node 0 0 true true true false false) y ∧ Only (fun j => some j = blk y.P) wg wh ∧ Cells wh w.heap.size 51 (r.vals z) := hI
             clear hk
             have HN := Lib.hid hI
             clear hI HI
             go_wp2_with fail
             go_returns
             exact ⟨ret_int (by rw [HFX.out]), by rw [HFX.out]; exact ⟨y, HN.out.1, (Only.of_below HBwg.out).trans HN.out.2.1 fun _ _ e => Or.inr (Or.inl e), fun k e => Or.inl e⟩⟩
          ·have HA2 := Lib.hid h1
           have HFX : Hid (F = (s, 10)) := Lib.hid (by rw [HF.out]; unfold fOut; rw [HHT.out, if_neg (by decide), if_neg HE.out, HA.out, HW.out, HL.out, HPA.out, HNH.out]; simp [HA2.out])
           go_wp2_with fail
           go_returns
           exact ⟨ret_int (by rw [HFX.out]), by rw [HFX.out]; exact Step.same HOwf.out HBwf.out⟩
end Go.Proofs.YtalhbblmnahcdaaGreat.Led
