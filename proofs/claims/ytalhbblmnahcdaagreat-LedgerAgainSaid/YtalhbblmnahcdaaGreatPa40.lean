/-
  Layer 7: is a record right? The code, whole.
  Layer 8: what a record does.
  Conditions: none.
-/
import Derived.Test.YtalhbblmnahcdaaGreatPa39
import Derived.Test.YtalhbblmnahcdaaGreatPa26
import Derived.Test.YtalhbblmnahcdaaGreatPa31
import Derived.Test.YtalhbblmnahcdaaGreatPa32
import Derived.Test.YtalhbblmnahcdaaGreatPa33
import Derived.Test.YtalhbblmnahcdaaGreatPa34
import Derived.Test.YtalhbblmnahcdaaGreatPa35
import Derived.Test.YtalhbblmnahcdaaGreatPa36
namespace Go.Proofs.YtalhbblmnahcdaaGreat.Rec
set_option maxRecDepth 100000
open Go.RowKit Go.Proofs.YtalhbblmnahcdaaGreat.Mem Go.Proofs.YtalhbblmnahcdaaGreat.Item
theorem fl_mem (k : Int) : ∀ x ∈ fl k, 0 ≤ x ∧ x < 12 := by
 intro x hx
 unfold fl at hx
 split at hx
 ·simp at hx; omega
 split at hx
 ·simp at hx; omega
 split at hx
 ·simp at hx; omega
 split at hx
 ·simp at hx; omega
 split at hx
 ·simp at hx; omega
 split at hx
 ·simp at hx; omega
 split at hx
 ·simp at hx; omega
 split at hx
 ·simp at hx; omega
 split at hx
 ·simp at hx; omega
 split at hx
 ·simp at hx; omega
 split at hx
 ·simp at hx; omega
 ·simp at hx
theorem fl_at (k : Int) : ∀ i (h : i < (fl k).length), ∃ f : Nat, f < 12 ∧ (fl k)[i] = (f : Int) := by
 intro i h
 have := fl_mem k _ (List.getElem_mem h)
 exact ⟨((fl k)[i]).toNat, by omega, by omega⟩
theorem fl_len (k : Int) : (fl k).length ≤ 6 := by
 unfold fl
 split
 ·decide
 split
 ·decide
 split
 ·decide
 split
 ·decide
 split
 ·decide
 split
 ·decide
 split
 ·decide
 split
 ·decide
 split
 ·decide
 split
 ·decide
 split
 ·decide
 ·decide
def right (r : Rc) : Bool := decide (1 ≤ r.kind ∧ r.kind ≤ 12) && !othersB r (fl r.kind) && (fl r.kind).all fun x => rf r x.toNat
theorem all_step (r : Rc) (l : List Int) (k f : Nat) (h : k < l.length) (e : l[k] = (f : Int)) : ((l.drop k).all fun x => rf r x.toNat) = (rf r f && (l.drop (k + 1)).all fun x => rf r x.toNat) := by
 rw [List.drop_eq_getElem_cons h, List.all_cons, e, Int.toNat_natCast]
set_option maxHeartbeats 1000000 in
theorem right_any (r : Rc) (y : Lay) (w : World) (h : Has w r y) (h1 : r.items.length ≤ 1000) (h2 : r.nodes.length ≤ 1000) :
  Calls Tryz.prog 31 #[r.val y] w fun e w' => e = .returned (.bool (right r)) ∧ Below w.heap.size w w' := by
 have HF := Lib.hid (fun f hf w' (hb : Below w.heap.size w w') => rightField_any r y f w' hf (h.later hb) h1 h2)
 have HO := Lib.hid (fun A0 c0 w' (hl : Nums w' A0 (fl r.kind)) => others_any r y A0 (fl r.kind) c0 w' hl (fl_at r.kind) (Nat.le_trans (fl_len _) (by decide)))
 have HFL := Lib.hid (fun w' => fields_any r.kind w')
 have HAT := Lib.hid (fl_at r.kind)
 have HST := Lib.hid (all_step r (fl r.kind))
 have HLE := Lib.hid (fl_len r.kind)
 have HZ : Hid (right r = (decide (1 ≤ r.kind ∧ r.kind ≤ 12) && !othersB r (fl r.kind) && ((fl r.kind).drop 0).all fun x => rf r x.toNat)) := Lib.hid rfl
 clear h
 obtain ⟨Z, hz⟩ : ∃ Z, right r = Z := ⟨_, rfl⟩
 obtain ⟨O, ho⟩ : ∃ O, othersB r (fl r.kind) = O := ⟨_, rfl⟩
 obtain ⟨F, hf⟩ : ∃ F, fl r.kind = F := ⟨_, rfl⟩
 obtain ⟨R, hR⟩ : ∃ R, rf r = R := ⟨_, rfl⟩
 rw [ho] at HZ HO
 rw [hz] at HZ ⊢
 rw [hf] at HO HFL HAT HST HZ HLE
 simp only [hR] at HF HST HZ
 clear hz ho hf hR
 have hle := HLE.out
 obtain ⟨k, ⟨t1, t2, t3⟩, its, nds, a0, a1, a2, a3, a4, a5, a6, a7, yes⟩ := r
 obtain ⟨A, c, B, d⟩ := y
 simp only at HZ HFL h1 h2
 generalize hL : its.length = L at *
 generalize hM : nds.length = M at *
 unfold Rc.val at HF HO ⊢
 simp only [hL, hM] at HF HO ⊢
 clear hL hM
 have HB := Lib.hid (below_alloc w (.cells #[.int .i64 k, .int .i64 t1, .int .i64 t2, .int .i64 t3, .slice A L c, .slice B M d, .int .i64 a0, .int .i64 a1, .int .i64 a2, .int .i64 a3, .int .i64 a4, .int .i64 a5, .int .i64 a6, .int .i64 a7, .bool yes] 51))
 have HC := Lib.hid (cells_new w 51 _ #[.int .i64 k, .int .i64 t1, .int .i64 t2, .int .i64 t3, .slice A L c, .slice B M d, .int .i64 a0, .int .i64 a1, .int .i64 a2, .int .i64 a3, .int .i64 a4, .int .i64 a5, .int .i64 a6, .int .i64 a7, .bool yes] rfl)
 go_enter Tryz.func31, Tryz.ntmps31
 go_wp2_with fail
 refine (HFL.out _).mono ?_
 rintro e w1 ⟨FA, fc, rfl, hnu, _, hb1⟩
 have HNU := Lib.hid hnu
 have HB1 := Lib.hid (HB.out.trans (hb1.mono HB.out.size))
 have HC1 := Lib.hid (HC.out.later hb1)
 clear hnu hb1
 by_cases hk : 1 ≤ k ∧ k ≤ 12
 ·rw [decide_eq_true hk, Bool.true_and] at HZ
  rw [decide_eq_true hk]
  clear hk
  have hc := HC1.out
  have q0 := hc.cell (j := 0) rfl
  have q1 := hc.cell (j := 1) rfl
  have q2 := hc.cell (j := 2) rfl
  have q3 := hc.cell (j := 3) rfl
  have q4 := hc.cell (j := 4) rfl
  have q5 := hc.cell (j := 5) rfl
  have q6 := hc.cell (j := 6) rfl
  have q7 := hc.cell (j := 7) rfl
  have q8 := hc.cell (j := 8) rfl
  have q9 := hc.cell (j := 9) rfl
  have q10 := hc.cell (j := 10) rfl
  have q11 := hc.cell (j := 11) rfl
  have q12 := hc.cell (j := 12) rfl
  have q13 := hc.cell (j := 13) rfl
  have q14 := hc.cell (j := 14) rfl
  clear hc
  go_wp2_with fail
  refine (HO.out _ _ _ HNU.out).mono ?_
  rintro e w2 ⟨rfl, hb2⟩
  have HNU2 := Lib.hid (HNU.out.later hb2)
  have HB2 := Lib.hid (HB1.out.trans (hb2.mono HB1.out.size))
  have HC2 := Lib.hid (HC1.out.later hb2)
  clear hb2 q0 q1 q2 q3 q4 q5 q6 q7 q8 q9 q10 q11 q12 q13 q14
  cases O
  ·rw [Bool.not_false, Bool.true_and] at HZ
   go_wp2_with fail
   go_loopw [6, 22] (fun _ i wr => ∃ j : Nat, j ≤ F.length ∧ i = .int .i64 (j : Int) ∧ Hid (Z = (F.drop j).all fun x => R x.toNat) ∧ Below w2.heap.size w2 wr) (fun _ i _ => F.length - (intOf i).toNat)
   case atStart => exact ⟨0, by omega, rfl, HZ, Below.refl _ _⟩
   case round =>
    obtain ⟨j, hj, rfl, hz, hbr⟩ := hrel
    have HBR := Lib.hid hbr
    by_cases hlt : j < F.length
    ·obtain ⟨f, hf, hlf⟩ := HAT.out j hlt
     have HSJ := Lib.hid (HST.out j f hlt hlf)
     obtain ⟨bl, off, rfl, hcl⟩ := HNU2.out j hlt
     have hcl2 := (hbr.cell (block_of_cell hcl)).trans hcl
     rw [hlf] at hcl2
     have hc := HC2.out.later hbr
     have q0 := hc.cell (j := 0) rfl
     have q1 := hc.cell (j := 1) rfl
     have q2 := hc.cell (j := 2) rfl
     have q3 := hc.cell (j := 3) rfl
     have q4 := hc.cell (j := 4) rfl
     have q5 := hc.cell (j := 5) rfl
     have q6 := hc.cell (j := 6) rfl
     have q7 := hc.cell (j := 7) rfl
     have q8 := hc.cell (j := 8) rfl
     have q9 := hc.cell (j := 9) rfl
     have q10 := hc.cell (j := 10) rfl
     have q11 := hc.cell (j := 11) rfl
     have q12 := hc.cell (j := 12) rfl
     have q13 := hc.cell (j := 13) rfl
     have q14 := hc.cell (j := 14) rfl
     clear hc hcl hlf hbr
     go_wp2_with fail
     refine (HF.out f hf _ (HB2.out.trans (HBR.out.mono HB2.out.size))).mono ?_
     rintro e w3 ⟨rfl, hb3⟩
     have HB3 := Lib.hid (HBR.out.trans (hb3.mono HBR.out.size))
     clear hb3 q0 q1 q2 q3 q4 q5 q6 q7 q8 q9 q10 q11 q12 q13 q14 hcl2
     by_cases hr : R f = true
     ·have HZ2 : Hid (Z = (F.drop (j + 1)).all fun x => R x.toNat) := Lib.hid (by rw [hz.out, HSJ.out, hr, Bool.true_and])
      rw [hr]
      clear hr hz
      go_wp2_with fail
      go_roundw
      case rel => exact ⟨j + 1, by omega, by go_num, HZ2, HB3.out⟩
      case measure => simp [intOf]; omega
     ·have hr' : R f = false := by simpa using hr
      have HZ2 : Hid (Z = false) := Lib.hid (by rw [hz.out, HSJ.out, hr', Bool.false_and])
      rw [hr']
      clear hr hr' hz
      go_wp2_with fail
      go_returns
      exact ⟨ret_bool HZ2.out, HB2.out.trans (HB3.out.mono HB2.out.size)⟩
    ·obtain rfl : j = F.length := by omega
     have HZ2 : Hid (Z = true) := Lib.hid (by rw [hz.out, List.drop_length, List.all_nil])
     clear hz hbr
     go_wp2_with fail
     go_returns
     exact ⟨ret_bool HZ2.out, HB2.out.trans (HBR.out.mono HB2.out.size)⟩
  ·rw [Bool.not_true, Bool.false_and] at HZ
   go_wp2_with fail
   go_returns
   exact ⟨ret_bool HZ.out, HB2.out⟩
 ·rw [decide_eq_false hk, Bool.false_and, Bool.false_and] at HZ
  rw [decide_eq_false hk]
  clear hk
  go_wp2_with fail
  go_returns
  exact ⟨ret_bool HZ.out, HB1.out⟩
end Go.Proofs.YtalhbblmnahcdaaGreat.Rec
namespace Go.Proofs.YtalhbblmnahcdaaGreat.Led
set_option maxRecDepth 100000
open Go.RowKit Go.Deep Go.Proofs.YtalhbblmnahcdaaGreat.Mem Go.Proofs.YtalhbblmnahcdaaGreat.Item Go.Proofs.YtalhbblmnahcdaaGreat.Rec
theorem right_num {r : Rc} (h : right r = true) (hk : r.kind = 1) : 1 ≤ r.num ∧ r.num ≤ 16 := by
  unfold right at h
  simp only [Bool.and_eq_true] at h
  have h2 := h.2
  rw [hk] at h2
  have h3 := List.all_eq_true.1 h2 2 (by decide)
  simp [rf, lims, hk, Rc.get, Rc.numV] at h3
  exact h3
def byKind (s : St) (r : Rc) : St × Int := if r.kind = 1 then (emptyS r.node r.count r.num.toNat, 0) else if r.kind = 2 then fBegin s r else if r.kind = 3 then fPlace s r else if r.kind = 4 then fPrepare s r else if r.kind = 6 then fDecide s r else if r.kind = 11 then fPast s r else if r.kind = 5 then fCommit s r else if r.kind = 7 then fEnd s r else if r.kind = 8 then fOut s r else if r.kind = 9 then fIn s r else if r.kind = 10 then fGone s r else (s, 0)
def fFollow (s : St) (r : Rc) : St × Int := if right r = false then (s, 1) else byKind s r
theorem own_reset {base b : Nat} {s s' : St} {y z : Sy} {w w' w9 : World} (h : Own base w b s y) (hb : Below w.heap.size w w') (hl : Lists (fun k => k < w.heap.size) w.heap.size w' s' z) (hc : Cells w9 b 32 (s'.vals z)) (ho : Only (fun k => k = b) w' w9) : Step base b s y w s' w9 := by
  have hlt := h.cel.lt
  have hlow := h.low
  have h1 := hl.only ho (fun k _ e => by rw [e]; exact hlt) (fun k hk e => by have := (hl.lt hk).1; omega)
  have hroom := h.room
  have hbs := hb.size
  have hos := ho.size
  refine ⟨z, ⟨h.low, hc, h1.weak (by omega) (fun k e => by unfold sb at e; omega), fun e => by have := (hl.lt e).1; omega, by omega⟩, (Only.of_below hb).trans ho fun _ _ e => Or.inl e, fun k e => ?_⟩
  rcases e with e | e
  · exact Or.inl (Or.inl e)
  · exact Or.inr (hl.lt e).1
end Go.Proofs.YtalhbblmnahcdaaGreat.Led
