/-
  Whole structs by value, read and written at once (over the kit's laws of ranges), for blocks whose first cells are known. No program is named.
  Conditions: none.
-/
import Derived.Test.YtjeogeablbkhgaaP2
import Derived.Deep.MidRow
import Derived.Tactics
import Derived.Great.BuildSlice
namespace Go.Proofs.Ytjeogeablbkhgaa.Mem
open Go.RowKit
variable {P : Program}
theorem Cells.range {w : World} {g : Nat} {t : TypeId} {vs : List Value} (h : Cells w g t vs) : w.rangeAt g 0 vs := fun j v hv => by rw [Nat.zero_add]; exact h.cell hv
theorem Cells.there {w : World} {g : Nat} {t : TypeId} {vs : List Value} (h : Cells w g t vs) {n : Nat} (hn : n ≤ vs.length) : w.there g 0 n := fun j hj => by
 rw [Nat.zero_add]
 exact ⟨by rw [h.cell (List.getElem?_eq_getElem (show j < vs.length by omega))]; rfl, h.frozen (by omega)⟩
/-- A part of a block's cells is written. -/
theorem Cells.put_at {g : Nat} {t : TypeId} : ∀ (l : List Value) (o : Nat) {w : World} {vs : List Value}, Cells w g t vs → o + l.length ≤ vs.length →
  Cells (w.setCells g o l) g t (vs.take o ++ (l ++ vs.drop (o + l.length))) ∧ Only (fun k => k = g) w (w.setCells g o l)
 | [], o, w, vs, h, _ => ⟨by rw [show w.setCells g o [] = w from rfl]; simpa using h, Only.refl _ _⟩
 | v :: r, o, w, vs, h, hl => by
  rw [List.length_cons] at hl
  obtain ⟨h1, h2⟩ := Cells.put_at r (o + 1) (h.set_ o v) (by rw [List.length_set]; omega)
  refine ⟨?_, (Only.of_set w ⟨g, o, none⟩ v).trans h2 fun _ _ e => e⟩
  have e1 : (vs.set o v).take (o + 1) = vs.take o ++ [v] := by
   rw [List.take_succ_eq_append_getElem (by rw [List.length_set]; omega), List.take_set_of_le (Nat.le_refl _)]
   simp
  have e2 : (vs.set o v).drop (o + 1 + r.length) = vs.drop (o + (r.length + 1)) := by
   rw [List.drop_set_of_lt (by omega)]
   congr 1
   omega
  rw [e1, e2] at h1
  rw [List.length_cons]
  show Cells ((w.setCell ⟨g, o, none⟩ v).setCells g (o + 1) r) g t _
  simpa using h1
theorem Cells.put {w : World} {g : Nat} {t : TypeId} {vs l : List Value} (h : Cells w g t vs) (hl : l.length = vs.length) : Cells (w.setCells g 0 l) g t l ∧ Only (fun k => k = g) w (w.setCells g 0 l) := by
 obtain ⟨h1, h2⟩ := Cells.put_at l 0 h (by omega)
 refine ⟨?_, h2⟩
 rw [List.drop_of_length_le (by omega)] at h1
 simpa using h1
/-- A struct is loaded. -/
theorem Cells.load {w : World} {g : Nat} {t : TypeId} {vs : List Value} (h : Cells w g t vs) (ty : TypeId) (d : TypeDesc) (hu : P.underlying ty = some d) (hd : d.isRow = true) (hi : (P.info? ty).map (·.size) = some vs.length) :
  (loadVar ty ⟨g, 0, none⟩).run P w = .ok (.agg vs.toArray) w := run_loadVar_mid w g 0 ty vs d h.range hu hd hi
/-- What is returned: a struct's variable. -/
theorem ret_cell {fn : Func} {p : Tmp} {ty : TypeId} (hf : fn.results = #[.cell p ty]) (tmps : Array Value) {w : World} {g : Nat} {t : TypeId} {vs : List Value} (h : Cells w g t vs) (d : TypeDesc)
  (hp : tmps.getD p undef = .pointer (some ⟨g, 0, none⟩)) (hu : P.underlying ty = some d) (hd : d.isRow = true) (hi : (P.info? ty).map (·.size) = some vs.length) :
  (results fn tmps).run P w = .ok (.agg vs.toArray) w := by
 have hp' : tmps[p]?.getD undef = .pointer (some ⟨g, 0, none⟩) := by simpa using hp
 have hl := h.load (P := P) ty d hu hd hi
 simp [results, hf, hp', asAddr, hl]
end Go.Proofs.Ytjeogeablbkhgaa.Mem
