/-
  Cells that lie within a block, from some place of it on; what a call leaves of the others in that block. No program is named.
  Conditions: none.
-/
import Derived.Test.YtjeogeablbkhgaaP4
namespace Go.Proofs.Ytjeogeablbkhgaa.Mem
open Go.RowKit
/-- The cells of block b from place o on hold these values, and may be written. -/
def CellsO (w : World) (b o : Nat) (vs : List Value) : Prop :=
 ∃ (C : Array Value) (t : TypeId) (lo hi : Nat), w.heap[b]? = some (.cells C t (lo, hi)) ∧ (∀ (j : Nat) (u : Value), vs[j]? = some u → C[o + j]? = some u) ∧ ∀ j, j < vs.length → ¬ (lo ≤ o + j ∧ o + j < hi)
section
variable {w w' : World} {b o : Nat} {vs : List Value}
theorem CellsO.of {t : TypeId} (h : Cells w b t vs) : CellsO w b 0 vs := by
 obtain ⟨C, lo, hi, h1, h2, h3⟩ := h
 exact ⟨C, t, lo, hi, h1, fun j u hu => by rw [Nat.zero_add]; exact h2 j u hu, fun j hj => by rw [Nat.zero_add]; exact h3 j hj⟩
theorem CellsO.lt (h : CellsO w b o vs) : b < w.heap.size := by
 obtain ⟨C, t, lo, hi, h1, _⟩ := h
 exact Mem.lt_of_block h1
theorem CellsO.cell (h : CellsO w b o vs) {j : Nat} {u : Value} (hu : vs[j]? = some u) : w.cell? ⟨b, o + j, none⟩ = some u := by
 obtain ⟨C, t, lo, hi, h1, h2, _⟩ := h
 rw [cell_of_row _ _ _ _ _ _ h1]
 exact h2 j u hu
theorem CellsO.frozen (h : CellsO w b o vs) {j : Nat} (hj : j < vs.length) : w.frozen? ⟨b, o + j, none⟩ = false := by
 obtain ⟨C, t, lo, hi, h1, h2, h3⟩ := h
 have := h3 j hj
 simp [World.frozen?, h1]
 omega
theorem CellsO.only {S : Nat → Prop} (h : CellsO w b o vs) (ho : Only S w w') (hn : ¬ S b) : CellsO w' b o vs := by
 have hlt := h.lt
 obtain ⟨C, t, lo, hi, h1, h2⟩ := h
 exact ⟨C, t, lo, hi, (ho.block b hlt hn).trans h1, h2⟩
theorem CellsO.later (h : CellsO w b o vs) (hb : Below w.heap.size w w') : CellsO w' b o vs := h.only (Only.of_below (S := fun _ => False) hb) fun e => e
theorem CellsO.set_ (h : CellsO w b o vs) (j : Nat) (u : Value) : CellsO (w.setCell ⟨b, o + j, none⟩ u) b o (vs.set j u) := by
 obtain ⟨C, t, lo, hi, h1, h2, h3⟩ := h
 refine ⟨C.setIfInBounds (o + j) u, t, lo, hi, ?_, ?_, by simpa using h3⟩
 ·simp [World.setCell, Array.getElem?_modify, h1]
 ·intro i v hv
  rw [List.getElem?_set] at hv
  rw [Array.getElem?_setIfInBounds]
  by_cases e : j = i
  ·subst e
   simp only [if_true] at hv ⊢
   split at hv
   ·rename_i hlt
    injection hv with hv
    subst hv
    have h4 := h2 j _ (List.getElem?_eq_getElem hlt)
    rw [if_pos (Array.getElem?_eq_some_iff.1 h4).1]
   ·cases hv
  ·simp only [if_neg e] at hv
   rw [if_neg (by omega)]
   exact h2 i v hv
theorem CellsO.aside (h : CellsO w b o vs) {i : Nat} (hi : i < o ∨ o + vs.length ≤ i) (u : Value) : CellsO (w.setCell ⟨b, i, none⟩ u) b o vs := by
 obtain ⟨C, t, lo, hi', h1, h2, h3⟩ := h
 refine ⟨C.setIfInBounds i u, t, lo, hi', ?_, ?_, h3⟩
 ·simp [World.setCell, Array.getElem?_modify, h1]
 ·intro j v hv
  have hj : j < vs.length := (List.getElem?_eq_some_iff.1 hv).1
  rw [Array.getElem?_setIfInBounds, if_neg (by omega)]
  exact h2 j v hv
theorem CellsO.part {l m : List Value} (h : CellsO w b o (l ++ m)) : CellsO w b o l ∧ CellsO w b (o + l.length) m := by
 obtain ⟨C, t, lo, hi, h1, h2, h3⟩ := h
 refine ⟨⟨C, t, lo, hi, h1, fun j u hu => h2 j u ?_, fun j hj => h3 j (by rw [List.length_append]; omega)⟩, ⟨C, t, lo, hi, h1, fun j u hu => ?_, fun j hj => ?_⟩⟩
 ·rw [List.getElem?_append_left (List.getElem?_eq_some_iff.1 hu).1]
  exact hu
 ·have := h2 (l.length + j) u (by rw [List.getElem?_append_right (by omega), Nat.add_sub_cancel_left]; exact hu)
  rwa [← Nat.add_assoc] at this
 ·have := h3 (l.length + j) (by rw [List.length_append]; omega)
  omega
theorem CellsO.join {l m : List Value} (h : CellsO w b o l) (k : CellsO w b (o + l.length) m) : CellsO w b o (l ++ m) := by
 obtain ⟨C, t, lo, hi, h1, h2, h3⟩ := h
 obtain ⟨C', t', lo', hi', k1, k2, k3⟩ := k
 rw [h1] at k1
 simp only [Option.some.injEq, Obj.cells.injEq, Prod.mk.injEq] at k1
 obtain ⟨rfl, rfl, rfl, rfl⟩ := k1
 refine ⟨C, t, lo, hi, h1, fun j u hu => ?_, fun j hj => ?_⟩
 ·by_cases hj : j < l.length
  ·rw [List.getElem?_append_left hj] at hu
   exact h2 j u hu
  ·rw [List.getElem?_append_right (by omega)] at hu
   have := k2 _ _ hu
   rwa [show o + l.length + (j - l.length) = o + j by omega] at this
 ·rw [List.length_append] at hj
  by_cases hj2 : j < l.length
  ·exact h3 j hj2
  ·have := k3 (j - l.length) (by omega)
   omega
theorem CellsO.range (h : CellsO w b o vs) : w.rangeAt b o vs := fun _ _ hv => h.cell hv
theorem CellsO.there (h : CellsO w b o vs) {n : Nat} (hn : n ≤ vs.length) : w.there b o n := fun j hj => by
 exact ⟨by rw [h.cell (List.getElem?_eq_getElem (show j < vs.length by omega))]; rfl, h.frozen (by omega)⟩
end
/-- What lies in block b outside of m cells from place o on is as it was. -/
def Keeps (b o m : Nat) (w w' : World) : Prop := ∀ (o' : Nat) (vs : List Value), (o' + vs.length ≤ o ∨ o + m ≤ o') → CellsO w b o' vs → CellsO w' b o' vs
/-- Of the blocks that were there only b has turned, and of it only m cells from o on. -/
structure Upd (b o m : Nat) (w w' : World) : Prop where
 only : Only (fun k => k = b) w w'
 keeps : Keeps b o m w w'
section
variable {w w' a c : World} {b o m : Nat}
theorem Keeps.refl (b o m : Nat) (w : World) : Keeps b o m w w := fun _ _ _ h => h
theorem Keeps.trans (h : Keeps b o m a w) (k : Keeps b o m w c) : Keeps b o m a c := fun o' vs e x => k o' vs e (h o' vs e x)
theorem Keeps.off {S : Nat → Prop} (ho : Only S w w') (hn : ¬ S b) : Keeps b o m w w' := fun _ _ _ h => h.only ho hn
theorem Keeps.set (w : World) (b o m : Nat) {j : Nat} (hj : j < m) (u : Value) : Keeps b o m w (w.setCell ⟨b, o + j, none⟩ u) := fun o' vs e h => h.aside (by omega) u
theorem Keeps.wide {o' m' : Nat} (h : Keeps b o m w w') (h1 : o' ≤ o) (h2 : o + m ≤ o' + m') : Keeps b o' m' w w' := fun p vs e x => h p vs (by omega) x
theorem Upd.refl (b o m : Nat) (w : World) : Upd b o m w w := ⟨Only.refl _ _, Keeps.refl _ _ _ _⟩
theorem Upd.trans (h : Upd b o m a w) (k : Upd b o m w c) : Upd b o m a c := ⟨h.only.trans k.only fun _ _ e => e, h.keeps.trans k.keeps⟩
theorem Upd.set (w : World) (b o m : Nat) {j : Nat} (hj : j < m) (u : Value) : Upd b o m w (w.setCell ⟨b, o + j, none⟩ u) := ⟨Only.of_set w ⟨b, o + j, none⟩ u, Keeps.set w b o m hj u⟩
theorem Upd.later (hb : Below w.heap.size w w') : Upd b o m w w' := ⟨Only.of_below hb, fun _ _ _ h => h.later hb⟩
theorem Upd.after (h : Upd b o m a w) (hb : Below w.heap.size w c) : Upd b o m a c := h.trans (Upd.later hb)
theorem Upd.before (hb : Below a.heap.size a w) (h : Upd b o m w c) : Upd b o m a c := (Upd.later hb).trans h
theorem Upd.wide {o' m' : Nat} (h : Upd b o m w w') (h1 : o' ≤ o) (h2 : o + m ≤ o' + m') : Upd b o' m' w w' := ⟨h.only, h.keeps.wide h1 h2⟩
end
end Go.Proofs.Ytjeogeablbkhgaa.Mem
