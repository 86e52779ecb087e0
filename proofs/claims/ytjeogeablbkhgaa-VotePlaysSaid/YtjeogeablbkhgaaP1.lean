/-
  Words for memory that all layers' proofs share: what the first cells of a block hold; a slice of texts; a row of the call's own. No program is named.
  Conditions: none.
-/
import Derived.Below
import Derived.WalkKit
import Derived.ProofKit
import Derived.Maps.AppendAt
namespace Go.Proofs.Ytjeogeablbkhgaa.Mem
open Go.RowKit
theorem block_of_cell {w : World} {p : Addr} {v : Value} (h : w.cell? p = some v) : p.block < w.heap.size := by
 rcases Nat.lt_or_ge p.block w.heap.size with hlt | hge
 ·exact hlt
 ·exfalso
  rw [show w.cell? p = none by simp [World.cell?, Array.getElem?_eq_none hge]] at h
  cases h
theorem lt_of_block {w : World} {g : Nat} {o : Obj} (h : w.heap[g]? = some o) : g < w.heap.size := (Array.getElem?_eq_some_iff.1 h).1
theorem block_later {w w' : World} {g : Nat} {o : Obj} (hb : Below w.heap.size w w') (h : w.heap[g]? = some o) : w'.heap[g]? = some o := (hb.block g (lt_of_block h)).trans h
theorem below_alloc (w : World) (o : Obj) : Below w.heap.size w (w.alloc o) := (Below.refl _ _).alloc (Nat.le_refl _) o
/-- The first cells of block g hold these values, and may be written. -/
def Cells (w : World) (g : Nat) (t : TypeId) (vs : List Value) : Prop :=
 ∃ (C : Array Value) (lo hi : Nat), w.heap[g]? = some (.cells C t (lo, hi)) ∧ (∀ (j : Nat) (u : Value), vs[j]? = some u → C[j]? = some u) ∧ ∀ j, j < vs.length → ¬ (lo ≤ j ∧ j < hi)
theorem Cells.lt {w : World} {g : Nat} {t : TypeId} {vs : List Value} (h : Cells w g t vs) : g < w.heap.size := by
 obtain ⟨C, lo, hi, h1, _⟩ := h
 exact lt_of_block h1
theorem Cells.cell {w : World} {g : Nat} {t : TypeId} {vs : List Value} (h : Cells w g t vs) {j : Nat} {u : Value} (hu : vs[j]? = some u) : w.cell? ⟨g, j, none⟩ = some u := by
 obtain ⟨C, lo, hi, h1, h2, _⟩ := h
 rw [cell_of_row _ _ _ _ _ _ h1]
 exact h2 j u hu
theorem Cells.frozen {w : World} {g : Nat} {t : TypeId} {vs : List Value} (h : Cells w g t vs) {j : Nat} (hj : j < vs.length) : w.frozen? ⟨g, j, none⟩ = false := by
 obtain ⟨C, lo, hi, h1, _, h3⟩ := h
 have := h3 j hj
 simp [World.frozen?, h1]
 omega
theorem Cells.later {w w' : World} {g : Nat} {t : TypeId} {vs : List Value} (h : Cells w g t vs) (hb : Below w.heap.size w w') : Cells w' g t vs := by
 obtain ⟨C, lo, hi, h1, h2⟩ := h
 exact ⟨C, lo, hi, block_later hb h1, h2⟩
theorem Cells.below {w w' : World} {g B : Nat} {t : TypeId} {vs : List Value} (h : Cells w g t vs) (hb : Below B w w') (hg : g < B) : Cells w' g t vs := by
 obtain ⟨C, lo, hi, h1, h2⟩ := h
 exact ⟨C, lo, hi, (hb.block g hg).trans h1, h2⟩
theorem Cells.set_ {w : World} {g : Nat} {t : TypeId} {vs : List Value} (h : Cells w g t vs) (j : Nat) (u : Value) : Cells (w.setCell ⟨g, j, none⟩ u) g t (vs.set j u) := by
 obtain ⟨C, lo, hi, h1, h2, h3⟩ := h
 refine ⟨C.setIfInBounds j u, lo, hi, ?_, ?_, by simpa using h3⟩
 ·simp [World.setCell, Array.getElem?_modify, h1]
 ·intro i v hv
  rw [List.getElem?_set] at hv
  rw [Array.getElem?_setIfInBounds]
  by_cases e : j = i
  ·subst e
   simp only [if_true] at hv ⊢
   split at hv
   ·rename_i hlt
    injection hv with hv
    subst hv
    have h4 := h2 j _ (List.getElem?_eq_getElem hlt)
    rw [if_pos (Array.getElem?_eq_some_iff.1 h4).1]
   ·cases hv
  ·simp only [if_neg e] at hv ⊢
   exact h2 i v hv
theorem Cells.far {w : World} {g : Nat} {t : TypeId} {vs : List Value} (h : Cells w g t vs) {p : Addr} (hp : g ≠ p.block) (u : Value) : Cells (w.setCell p u) g t vs := by
 obtain ⟨C, lo, hi, h1, h2⟩ := h
 exact ⟨C, lo, hi, (Below.heap_setCell w p u g hp).trans h1, h2⟩
theorem cells_new (w : World) (t : TypeId) (vs : List Value) (C : Array Value) (hC : C.toList = vs) : Cells (w.alloc (.cells C t)) w.heap.size t vs := by
 refine ⟨C, 0, 0, heap_alloc_new w _, fun j u hu => ?_, fun j _ h => by omega⟩
 subst hC
 simpa using hu
/-- The slice whose first cell is at A holds these texts. -/
def Strs (w : World) (A : Option Addr) (ss : List ByteArray) : Prop := ∀ k (h : k < ss.length), ∃ ad, A = some ad ∧ w.cell? (ad.add k) = some (.string ss[k]) ∧ ss[k].size ≤ 140737488355328
/-- A slice that may be: nil has no room; no more elements than room. -/
def Cap (A : Option Addr) (n c : Nat) : Prop := (A = none → c = 0) ∧ n ≤ c
theorem Strs.later {w w' : World} {A : Option Addr} {ss : List ByteArray} (h : Strs w A ss) (hb : Below w.heap.size w w') : Strs w' A ss := by
 intro k hlt
 obtain ⟨ad, e, hc, hz⟩ := h k hlt
 exact ⟨ad, e, (hb.cell (block_of_cell hc)).trans hc, hz⟩
/-- Bytes as cells. -/
def bv (b : UInt8) : Value := .int .u8 (b.toNat : Int)
theorem ret_int {k : IntKind} {a b : Int} (h : a = b) : Ending.returned (.int k a) = .returned (.int k b) := by rw [h]
theorem ret_val {a b : Value} (h : a = b) : Ending.returned a = .returned b := by rw [h]
end Go.Proofs.Ytjeogeablbkhgaa.Mem
