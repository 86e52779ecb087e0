/-
  Two rising lists cut for a merge: what lies below the cut, merged, and what lies above it, merged, are the whole, merged.
  Conditions: none.
-/
import Derived.Test.YtjeogeablbkhgaaP17
namespace Go.Proofs.Ytjeogeablbkhgaa.Item
/-- Where the cut's four neighbours stand right, all stand right. -/
theorem cut_of {X Y : List It} (hX : Asc X) (hY : Asc Y) {i j : Nat} (hi : i ≤ X.length) (hj : j ≤ Y.length) (h1 : ∀ (k : i < X.length) (l : j - 1 < Y.length), 0 < j → Y[j - 1].cell < X[i].cell) (h2 : ∀ (k : i - 1 < X.length) (l : j < Y.length), 0 < i → X[i - 1].cell ≤ Y[j].cell) :
  ∃ X1 X2 Y1 Y2, X = X1 ++ X2 ∧ Y = Y1 ++ Y2 ∧ X1.length = i ∧ Y1.length = j ∧ (∀ x ∈ X2, ∀ y ∈ Y1, y.cell < x.cell) ∧ ∀ x ∈ X1, ∀ y ∈ Y2, x.cell ≤ y.cell := by
 refine ⟨X.take i, X.drop i, Y.take j, Y.drop j, (List.take_append_drop _ _).symm, (List.take_append_drop _ _).symm, by rw [List.length_take]; omega, by rw [List.length_take]; omega, fun x hx y hy => ?_, fun x hx y hy => ?_⟩
 ·obtain ⟨k, hk, rfl⟩ := List.getElem_of_mem hx
  obtain ⟨q, hq, rfl⟩ := List.getElem_of_mem hy
  rw [List.length_drop] at hk
  rw [List.length_take] at hq
  rw [List.getElem_drop, List.getElem_take]
  have a1 := h1 (by omega) (by omega) (by omega)
  have a2 := asc_get hX (i := i) (j := i + k) (by omega) (by omega)
  have a3 := asc_get hY (i := q) (j := j - 1) (by omega) (by omega)
  omega
 ·obtain ⟨k, hk, rfl⟩ := List.getElem_of_mem hx
  obtain ⟨q, hq, rfl⟩ := List.getElem_of_mem hy
  rw [List.length_take] at hk
  rw [List.length_drop] at hq
  rw [List.getElem_drop, List.getElem_take]
  have a1 := h2 (by omega) (by omega) (by omega)
  have a2 := asc_get hX (i := k) (j := i - 1) (by omega) (by omega)
  have a3 := asc_get hY (i := j) (j := j + q) (by omega) (by omega)
  omega
theorem asc_join {X1 X2 Y1 Y2 Z1 Z2 : List It} (hX : Asc (X1 ++ X2)) (hY : Asc (Y1 ++ Y2)) (h1 : ∀ x ∈ X2, ∀ y ∈ Y1, y.cell < x.cell) (h2 : ∀ x ∈ X1, ∀ y ∈ Y2, x.cell ≤ y.cell) (a1 : Asc Z1) (a2 : Asc Z2) (s1 : Same (X1 ++ Y1) Z1) (s2 : Same (X2 ++ Y2) Z2) : Asc (Z1 ++ Z2) := a1.append a2 fun x hx y hy => by
 rcases List.mem_append.1 ((s1.mem x).2 hx) with hx | hx <;> rcases List.mem_append.1 ((s2.mem y).2 hy) with hy | hy
 ·exact hX.cross x hx y hy
 ·exact h2 x hx y hy
 ·exact Int.le_of_lt (h1 y hy x hx)
 ·exact hY.cross x hx y hy
theorem same_join {X1 X2 Y1 Y2 Z1 Z2 : List It} (h1 : ∀ x ∈ X2, ∀ y ∈ Y1, y.cell < x.cell) (s1 : Same (X1 ++ Y1) Z1) (s2 : Same (X2 ++ Y2) Z2) : Same ((X1 ++ X2) ++ (Y1 ++ Y2)) (Z1 ++ Z2) := by
 have h : Same (X2 ++ Y1) (Y1 ++ X2) := Same.swap fun x hx y hy e => by have := h1 x hx y hy; omega
 have k : Same (X1 ++ (X2 ++ Y1) ++ Y2) (X1 ++ (Y1 ++ X2) ++ Y2) := ((Same.refl X1).append h).append (Same.refl Y2)
 have := k.trans (by simpa using s1.append s2 : Same (X1 ++ (Y1 ++ X2) ++ Y2) (Z1 ++ Z2))
 simpa using this
theorem asc_empty {X Y : List It} (hX : Asc X) (hY : Asc Y) (h : X.length = 0 ∨ Y.length = 0) : Asc (X ++ Y) := by
 rcases h with h | h
 ·rw [List.eq_nil_of_length_eq_zero h]; exact hY
 ·rw [List.eq_nil_of_length_eq_zero h, List.append_nil]; exact hX
theorem swap_empty {X Y : List It} (h : X.length = 0 ∨ Y.length = 0) : X ++ Y = Y ++ X := by
 rcases h with h | h <;> rw [List.eq_nil_of_length_eq_zero h] <;> simp
end Go.Proofs.Ytjeogeablbkhgaa.Item
