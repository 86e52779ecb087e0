/-
  Lists of items that rise, and lists in which the items of each cell stand in the same order: the mathematics of a stable sort.
  Conditions: none.
-/
import Derived.Test.YtjeogeablbkhgaaP14
namespace Go.Proofs.Ytjeogeablbkhgaa.Item
/-- The cells rise, or stand still. -/
def Asc (l : List It) : Prop := l.Pairwise fun x y => x.cell ≤ y.cell
/-- The items of each cell are the same, in the same order. -/
def Same (l m : List It) : Prop := ∀ c : Int, l.filter (fun x => x.cell == c) = m.filter (fun x => x.cell == c)
theorem Same.refl (l : List It) : Same l l := fun _ => rfl
theorem Same.symm {l m : List It} (h : Same l m) : Same m l := fun c => (h c).symm
theorem Same.trans {l m n : List It} (h : Same l m) (k : Same m n) : Same l n := fun c => (h c).trans (k c)
theorem Same.append {l m l' m' : List It} (h : Same l l') (k : Same m m') : Same (l ++ m) (l' ++ m') := fun c => by rw [List.filter_append, List.filter_append, h c, k c]
theorem Same.mem {l m : List It} (h : Same l m) (x : It) : x ∈ l ↔ x ∈ m := by
 have e : ∀ l : List It, x ∈ l ↔ x ∈ l.filter (fun y => y.cell == x.cell) := fun l => by simp
 rw [e l, e m, h x.cell]
/-- Two parts that share no cell may change places. -/
theorem Same.swap {X Y : List It} (h : ∀ x ∈ X, ∀ y ∈ Y, x.cell ≠ y.cell) : Same (X ++ Y) (Y ++ X) := fun c => by
 rw [List.filter_append, List.filter_append]
 by_cases hX : X.filter (fun x => x.cell == c) = []
 ·rw [hX]; simp
 ·have hY : Y.filter (fun x => x.cell == c) = [] := by
   obtain ⟨x, hx⟩ := List.exists_mem_of_ne_nil _ hX
   obtain ⟨hx1, hx2⟩ := List.mem_filter.1 hx
   refine List.filter_eq_nil_iff.2 fun y hy hy2 => h x hx1 y hy ?_
   rw [eq_of_beq hx2, eq_of_beq hy2]
  rw [hY]; simp
theorem Asc.append {X Y : List It} (h : Asc X) (k : Asc Y) (hx : ∀ x ∈ X, ∀ y ∈ Y, x.cell ≤ y.cell) : Asc (X ++ Y) := List.pairwise_append.2 ⟨h, k, hx⟩
theorem Asc.left {X Y : List It} (h : Asc (X ++ Y)) : Asc X := (List.pairwise_append.1 h).1
theorem Asc.right {X Y : List It} (h : Asc (X ++ Y)) : Asc Y := (List.pairwise_append.1 h).2.1
theorem Asc.cross {X Y : List It} (h : Asc (X ++ Y)) : ∀ x ∈ X, ∀ y ∈ Y, x.cell ≤ y.cell := (List.pairwise_append.1 h).2.2
/-- An item put into its place among items that rise: ahead of those above it. -/
theorem asc_insert {Z1 Z2 : List It} {t : It} (h : Asc (Z1 ++ Z2)) (h1 : ∀ z ∈ Z1, z.cell ≤ t.cell) (h2 : ∀ z ∈ Z2, t.cell < z.cell) : Asc (Z1 ++ t :: Z2) := by
 refine Asc.append h.left (List.pairwise_cons.2 ⟨fun z hz => Int.le_of_lt (h2 z hz), h.right⟩) fun x hx y hy => ?_
 rcases List.mem_cons.1 hy with rfl | hy
 ·exact h1 x hx
 ·exact h.cross x hx y hy
theorem same_insert {Z1 Z2 : List It} {t : It} (h2 : ∀ z ∈ Z2, t.cell < z.cell) : Same (Z1 ++ Z2 ++ [t]) (Z1 ++ t :: Z2) := by
 have h : Same (Z2 ++ [t]) ([t] ++ Z2) := Same.swap fun z hz y hy => by
  rw [List.mem_singleton.1 hy]
  have := h2 z hz
  omega
 rw [List.append_assoc]
 exact (Same.refl Z1).append h
theorem asc_put {Z1 Z2 : List It} {t : It} (h : Asc (Z1 ++ Z2)) (h1 : ∀ z ∈ Z1, z.cell ≤ t.cell) (h2 : ∀ z ∈ Z2, t.cell ≤ z.cell) : Asc (Z1 ++ t :: Z2) := by
 refine Asc.append h.left (List.pairwise_cons.2 ⟨fun z hz => h2 z hz, h.right⟩) fun x hx y hy => ?_
 rcases List.mem_cons.1 hy with rfl | hy
 ·exact h1 x hx
 ·exact h.cross x hx y hy
theorem asc_get {l : List It} (h : Asc l) {i j : Nat} (hij : i ≤ j) (hj : j < l.length) : (l[i]'(by omega)).cell ≤ l[j].cell := by
 rcases Nat.eq_or_lt_of_le hij with rfl | hlt
 ·exact Int.le_refl _
 ·exact List.pairwise_iff_getElem.1 h i j (by omega) hj hlt
theorem cmp_neg (a b : Int) : cmpI a b < 0 ↔ a < b := by
 unfold cmpI
 split
 ·omega
 ·split <;> omega
end Go.Proofs.Ytjeogeablbkhgaa.Item
