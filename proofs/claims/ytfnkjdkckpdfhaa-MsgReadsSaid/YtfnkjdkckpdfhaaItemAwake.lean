/-
  Layer 6: names that are put are read again; the document's example (awake); the order of names is one. Conditions: none.
-/
import Derived.Test.YtfnkjdkckpdfhaaItemPut
import Derived.Test.YtfnkjdkckpdfhaaItemGet
namespace Go.Proofs.Ytfnkjdkckpdfhaa.Item
open Go.RowKit Go.Proofs.Ytfnkjdkckpdfhaa.Mem Go.Proofs.Ytfnkjdkckpdfhaa.Wire

theorem bs_left (l m : List UInt8) : (bs (l ++ m)).extract 0 l.length = bs l := ba_ext (by rw [ext_list, bs_list, bs_list]; simp)
theorem bs_right (l m : List UInt8) : (bs (l ++ m)).extract l.length (bs (l ++ m)).size = bs m := ba_ext (by rw [ext_list, bs_list, bs_list, bs_size, List.take_of_length_le (Nat.le_refl _)]; simp)
theorem tk_bs {n : Nat} (l m : List UInt8) (h : l.length = n) : tk (bs (l ++ m)) n = bs l := by
  subst h
  unfold tk
  rw [if_neg (by rw [bs_size, List.length_append]; omega), bs_left]
theorem rest_bs {n : Nat} (l m : List UInt8) (h : l.length = n) : rest (bs (l ++ m)) n = bs m := by
  subst h
  unfold rest
  rw [if_neg (by rw [bs_size, List.length_append]; omega), bs_right]
theorem brk_bs {n : Nat} (l m : List UInt8) (b : Bool) (h : l.length = n) : brk (bs (l ++ m)) b n = b := by
  subst h
  unfold brk
  rw [if_neg (by rw [bs_size, List.length_append]; omega)]
theorem num_bs {n : Nat} (l m : List UInt8) (h : l.length = n) : num (bs (l ++ m)) n = valN l := by unfold num; rw [tk_bs l m h, bs_list]
theorem num_big (k n : Nat) (m : List UInt8) (h : k < 256 ^ n) : num (bs (big k n ++ m)) n = k := by rw [num_bs _ _ (big_length k n), valN_big k n h]
theorem wrap_u64 {n : Int} (h : I64 n) : IntKind.i64.wrap (u64 n : Nat) = n := by
  rw [u64_cast, IntKind.wrap_i64]
  unfold I64 at h
  omega
theorem num_u64 {n : Int} (h : I64 n) (m : List UInt8) : IntKind.i64.wrap (num (bs (big (u64 n) 8 ++ m)) 8 : Nat) = n := by
  rw [num_big _ _ _ (Nat.lt_of_lt_of_eq (u64_lt n) (by decide)), wrap_u64 h]
theorem tidB_eq (t : Tid) (m : List UInt8) : tidB t ++ m = big (u64 t.node) 8 ++ (big (u64 t.epoch) 8 ++ (big (u64 t.seq) 8 ++ m)) := by
  unfold tidB nums
  simp
theorem read_tidB {t : Tid} (h : t.ok) (m : List UInt8) : readTid (bs (tidB t ++ m)) false = t ∧ restTid (bs (tidB t ++ m)) = bs m ∧ brkTid (bs (tidB t ++ m)) false = false := by
  obtain ⟨h1, h2, h3⟩ := h
  have l1 := big_length (u64 t.node) 8
  have l2 := big_length (u64 t.epoch) 8
  have l3 := big_length (u64 t.seq) 8
  have e2 : restTid (bs (tidB t ++ m)) = bs m := by
    unfold restTid
    rw [tidB_eq, rest_bs _ _ l1, rest_bs _ _ l2, rest_bs _ _ l3]
  have e3 : brkTid (bs (tidB t ++ m)) false = false := by
    unfold brkTid
    rw [tidB_eq, rest_bs _ _ l1, rest_bs _ _ l2, brk_bs _ _ _ l1, brk_bs _ _ _ l2, brk_bs _ _ _ l3]
  refine ⟨?_, e2, e3⟩
  unfold readTid
  rw [e3, if_neg (by decide)]
  unfold n1 n2 n3
  rw [tidB_eq, rest_bs _ _ l1, rest_bs _ _ l2, num_u64 h1, num_u64 h2, num_u64 h3]

/-- One name stands ahead of another. -/
def tlt (a b : Tid) : Prop := a.node < b.node ∨ a.node = b.node ∧ (a.epoch < b.epoch ∨ a.epoch = b.epoch ∧ a.seq < b.seq)
theorem ord_cases (a b : Tid) : (ord a b = -1 ∧ tlt a b) ∨ (ord a b = 0 ∧ a = b) ∨ (ord a b = 1 ∧ tlt b a) := by
  obtain ⟨a1, a2, a3⟩ := a
  obtain ⟨b1, b2, b3⟩ := b
  simp only [ord, firstNZ, cmpI, tlt, Tid.mk.injEq]
  by_cases x1 : a1 < b1
  · exact Or.inl ⟨by rw [if_pos x1]; rfl, Or.inl x1⟩
  · by_cases y1 : b1 < a1
    · exact Or.inr (Or.inr ⟨by rw [if_neg x1, if_pos y1]; rfl, Or.inl y1⟩)
    · have e1 : a1 = b1 := by omega
      rw [if_neg x1, if_neg y1, if_pos rfl]
      by_cases x2 : a2 < b2
      · exact Or.inl ⟨by rw [if_pos x2]; rfl, Or.inr ⟨e1, Or.inl x2⟩⟩
      · by_cases y2 : b2 < a2
        · exact Or.inr (Or.inr ⟨by rw [if_neg x2, if_pos y2]; rfl, Or.inr ⟨e1.symm, Or.inl y2⟩⟩)
        · have e2 : a2 = b2 := by omega
          rw [if_neg x2, if_neg y2, if_pos rfl]
          by_cases x3 : a3 < b3
          · exact Or.inl ⟨by rw [if_pos x3]; rfl, Or.inr ⟨e1, Or.inr ⟨e2, x3⟩⟩⟩
          · by_cases y3 : b3 < a3
            · exact Or.inr (Or.inr ⟨by rw [if_neg x3, if_pos y3]; rfl, Or.inr ⟨e1.symm, Or.inr ⟨e2.symm, y3⟩⟩⟩)
            · have e3 : a3 = b3 := by omega
              rw [if_neg x3, if_neg y3, if_pos rfl]
              exact Or.inr (Or.inl ⟨rfl, e1, e2, e3⟩)
theorem tlt_irrefl (a : Tid) : ¬ tlt a a := by unfold tlt; omega
theorem tlt_asymm {a b : Tid} (h : tlt a b) : ¬ tlt b a := by unfold tlt at *; omega
theorem tlt_trans {a b c : Tid} (h : tlt a b) (k : tlt b c) : tlt a c := by unfold tlt at *; omega
theorem ord_neg (a b : Tid) : ord a b = -ord b a := by
  rcases ord_cases a b with ⟨h, k⟩ | ⟨h, k⟩ | ⟨h, k⟩ <;> rcases ord_cases b a with ⟨h', k'⟩ | ⟨h', k'⟩ | ⟨h', k'⟩
  · exact absurd k' (tlt_asymm k)
  · subst k'; exact absurd k (tlt_irrefl _)
  · omega
  · subst k; exact absurd k' (tlt_irrefl _)
  · omega
  · subst k; exact absurd k' (tlt_irrefl _)
  · omega
  · subst k'; exact absurd k (tlt_irrefl _)
  · exact absurd k' (tlt_asymm k)
theorem ord_zero (a b : Tid) : ord a b = 0 ↔ a = b := by
  rcases ord_cases a b with ⟨h, k⟩ | ⟨h, k⟩ | ⟨h, k⟩
  · refine ⟨fun e => by omega, fun e => ?_⟩
    subst e; exact absurd k (tlt_irrefl _)
  · exact ⟨fun _ => k, fun _ => h⟩
  · refine ⟨fun e => by omega, fun e => ?_⟩
    subst e; exact absurd k (tlt_irrefl _)
theorem ord_trans {a b c : Tid} (h : ord a b ≤ 0) (k : ord b c ≤ 0) : ord a c ≤ 0 := by
  rcases ord_cases a b with ⟨h1, h2⟩ | ⟨h1, h2⟩ | ⟨h1, h2⟩ <;> rcases ord_cases b c with ⟨k1, k2⟩ | ⟨k1, k2⟩ | ⟨k1, k2⟩ <;> rcases ord_cases a c with ⟨l1, l2⟩ | ⟨l1, l2⟩ | ⟨l1, l2⟩ <;> first | omega | skip
  · exact absurd l2 (tlt_asymm (tlt_trans h2 k2))
  · subst k2; omega
  · subst h2; omega
  · subst h2; subst k2; omega

end Go.Proofs.Ytfnkjdkckpdfhaa.Item
