/-
  Layer 10: is a message right? The document's answer. Conditions: none.
-/
import Derived.Test.YtfnkjdkckpdfhaaMsgRefA
import Derived.Test.YtfnkjdkckpdfhaaMsgSame
import Derived.Test.YtfnkjdkckpdfhaaItemNodes
import Derived.Deep.CutBlock
namespace Go.Proofs.Ytfnkjdkckpdfhaa.Msg
set_option maxRecDepth 100000
open Go.RowKit Go.Proofs.Ytfnkjdkckpdfhaa.Mem Go.Proofs.Ytfnkjdkckpdfhaa.Item

def hiN : List Int := [15, 16, 255, 1099511627776, 1099511627776]
/-- Is the number m of a message right, but for where it begins? -/
def okN (r : Rc) (m : Nat) : Bool := (hasR r.kind m || decide (r.get m = 0)) && (decide (m = 5) || (decide (0 ≤ r.get m) && decide (r.get m ≤ (hiN[m]?).getD 0)))
def okK (r : Rc) (j : Nat) : Bool := (List.range j).all (okN r)
def q13 (hc h0 e6 n0 : Bool) : Bool := (hc && h0) || (e6 && n0)
def q15 (nm tz rt sb yes : Bool) : Bool := (nm != tz) || (nm && !rt) || (!sb && yes)
def q17 (e9 bL ri : Bool) : Bool := (e9 != bL) || (e9 && !ri)
def q19 (e7 e9 m0 rn : Bool) : Bool := (e7 || e9 || m0) && rn
def refRight (r : Rc) : Bool := decide (1 ≤ r.kind ∧ r.kind ≤ 15) && (okK r 6 && (!q13 (hasR r.kind 3) (r.hop == 0) (r.kind == 6) (r.node == 0) && (!q15 (named r.kind) (!t0B r.tid) (rightTid r.tid) (says r.kind) r.yes && (!q17 (r.kind == 9) (decide (0 < r.items.length)) (rightItems r.items) && q19 (r.kind == 7) (r.kind == 9) (decide (r.nodes.length = 0)) (rightNodes r.nodes)))))
theorem okK_succ (r : Rc) (j : Nat) : okK r (j + 1) = (okK r j && okN r j) := by unfold okK; rw [List.range_succ, List.all_append]; simp
theorem okK_false (r : Rc) (j : Nat) (h : okK r j = false) (hj : j ≤ 6) : okK r 6 = false := by
  unfold okK at h ⊢
  rw [List.all_eq_false] at h ⊢
  obtain ⟨x, hx, h⟩ := h
  exact ⟨x, List.mem_range.2 (by have := List.mem_range.1 hx; omega), h⟩
theorem hiN_at : ∀ j, j < 5 → ([Value.int .i64 0, .int .i64 15, .int .i64 16, .int .i64 255, .int .i64 1099511627776, .int .i64 1099511627776] : List Value)[j + 1]? = some (.int .i64 ((hiN[j]?).getD 0)) := by
  intro j hj
  rcases (show j = 0 ∨ j = 1 ∨ j = 2 ∨ j = 3 ∨ j = 4 by omega) with rfl | rfl | rfl | rfl | rfl <;> rfl
def mRef15_A (s : Nat) (k t1 t2 t3 : Int) : Nat → Value → World → Prop
  | 0, v, _ => v = .int .i64 k
  | 1, v, _ => v = .bool true
  | 2, v, _ => v = .pointer (some ⟨s, 1, none⟩)
  | 3, v, _ => v = .agg #[.int .i64 t1, .int .i64 t2, .int .i64 t3]
  | 4, v, _ => v = .agg #[.int .i64 0, .int .i64 0, .int .i64 0]
  | 5, v, _ => v = .bool false
  | 6, v, _ => v = .bool true
  | 7, v, _ => v = .bool true
  | 8, v, _ => v = undef
  | 9, v, _ => v = undef
  | 10, v, _ => v = undef
  | 11, v, _ => v = undef
  | 12, v, _ => v = undef
  | 13, v, _ => v = undef
  | 14, v, _ => v = undef
  | 15, v, _ => v = undef
  | 16, v, _ => v = .bool true
  | 17, v, _ => v = .bool true
  | 18, v, _ => v = undef
  | 19, v, _ => v = undef
  | 20, v, _ => v = undef
  | 21, v, _ => v = undef
  | 22, v, _ => v = undef
  | 23, v, _ => v = undef
  | 24, v, _ => v = undef
  | 25, v, _ => v = .bool true
  | _, _, _ => True
theorem mRef15_A_later {s : Nat} {k t1 t2 t3 : Int} {j : Nat} {v : Value} {w w' : World} (_hb : Below w.heap.size w w') (h : mRef15_A s k t1 t2 t3 j v w) : mRef15_A s k t1 t2 t3 j v w' := by
  match j, h with
  | 0, h | 1, h | 2, h | 3, h | 4, h | 5, h | 6, h | 7, h | 8, h | 9, h | 10, h | 11, h | 12, h | 13, h | 14, h | 15, h | 16, h | 17, h | 18, h | 19, h | 20, h | 21, h | 22, h | 23, h | 24, h | 25, h => exact h
  | _ + 26, _ => exact trivial
theorem mRef15_A_keep {s : Nat} {k t1 t2 t3 : Int} {j : Nat} {v : Value} {w w' : World}  (h : mRef15_A s k t1 t2 t3 j v w) : mRef15_A s k t1 t2 t3 j v w' := by
  match j, h with
  | 0, h | 1, h | 2, h | 3, h | 4, h | 5, h | 6, h | 7, h | 8, h | 9, h | 10, h | 11, h | 12, h | 13, h | 14, h | 15, h | 16, h | 17, h | 18, h | 19, h | 20, h | 21, h | 22, h | 23, h | 24, h | 25, h => exact h
  | _ + 26, _ => exact trivial
def mRef15_B (s : Nat) (k t1 t2 t3 : Int) : Nat → Value → World → Prop
  | 0, v, _ => v = .int .i64 k
  | 1, v, _ => v = .bool false
  | 2, v, _ => v = .pointer (some ⟨s, 1, none⟩)
  | 3, v, _ => v = .agg #[.int .i64 t1, .int .i64 t2, .int .i64 t3]
  | 4, v, _ => v = .agg #[.int .i64 0, .int .i64 0, .int .i64 0]
  | 5, v, _ => v = .bool true
  | 6, v, _ => v = .bool true
  | 7, v, _ => v = .bool true
  | 8, v, _ => v = undef
  | 9, v, _ => v = undef
  | 10, v, _ => v = undef
  | 11, v, _ => v = undef
  | 12, v, _ => v = undef
  | 13, v, _ => v = undef
  | 14, v, _ => v = undef
  | 15, v, _ => v = undef
  | 16, v, _ => v = .bool true
  | 17, v, _ => v = .bool true
  | 18, v, _ => v = undef
  | 19, v, _ => v = undef
  | 20, v, _ => v = undef
  | 21, v, _ => v = undef
  | 22, v, _ => v = undef
  | 23, v, _ => v = undef
  | 24, v, _ => v = undef
  | 25, v, _ => v = .bool true
  | _, _, _ => True
theorem mRef15_B_later {s : Nat} {k t1 t2 t3 : Int} {j : Nat} {v : Value} {w w' : World} (_hb : Below w.heap.size w w') (h : mRef15_B s k t1 t2 t3 j v w) : mRef15_B s k t1 t2 t3 j v w' := by
  match j, h with
  | 0, h | 1, h | 2, h | 3, h | 4, h | 5, h | 6, h | 7, h | 8, h | 9, h | 10, h | 11, h | 12, h | 13, h | 14, h | 15, h | 16, h | 17, h | 18, h | 19, h | 20, h | 21, h | 22, h | 23, h | 24, h | 25, h => exact h
  | _ + 26, _ => exact trivial
theorem mRef15_B_keep {s : Nat} {k t1 t2 t3 : Int} {j : Nat} {v : Value} {w w' : World}  (h : mRef15_B s k t1 t2 t3 j v w) : mRef15_B s k t1 t2 t3 j v w' := by
  match j, h with
  | 0, h | 1, h | 2, h | 3, h | 4, h | 5, h | 6, h | 7, h | 8, h | 9, h | 10, h | 11, h | 12, h | 13, h | 14, h | 15, h | 16, h | 17, h | 18, h | 19, h | 20, h | 21, h | 22, h | 23, h | 24, h | 25, h => exact h
  | _ + 26, _ => exact trivial
def mRef15_C (s : Nat) (k t1 t2 t3 : Int) : Nat → Value → World → Prop
  | 0, v, _ => v = .int .i64 k
  | 1, v, _ => v = .bool false
  | 2, v, _ => v = .pointer (some ⟨s, 1, none⟩)
  | 3, v, _ => v = .agg #[.int .i64 t1, .int .i64 t2, .int .i64 t3]
  | 4, v, _ => v = .agg #[.int .i64 0, .int .i64 0, .int .i64 0]
  | 5, v, _ => v = .bool false
  | 6, v, _ => v = .bool false
  | 7, v, _ => v = .bool false
  | 8, v, _ => v = .int .i64 k
  | 9, v, _ => v = .bool false
  | 10, v, _ => v = .bool false
  | 11, v, _ => v = undef
  | 12, v, _ => v = undef
  | 13, v, _ => v = undef
  | 14, v, _ => v = undef
  | 15, v, _ => v = .bool false
  | 16, v, _ => v = .bool false
  | 17, v, _ => v = .bool false
  | 18, v, _ => v = .int .i64 k
  | 19, v, _ => v = .bool true
  | 20, v, _ => v = .bool false
  | 21, v, _ => v = .bool false
  | 22, v, _ => v = undef
  | 23, v, _ => v = undef
  | 24, v, _ => v = .bool false
  | 25, v, _ => v = .bool false
  | _, _, _ => True
theorem mRef15_C_later {s : Nat} {k t1 t2 t3 : Int} {j : Nat} {v : Value} {w w' : World} (_hb : Below w.heap.size w w') (h : mRef15_C s k t1 t2 t3 j v w) : mRef15_C s k t1 t2 t3 j v w' := by
  match j, h with
  | 0, h | 1, h | 2, h | 3, h | 4, h | 5, h | 6, h | 7, h | 8, h | 9, h | 10, h | 11, h | 12, h | 13, h | 14, h | 15, h | 16, h | 17, h | 18, h | 19, h | 20, h | 21, h | 22, h | 23, h | 24, h | 25, h => exact h
  | _ + 26, _ => exact trivial
theorem mRef15_C_keep {s : Nat} {k t1 t2 t3 : Int} {j : Nat} {v : Value} {w w' : World}  (h : mRef15_C s k t1 t2 t3 j v w) : mRef15_C s k t1 t2 t3 j v w' := by
  match j, h with
  | 0, h | 1, h | 2, h | 3, h | 4, h | 5, h | 6, h | 7, h | 8, h | 9, h | 10, h | 11, h | 12, h | 13, h | 14, h | 15, h | 16, h | 17, h | 18, h | 19, h | 20, h | 21, h | 22, h | 23, h | 24, h | 25, h => exact h
  | _ + 26, _ => exact trivial
def mRef15_D (s : Nat) (k t1 t2 t3 : Int) (yes : Bool) : Nat → Value → World → Prop
  | 0, v, _ => v = .int .i64 k
  | 1, v, _ => v = .bool false
  | 2, v, _ => v = .pointer (some ⟨s, 1, none⟩)
  | 3, v, _ => v = .agg #[.int .i64 t1, .int .i64 t2, .int .i64 t3]
  | 4, v, _ => v = .agg #[.int .i64 0, .int .i64 0, .int .i64 0]
  | 5, v, _ => v = .bool false
  | 6, v, _ => v = .bool false
  | 7, v, _ => v = .bool false
  | 8, v, _ => v = .int .i64 k
  | 9, v, _ => v = .bool false
  | 10, v, _ => v = .bool false
  | 11, v, _ => v = undef
  | 12, v, _ => v = undef
  | 13, v, _ => v = undef
  | 14, v, _ => v = undef
  | 15, v, _ => v = .bool false
  | 16, v, _ => v = .bool false
  | 17, v, _ => v = .bool false
  | 18, v, _ => v = .int .i64 k
  | 19, v, _ => v = .bool false
  | 20, v, _ => v = .bool true
  | 21, v, _ => v = .bool true
  | 22, v, _ => v = .pointer (some ⟨s, 12, none⟩)
  | 23, v, _ => v = .bool yes
  | 24, v, _ => v = .bool yes
  | 25, v, _ => v = .bool yes
  | _, _, _ => True
theorem mRef15_D_later {s : Nat} {k t1 t2 t3 : Int} {yes : Bool} {j : Nat} {v : Value} {w w' : World} (_hb : Below w.heap.size w w') (h : mRef15_D s k t1 t2 t3 yes j v w) : mRef15_D s k t1 t2 t3 yes j v w' := by
  match j, h with
  | 0, h | 1, h | 2, h | 3, h | 4, h | 5, h | 6, h | 7, h | 8, h | 9, h | 10, h | 11, h | 12, h | 13, h | 14, h | 15, h | 16, h | 17, h | 18, h | 19, h | 20, h | 21, h | 22, h | 23, h | 24, h | 25, h => exact h
  | _ + 26, _ => exact trivial
theorem mRef15_D_keep {s : Nat} {k t1 t2 t3 : Int} {yes : Bool} {j : Nat} {v : Value} {w w' : World}  (h : mRef15_D s k t1 t2 t3 yes j v w) : mRef15_D s k t1 t2 t3 yes j v w' := by
  match j, h with
  | 0, h | 1, h | 2, h | 3, h | 4, h | 5, h | 6, h | 7, h | 8, h | 9, h | 10, h | 11, h | 12, h | 13, h | 14, h | 15, h | 16, h | 17, h | 18, h | 19, h | 20, h | 21, h | 22, h | 23, h | 24, h | 25, h => exact h
  | _ + 26, _ => exact trivial
def mRef15_E (s : Nat) (k t1 t2 t3 : Int) : Nat → Value → World → Prop
  | 0, v, _ => v = .int .i64 k
  | 1, v, _ => v = .bool true
  | 2, v, _ => v = .pointer (some ⟨s, 1, none⟩)
  | 3, v, _ => v = .agg #[.int .i64 t1, .int .i64 t2, .int .i64 t3]
  | 4, v, _ => v = .agg #[.int .i64 0, .int .i64 0, .int .i64 0]
  | 5, v, _ => v = .bool true
  | 6, v, _ => v = .bool false
  | 7, v, _ => v = .bool false
  | 8, v, _ => v = .int .i64 k
  | 9, v, _ => v = .bool true
  | 10, v, _ => v = .bool true
  | 11, v, _ => v = .pointer (some ⟨s, 1, none⟩)
  | 12, v, _ => v = .agg #[.int .i64 t1, .int .i64 t2, .int .i64 t3]
  | 13, v, _ => v = .bool false
  | 14, v, _ => v = .bool true
  | 15, v, _ => v = .bool true
  | 16, v, _ => v = .bool true
  | 17, v, _ => v = .bool true
  | 18, v, _ => v = undef
  | 19, v, _ => v = undef
  | 20, v, _ => v = undef
  | 21, v, _ => v = undef
  | 22, v, _ => v = undef
  | 23, v, _ => v = undef
  | 24, v, _ => v = undef
  | 25, v, _ => v = .bool true
  | _, _, _ => True
theorem mRef15_E_later {s : Nat} {k t1 t2 t3 : Int} {j : Nat} {v : Value} {w w' : World} (_hb : Below w.heap.size w w') (h : mRef15_E s k t1 t2 t3 j v w) : mRef15_E s k t1 t2 t3 j v w' := by
  match j, h with
  | 0, h | 1, h | 2, h | 3, h | 4, h | 5, h | 6, h | 7, h | 8, h | 9, h | 10, h | 11, h | 12, h | 13, h | 14, h | 15, h | 16, h | 17, h | 18, h | 19, h | 20, h | 21, h | 22, h | 23, h | 24, h | 25, h => exact h
  | _ + 26, _ => exact trivial
theorem mRef15_E_keep {s : Nat} {k t1 t2 t3 : Int} {j : Nat} {v : Value} {w w' : World}  (h : mRef15_E s k t1 t2 t3 j v w) : mRef15_E s k t1 t2 t3 j v w' := by
  match j, h with
  | 0, h | 1, h | 2, h | 3, h | 4, h | 5, h | 6, h | 7, h | 8, h | 9, h | 10, h | 11, h | 12, h | 13, h | 14, h | 15, h | 16, h | 17, h | 18, h | 19, h | 20, h | 21, h | 22, h | 23, h | 24, h | 25, h => exact h
  | _ + 26, _ => exact trivial
def mRef15_F (s : Nat) (k t1 t2 t3 : Int) : Nat → Value → World → Prop
  | 0, v, _ => v = .int .i64 k
  | 1, v, _ => v = .bool true
  | 2, v, _ => v = .pointer (some ⟨s, 1, none⟩)
  | 3, v, _ => v = .agg #[.int .i64 t1, .int .i64 t2, .int .i64 t3]
  | 4, v, _ => v = .agg #[.int .i64 0, .int .i64 0, .int .i64 0]
  | 5, v, _ => v = .bool true
  | 6, v, _ => v = .bool false
  | 7, v, _ => v = .bool false
  | 8, v, _ => v = .int .i64 k
  | 9, v, _ => v = .bool true
  | 10, v, _ => v = .bool true
  | 11, v, _ => v = .pointer (some ⟨s, 1, none⟩)
  | 12, v, _ => v = .agg #[.int .i64 t1, .int .i64 t2, .int .i64 t3]
  | 13, v, _ => v = .bool true
  | 14, v, _ => v = .bool false
  | 15, v, _ => v = .bool false
  | 16, v, _ => v = .bool false
  | 17, v, _ => v = .bool false
  | 18, v, _ => v = .int .i64 k
  | 19, v, _ => v = .bool true
  | 20, v, _ => v = .bool false
  | 21, v, _ => v = .bool false
  | 22, v, _ => v = undef
  | 23, v, _ => v = undef
  | 24, v, _ => v = .bool false
  | 25, v, _ => v = .bool false
  | _, _, _ => True
theorem mRef15_F_later {s : Nat} {k t1 t2 t3 : Int} {j : Nat} {v : Value} {w w' : World} (_hb : Below w.heap.size w w') (h : mRef15_F s k t1 t2 t3 j v w) : mRef15_F s k t1 t2 t3 j v w' := by
  match j, h with
  | 0, h | 1, h | 2, h | 3, h | 4, h | 5, h | 6, h | 7, h | 8, h | 9, h | 10, h | 11, h | 12, h | 13, h | 14, h | 15, h | 16, h | 17, h | 18, h | 19, h | 20, h | 21, h | 22, h | 23, h | 24, h | 25, h => exact h
  | _ + 26, _ => exact trivial
theorem mRef15_F_keep {s : Nat} {k t1 t2 t3 : Int} {j : Nat} {v : Value} {w w' : World}  (h : mRef15_F s k t1 t2 t3 j v w) : mRef15_F s k t1 t2 t3 j v w' := by
  match j, h with
  | 0, h | 1, h | 2, h | 3, h | 4, h | 5, h | 6, h | 7, h | 8, h | 9, h | 10, h | 11, h | 12, h | 13, h | 14, h | 15, h | 16, h | 17, h | 18, h | 19, h | 20, h | 21, h | 22, h | 23, h | 24, h | 25, h => exact h
  | _ + 26, _ => exact trivial
def mRef15_G (s : Nat) (k t1 t2 t3 : Int) (yes : Bool) : Nat → Value → World → Prop
  | 0, v, _ => v = .int .i64 k
  | 1, v, _ => v = .bool true
  | 2, v, _ => v = .pointer (some ⟨s, 1, none⟩)
  | 3, v, _ => v = .agg #[.int .i64 t1, .int .i64 t2, .int .i64 t3]
  | 4, v, _ => v = .agg #[.int .i64 0, .int .i64 0, .int .i64 0]
  | 5, v, _ => v = .bool true
  | 6, v, _ => v = .bool false
  | 7, v, _ => v = .bool false
  | 8, v, _ => v = .int .i64 k
  | 9, v, _ => v = .bool true
  | 10, v, _ => v = .bool true
  | 11, v, _ => v = .pointer (some ⟨s, 1, none⟩)
  | 12, v, _ => v = .agg #[.int .i64 t1, .int .i64 t2, .int .i64 t3]
  | 13, v, _ => v = .bool true
  | 14, v, _ => v = .bool false
  | 15, v, _ => v = .bool false
  | 16, v, _ => v = .bool false
  | 17, v, _ => v = .bool false
  | 18, v, _ => v = .int .i64 k
  | 19, v, _ => v = .bool false
  | 20, v, _ => v = .bool true
  | 21, v, _ => v = .bool true
  | 22, v, _ => v = .pointer (some ⟨s, 12, none⟩)
  | 23, v, _ => v = .bool yes
  | 24, v, _ => v = .bool yes
  | 25, v, _ => v = .bool yes
  | _, _, _ => True
theorem mRef15_G_later {s : Nat} {k t1 t2 t3 : Int} {yes : Bool} {j : Nat} {v : Value} {w w' : World} (_hb : Below w.heap.size w w') (h : mRef15_G s k t1 t2 t3 yes j v w) : mRef15_G s k t1 t2 t3 yes j v w' := by
  match j, h with
  | 0, h | 1, h | 2, h | 3, h | 4, h | 5, h | 6, h | 7, h | 8, h | 9, h | 10, h | 11, h | 12, h | 13, h | 14, h | 15, h | 16, h | 17, h | 18, h | 19, h | 20, h | 21, h | 22, h | 23, h | 24, h | 25, h => exact h
  | _ + 26, _ => exact trivial
theorem mRef15_G_keep {s : Nat} {k t1 t2 t3 : Int} {yes : Bool} {j : Nat} {v : Value} {w w' : World}  (h : mRef15_G s k t1 t2 t3 yes j v w) : mRef15_G s k t1 t2 t3 yes j v w' := by
  match j, h with
  | 0, h | 1, h | 2, h | 3, h | 4, h | 5, h | 6, h | 7, h | 8, h | 9, h | 10, h | 11, h | 12, h | 13, h | 14, h | 15, h | 16, h | 17, h | 18, h | 19, h | 20, h | 21, h | 22, h | 23, h | 24, h | 25, h => exact h
  | _ + 26, _ => exact trivial

set_option maxHeartbeats 4000000 in
theorem refRight_any (r : Rc) (y : Lay) (w : World) (h : Has w r y) (h1 : r.items.length ≤ 1000) (h2 : r.nodes.length ≤ 1000) :
    Calls Try.prog 8 #[r.val y] w fun e w' => e = .returned (.bool (refRight r)) ∧ Below w.heap.size w w' := by
  have HH := Lib.hid (fun f (hf : f < 6) w' (hk : 1 ≤ r.kind ∧ r.kind ≤ 15) => refHas_any r.kind f w' hk hf)
  have HNM := Lib.hid (fun f (hf : f < 6) w' => number_any r y f w' hf)
  have HNA := Lib.hid (fun w' (hk : 1 ≤ r.kind ∧ r.kind ≤ 15) => refNamed_any r.kind w' hk)
  have HSA := Lib.hid (fun w' (hk : 1 ≤ r.kind ∧ r.kind ≤ 15) => refSays_any r.kind w' hk)
  have HRT := Lib.hid (fun w' => refRightTid_any r.tid w')
  have HRI := Lib.hid (fun w' (hb : Below w.heap.size w w') => refRightItems_any y.A r.items y.c w' (h.items.later hb) (by omega))
  have HRN := Lib.hid (fun w' (hb : Below w.heap.size w w') => refRightNodes_any y.B r.nodes y.d w' (h.nodes.later hb) (by omega))
  have HPS := Lib.hid (okK_succ r)
  have HPF := Lib.hid (okK_false r)
  have HP0 : Hid (okK r 0 = true) := Lib.hid rfl
  have HON : Hid (∀ m, okN r m = ((hasR r.kind m || decide (r.get m = 0)) && (decide (m = 5) || (decide (0 ≤ r.get m) && decide (r.get m ≤ (hiN[m]?).getD 0))))) := Lib.hid (fun _ => rfl)
  have HZ : Hid (refRight r = (decide (1 ≤ r.kind ∧ r.kind ≤ 15) && (okK r 6 && (!q13 (hasR r.kind 3) (r.hop == 0) (r.kind == 6) (r.node == 0) && (!q15 (named r.kind) (!t0B r.tid) (rightTid r.tid) (says r.kind) r.yes && (!q17 (r.kind == 9) (decide (0 < r.items.length)) (rightItems r.items) && q19 (r.kind == 7) (r.kind == 9) (decide (r.nodes.length = 0)) (rightNodes r.nodes))))))) := Lib.hid rfl
  clear h
  obtain ⟨Z, hz⟩ : ∃ Z, refRight r = Z := ⟨_, rfl⟩
  obtain ⟨nm, hnm⟩ : ∃ nm, named r.kind = nm := ⟨_, rfl⟩
  obtain ⟨sb, hsb⟩ : ∃ sb, says r.kind = sb := ⟨_, rfl⟩
  obtain ⟨rt, hrt⟩ : ∃ rt, rightTid r.tid = rt := ⟨_, rfl⟩
  obtain ⟨ri, hri⟩ : ∃ ri, rightItems r.items = ri := ⟨_, rfl⟩
  obtain ⟨rn, hrn⟩ : ∃ rn, rightNodes r.nodes = rn := ⟨_, rfl⟩
  obtain ⟨PK, hPK⟩ : ∃ PK, okK r = PK := ⟨_, rfl⟩
  obtain ⟨ON, hON⟩ : ∃ ON, okN r = ON := ⟨_, rfl⟩
  obtain ⟨G, hG⟩ : ∃ G, r.get = G := ⟨_, rfl⟩
  obtain ⟨HS, hHS⟩ : ∃ HS, hasR r.kind = HS := ⟨_, rfl⟩
  obtain ⟨tz, htz⟩ : ∃ tz, (!t0B r.tid) = tz := ⟨_, rfl⟩
  have htz2 : (!(decide (r.tid.node = 0) && decide (r.tid.epoch = 0) && decide (r.tid.seq = 0))) = tz := htz
  have HTZ := Lib.hid htz2
  rw [hz, hnm, hsb, hrt, hri, hrn, hPK, hHS, htz] at HZ
  rw [hz]
  rw [hnm] at HNA
  rw [hsb] at HSA
  rw [hrt] at HRT
  rw [hri] at HRI
  rw [hrn] at HRN
  rw [hPK] at HPS HPF HP0
  rw [hON] at HPS HON
  simp only [hHS] at HH
  rw [hHS, hG] at HON
  simp only [hG] at HNM
  clear hz hnm hsb hrt hri hrn hPK hON hG hHS htz htz2
  obtain ⟨k, ⟨t1, t2, t3⟩, its, nds, a0, a1, a2, a3, a4, a5, yes⟩ := r
  obtain ⟨A, c, B, d⟩ := y
  simp only at HH HNA HSA HRT HRI HRN HTZ HZ h1 h2
  obtain ⟨L, hLL⟩ : ∃ L, its.length = L := ⟨_, rfl⟩
  obtain ⟨M, hMM⟩ : ∃ M, nds.length = M := ⟨_, rfl⟩
  unfold Rc.val at HNM ⊢
  unfold Tid.val at HRT
  simp only [hLL, hMM] at HNM HRI HRN HZ h1 h2 ⊢
  clear hLL hMM
  obtain ⟨e6, qe6⟩ : ∃ e6, (k == 6) = e6 := ⟨_, rfl⟩
  rw [qe6] at HZ
  have He6 := Lib.hid qe6
  clear qe6
  obtain ⟨e7, qe7⟩ : ∃ e7, (k == 7) = e7 := ⟨_, rfl⟩
  rw [qe7] at HZ
  have He7 := Lib.hid qe7
  clear qe7
  obtain ⟨e9, qe9⟩ : ∃ e9, (k == 9) = e9 := ⟨_, rfl⟩
  rw [qe9] at HZ
  have He9 := Lib.hid qe9
  clear qe9
  obtain ⟨h0, qh0⟩ : ∃ h0, (a3 == 0) = h0 := ⟨_, rfl⟩
  rw [qh0] at HZ
  have Hh0 := Lib.hid qh0
  clear qh0
  obtain ⟨n0, qn0⟩ : ∃ n0, (a1 == 0) = n0 := ⟨_, rfl⟩
  rw [qn0] at HZ
  have Hn0 := Lib.hid qn0
  clear qn0
  obtain ⟨bL, qbL⟩ : ∃ bL, (decide (0 < L)) = bL := ⟨_, rfl⟩
  rw [qbL] at HZ
  have HbL := Lib.hid qbL
  clear qbL
  obtain ⟨m0, qm0⟩ : ∃ m0, (decide (M = 0)) = m0 := ⟨_, rfl⟩
  rw [qm0] at HZ
  have Hm0 := Lib.hid qm0
  clear qm0
  have HB := Lib.hid (below_alloc w (.cells #[.int .i64 k, .int .i64 t1, .int .i64 t2, .int .i64 t3, .slice A L c, .slice B M d, .int .i64 a0, .int .i64 a1, .int .i64 a2, .int .i64 a3, .int .i64 a4, .int .i64 a5, .bool yes] 31))
  have HC := Lib.hid (cells_new w 31 _ #[.int .i64 k, .int .i64 t1, .int .i64 t2, .int .i64 t3, .slice A L c, .slice B M d, .int .i64 a0, .int .i64 a1, .int .i64 a2, .int .i64 a3, .int .i64 a4, .int .i64 a5, .bool yes] rfl)
  by_cases hk1 : k < 1
  · have HZ2 : Hid (Z = false) := Lib.hid (by rw [HZ.out, decide_eq_false (by omega)]; rfl)
    go_enter Try.func8, Try.ntmps8
    go_wp2_with fail
    go_returns
    exact ⟨ret_bool HZ2.out, HB.out⟩
  by_cases hk2 : 15 < k
  · have HZ2 : Hid (Z = false) := Lib.hid (by rw [HZ.out, decide_eq_false (by omega)]; rfl)
    go_enter Try.func8, Try.ntmps8
    go_wp2_with fail
    go_returns
    exact ⟨ret_bool HZ2.out, HB.out⟩
  have hk : 1 ≤ k ∧ k ≤ 15 := by omega
  rw [decide_eq_true hk, Bool.true_and] at HZ
  have HH := Lib.hid (fun f hf w' => HH.out f hf w' hk)
  have HNA := Lib.hid (fun w' => HNA.out w' hk)
  have HSA := Lib.hid (fun w' => HSA.out w' hk)
  clear hk
  obtain ⟨w1, hw1⟩ : ∃ w1, w1 = w.alloc (.cells #[.int .i64 k, .int .i64 t1, .int .i64 t2, .int .i64 t3, .slice A L c, .slice B M d, .int .i64 a0, .int .i64 a1, .int .i64 a2, .int .i64 a3, .int .i64 a4, .int .i64 a5, .bool yes] 31) := ⟨_, rfl⟩
  rw [← hw1] at HB HC
  go_enter Try.func8, Try.ntmps8
  go_wp2_with fail
  rw [← hw1]
  clear hw1 hk1 hk2
  go_loopw [4, 5, 6] (fun i _ _ wr => ∃ j : Nat, j ≤ 6 ∧ i = .int .i64 ((j + 1 : Nat) : Int) ∧ Hid (PK j = true) ∧ Below w1.heap.size w1 wr) (fun i _ _ _ => 7 - (intOf i).toNat)
  case atStart => exact ⟨0, by omega, rfl, HP0, Below.refl _ _⟩
  case round =>
    obtain ⟨j, hj, rfl, hz, hbr⟩ := hrel
    have HBR := Lib.hid hbr
    have HBW := Lib.hid (HB.out.trans (hbr.mono HB.out.size))
    have HC2 := Lib.hid (HC.out.later hbr)
    clear hbr
    by_cases hlt : j < 6
    · have HS1 := Lib.hid (HPS.out j)
      have HNJ := Lib.hid (HNM.out j hlt)
      have HHJ := Lib.hid (HH.out j hlt)
      have HOJ := Lib.hid (HON.out j)
      have HAT := Lib.hid (hiN_at j)
      obtain ⟨hm, hhm⟩ : ∃ hm, HS j = hm := ⟨_, rfl⟩
      rw [hhm] at HHJ HOJ
      obtain ⟨x, hx⟩ : ∃ x, G j = x := ⟨_, rfl⟩
      rw [hx] at HNJ HOJ
      obtain ⟨hi, hhi⟩ : ∃ hi, (hiN[j]?).getD 0 = hi := ⟨_, rfl⟩
      rw [hhi] at HAT HOJ
      clear hhm hx hhi
      obtain ⟨f, hf⟩ : ∃ f, f = j + 1 := ⟨_, rfl⟩
      have HFJ := Lib.hid hf
      have hf9 : f ≤ 6 := by omega
      rw [← hf] at HHJ HNJ HAT ⊢
      clear hf
      have hcc := HC2.out
      have q0 := hcc.cell (j := 0) rfl
      have q1 := hcc.cell (j := 1) rfl
      have q2 := hcc.cell (j := 2) rfl
      have q3 := hcc.cell (j := 3) rfl
      have q4 := hcc.cell (j := 4) rfl
      have q5 := hcc.cell (j := 5) rfl
      have q6 := hcc.cell (j := 6) rfl
      have q7 := hcc.cell (j := 7) rfl
      have q8 := hcc.cell (j := 8) rfl
      have q9 := hcc.cell (j := 9) rfl
      have q10 := hcc.cell (j := 10) rfl
      have q11 := hcc.cell (j := 11) rfl
      have q12 := hcc.cell (j := 12) rfl
      clear hcc
      go_wp2_with fail
      refine (HNJ.out _).mono ?_
      rintro e w3 ⟨rfl, hb3⟩
      have HB3 := Lib.hid (HBR.out.trans (hb3.mono HBR.out.size))
      have HC3 := Lib.hid (HC2.out.later hb3)
      clear hb3 q0 q1 q2 q3 q4 q5 q6 q7 q8 q9 q10 q11 q12
      go_wp2_with fail
      refine (HHJ.out _).mono ?_
      rintro e w3 ⟨rfl, rfl⟩
      have hal := below_alloc w3 (.cells #[.int .i64 0, .int .i64 15, .int .i64 16, .int .i64 255, .int .i64 1099511627776, .int .i64 1099511627776] 3)
      have HB4 := Lib.hid (HB3.out.trans (hal.mono HB3.out.size))
      have hnc := cells_new w3 3 [.int .i64 0, .int .i64 15, .int .i64 16, .int .i64 255, .int .i64 1099511627776, .int .i64 1099511627776] #[.int .i64 0, .int .i64 15, .int .i64 16, .int .i64 255, .int .i64 1099511627776, .int .i64 1099511627776] rfl
      have HNC := Lib.hid hnc
      clear hal hnc
      have HOUT : Hid ((hm = true ∨ x = 0) → (j = 5 ∨ (0 ≤ x ∧ x ≤ hi)) → PK (j + 1) = true) := Lib.hid (by
        intro g1 g2
        rw [HS1.out, HOJ.out, hz.out]
        rcases g1 with rfl | rfl <;> rcases g2 with rfl | ⟨g3, g4⟩ <;> simp [*])
      have HBAD : Hid ((hm = false ∧ x ≠ 0) ∨ (j ≠ 5 ∧ ¬ (0 ≤ x ∧ x ≤ hi)) → Z = false) := Lib.hid (by
        intro g
        have hp : PK 6 = false := HPF.out (j + 1) (by
          rw [HS1.out, HOJ.out, hz.out]
          rcases g with ⟨rfl, g⟩ | ⟨g1, g2⟩
          · simp [g]
          · by_cases g3 : 0 ≤ x
            · simp [g1, g3]; omega
            · simp [g1, g3]) (by omega)
        rw [HZ.out, hp]; rfl)
      have HTAIL : Hid (Below w.heap.size w w3) := Lib.hid (HB.out.trans (HB3.out.mono HB.out.size))
      have HTAIL4 := Lib.hid (HB.out.trans (HB4.out.mono HB.out.size))
      clear hz
      cases hm
      · by_cases hx0 : x = 0
        · have hx0b : (x != 0) = false := by simp [hx0]
          by_cases h5 : j < 5
          · have hc5 := HNC.out.cell (j := f) (HAT.out h5)
            have hf6 : f < 6 := by have := HFJ.out; omega
            by_cases g1 : 0 ≤ x
            · by_cases g2 : x ≤ hi
              · have HN := Lib.hid (HOUT.out (.inr hx0) (.inr ⟨g1, g2⟩))
                go_wp2_with fail
                go_roundw
                case rel => exact ⟨j + 1, by omega, by rw [HFJ.out]; go_num, HN, HB4.out⟩
                case measure => simp [intOf]; omega
              · have HN := Lib.hid (HBAD.out (.inr ⟨by omega, fun h => g2 h.2⟩))
                go_wp2_with fail
                go_returns
                exact ⟨ret_bool HN.out, HTAIL4.out⟩
            · exact absurd (show (0 : Int) ≤ x by omega) g1
          · have HN := Lib.hid (HOUT.out (.inr hx0) (.inl (by omega)))
            have hf6 : ¬ f < 6 := by have := HFJ.out; omega
            go_wp2_with fail
            go_roundw
            case rel => exact ⟨j + 1, by omega, by rw [HFJ.out]; go_num, HN, HB4.out⟩
            case measure => simp [intOf]; omega
        · have hx0b : (x != 0) = true := by simp [hx0]
          have HN := Lib.hid (HBAD.out (.inl ⟨rfl, hx0⟩))
          go_wp2_with fail
          go_returns
          exact ⟨ret_bool HN.out, HTAIL.out⟩
      · by_cases h5 : j < 5
        · have hc5 := HNC.out.cell (j := f) (HAT.out h5)
          have hf6 : f < 6 := by have := HFJ.out; omega
          by_cases g1 : 0 ≤ x
          · by_cases g2 : x ≤ hi
            · have HN := Lib.hid (HOUT.out (.inl rfl) (.inr ⟨g1, g2⟩))
              go_wp2_with fail
              go_roundw
              case rel => exact ⟨j + 1, by omega, by rw [HFJ.out]; go_num, HN, HB4.out⟩
              case measure => simp [intOf]; omega
            · have HN := Lib.hid (HBAD.out (.inr ⟨by omega, fun h => g2 h.2⟩))
              go_wp2_with fail
              go_returns
              exact ⟨ret_bool HN.out, HTAIL4.out⟩
          · have HN := Lib.hid (HBAD.out (.inr ⟨by omega, fun h => g1 h.1⟩))
            go_wp2_with fail
            go_returns
            exact ⟨ret_bool HN.out, HTAIL4.out⟩
        · have HN := Lib.hid (HOUT.out (.inl rfl) (.inl (by omega)))
          have hf6 : ¬ f < 6 := by have := HFJ.out; omega
          go_wp2_with fail
          go_roundw
          case rel => exact ⟨j + 1, by omega, by rw [HFJ.out]; go_num, HN, HB4.out⟩
          case measure => simp [intOf]; omega
    · obtain rfl : j = 6 := by omega
      have hz3 := HZ.out
      rw [hz.out, Bool.true_and] at hz3
      have HZ3 := Lib.hid hz3
      have HH3 := Lib.hid (HH.out 3 (by decide))
      obtain ⟨hc4, hhc⟩ : ∃ hc4, HS 3 = hc4 := ⟨_, rfl⟩
      rw [hhc] at HH3 HZ3
      clear hz3 hz HZ HPS HPF HP0 hhc
      have hcc := HC2.out
      have q0 := hcc.cell (j := 0) rfl
      have q1 := hcc.cell (j := 1) rfl
      have q2 := hcc.cell (j := 2) rfl
      have q3 := hcc.cell (j := 3) rfl
      have q4 := hcc.cell (j := 4) rfl
      have q5 := hcc.cell (j := 5) rfl
      have q6 := hcc.cell (j := 6) rfl
      have q7 := hcc.cell (j := 7) rfl
      have q8 := hcc.cell (j := 8) rfl
      have q9 := hcc.cell (j := 9) rfl
      have q10 := hcc.cell (j := 10) rfl
      have q11 := hcc.cell (j := 11) rfl
      have q12 := hcc.cell (j := 12) rfl
      clear hcc
      go_upto_region 13 with fail
      go_cut [60] from 45 to 60 (fun x wx => x = .bool (q13 hc4 h0 e6 n0) ∧ wx = wr)
      case first =>
        go_wp2_with fail
        refine (HH3.out _).mono ?_
        rintro e w7 ⟨rfl, rfl⟩
        have y0 := Hh0.out
        have y6 := He6.out
        have yn := Hn0.out
        cases hc4
        · cases e6
          · go_wp2_with fail
            go_meet
            exact ⟨by simp [q13], rfl⟩
          · cases n0
            · go_wp2_with fail
              go_meet
              exact ⟨by simp [q13], rfl⟩
            · go_wp2_with fail
              go_meet
              exact ⟨by simp [q13], rfl⟩
        · cases h0
          · cases e6
            · go_wp2_with fail
              go_meet
              exact ⟨by simp [q13], rfl⟩
            · cases n0
              · go_wp2_with fail
                go_meet
                exact ⟨by simp [q13], rfl⟩
              · go_wp2_with fail
                go_meet
                exact ⟨by simp [q13], rfl⟩
          · go_wp2_with fail
            go_meet
            exact ⟨by simp [q13], rfl⟩
      case rest =>
        obtain ⟨rfl, hwe⟩ := hcut
        replace hwe := hwe.symm
        subst hwe
        obtain ⟨b3, hb3⟩ : ∃ b3, q13 hc4 h0 e6 n0 = b3 := ⟨_, rfl⟩
        rw [hb3] at HZ3 ⊢
        clear hb3
        cases b3
        · rw [Bool.not_false, Bool.true_and] at HZ3
          go_upto_region 15 with fail
          go_cut [86] from 61 to 86 (fun x wx => x = .bool (q15 nm tz rt sb yes) ∧ Below wr.heap.size wr wx)
          case first =>
            clear q0 q1 q2 q3 q4 q5 q6 q7 q8 q9 q10 q11 q12
            cases nm
            · cases tz
              · have HTT : Hid (t1 = 0 ∧ t2 = 0 ∧ t3 = 0) := Lib.hid (by simpa [and_assoc] using HTZ.out)
                cases sb
                · go_wp2_with fail
                  refine Reg.region_heavy (by kernel_rfl) 25 [25] (mRef15_D w.heap.size k t1 t2 t3 yes) (fun a => Below wr.heap.size wr a) (fun a => Below wr.heap.size wr a) (fun V => [(some 61, V 0), (some 62, V 1), (some 63, V 2), (some 64, V 3), (some 65, V 4), (some 66, V 5), (some 67, V 6), (some 68, V 7), (some 69, V 8), (some 70, V 9), (some 71, V 10), (some 72, V 11), (some 73, V 12), (some 74, V 13), (some 75, V 14), (some 76, V 15), (some 77, V 16), (some 78, V 17), (some 79, V 18), (some 80, V 19), (some 81, V 20), (some 82, V 21), (some 83, V 22), (some 84, V 23), (some 85, V 24), (some 86, V 25)]) (by kernel_rfl) (by kernel_rfl) (by kernel_rfl) (fun V => rfl) ?_ ?_ ?_
                  · exact (Below.refl _ _).drew
                  · intro i o ho
                    have hi : i < 26 := (Array.getElem?_eq_some_iff.1 ho).1
                    rcases i with _ | _ | _ | _ | _ | _ | _ | _ | _ | _ | _ | _ | _ | _ | _ | _ | _ | _ | _ | _ | _ | _ | _ | _ | _ | _ | i
                    · obtain rfl := Option.some.inj ho
                      intro ρ wi hE hI hs hd
                      try dsimp only at hI
                      have e3 : ρ (.tmp 3) = .int .i64 k := hs 3 (by kernel_rfl)
                      exact Reg.Gives.value (v := .int .i64 k) (w' := wi) (by go_simp) (Reg.OwedH.same hI rfl)
                    · obtain rfl := Option.some.inj ho
                      intro ρ wi hE hI hs hd
                      try dsimp only at hI
                      obtain ⟨u61, g61, e61⟩ := hd 0 61 (by kernel_rfl) (by kernel_rfl) (by show _ < 121; decide)
                      obtain rfl : u61 = .int .i64 k := g61
                      have hf := hE.func
                      refine Reg.Gives.call (f := 18) (args := #[.int .i64 k]) (w' := wi) (by go_simp) ?_
                      refine (HNA.out wi).mono ?_
                      rintro e w'' ⟨rfl, rfl⟩
                      exact ⟨_, rfl, Reg.OwedH.same hI rfl⟩
                    · obtain rfl := Option.some.inj ho
                      intro ρ wi hE hI hs hd
                      try dsimp only at hI
                      have e1 : ρ (.tmp 1) = .pointer (some ⟨w.heap.size, 0, none⟩) := hs 1 (by kernel_rfl)
                      exact Reg.Gives.value (v := .pointer (some ⟨w.heap.size, 1, none⟩)) (w' := wi) (by go_simp) (Reg.OwedH.same hI rfl)
                    · obtain rfl := Option.some.inj ho
                      intro ρ wi hE hI hs hd
                      try dsimp only at hI
                      obtain ⟨u63, g63, e63⟩ := hd 2 63 (by kernel_rfl) (by kernel_rfl) (by show _ < 121; decide)
                      obtain rfl : u63 = .pointer (some ⟨w.heap.size, 1, none⟩) := g63
                      have hq := HC2.out.later hI
                      have q1 := hq.cell (j := 1) rfl
                      have q2 := hq.cell (j := 2) rfl
                      have q3 := hq.cell (j := 3) rfl
                      exact Reg.Gives.value (v := .agg #[.int .i64 t1, .int .i64 t2, .int .i64 t3]) (w' := wi) (by go_simp) (Reg.OwedH.same hI rfl)
                    · obtain rfl := Option.some.inj ho
                      intro ρ wi hE hI hs hd
                      try dsimp only at hI
                      exact Reg.Gives.value (v := .agg #[.int .i64 0, .int .i64 0, .int .i64 0]) (w' := wi) (by go_simp) (Reg.OwedH.same hI rfl)
                    · obtain rfl := Option.some.inj ho
                      intro ρ wi hE hI hs hd
                      try dsimp only at hI
                      obtain ⟨u64, g64, e64⟩ := hd 3 64 (by kernel_rfl) (by kernel_rfl) (by show _ < 121; decide)
                      obtain rfl : u64 = .agg #[.int .i64 t1, .int .i64 t2, .int .i64 t3] := g64
                      obtain ⟨u65, g65, e65⟩ := hd 4 65 (by kernel_rfl) (by kernel_rfl) (by show _ < 121; decide)
                      obtain rfl : u65 = .agg #[.int .i64 0, .int .i64 0, .int .i64 0] := g65
                      obtain ⟨z1, z2, z3⟩ := HTT.out
                      exact Reg.Gives.value (v := .bool false) (w' := wi) (by go_simp) (Reg.OwedH.same hI rfl)
                    · obtain rfl := Option.some.inj ho
                      intro ρ wi hE hI hs hd
                      try dsimp only at hI
                      obtain ⟨u62, g62, e62⟩ := hd 1 62 (by kernel_rfl) (by kernel_rfl) (by show _ < 121; decide)
                      obtain rfl : u62 = .bool false := g62
                      obtain ⟨u66, g66, e66⟩ := hd 5 66 (by kernel_rfl) (by kernel_rfl) (by show _ < 121; decide)
                      obtain rfl : u66 = .bool false := g66
                      exact Reg.Gives.value (v := .bool false) (w' := wi) (by go_simp) (Reg.OwedH.same hI rfl)
                    · obtain rfl := Option.some.inj ho
                      intro ρ wi hE hI hs hd
                      try dsimp only at hI
                      obtain ⟨u67, g67, e67⟩ := hd 6 67 (by kernel_rfl) (by kernel_rfl) (by show _ < 121; decide)
                      obtain rfl : u67 = .bool false := g67
                      exact Reg.Gives.value (v := .bool false) (w' := wi) (by go_simp) (Reg.OwedH.same hI rfl)
                    · obtain rfl := Option.some.inj ho
                      intro ρ wi hE hI hs hd
                      try dsimp only at hI
                      have e3 : ρ (.tmp 3) = .int .i64 k := hs 3 (by kernel_rfl)
                      intro ug hgg
                      obtain rfl : ug = .bool false := hgg
                      refine ⟨fun _ => ?_, fun h => absurd rfl h⟩
                      exact Reg.Gives.value (v := .int .i64 k) (w' := wi) (by go_simp) (Reg.OwedH.same hI rfl)
                    · obtain rfl := Option.some.inj ho
                      intro ρ wi hE hI hs hd
                      try dsimp only at hI
                      obtain ⟨u69, g69, e69⟩ := hd 8 69 (by kernel_rfl) (by kernel_rfl) (by show _ < 121; decide)
                      obtain rfl : u69 = .int .i64 k := g69
                      have hf := hE.func
                      intro ug hgg
                      obtain rfl : ug = .bool false := hgg
                      refine ⟨fun _ => ?_, fun h => absurd rfl h⟩
                      refine Reg.Gives.call (f := 18) (args := #[.int .i64 k]) (w' := wi) (by go_simp) ?_
                      refine (HNA.out wi).mono ?_
                      rintro e w'' ⟨rfl, rfl⟩
                      exact ⟨_, rfl, Reg.OwedH.same hI rfl⟩
                    · obtain rfl := Option.some.inj ho
                      intro ρ wi hE hI hs hd
                      try dsimp only at hI
                      obtain ⟨u70, g70, e70⟩ := hd 9 70 (by kernel_rfl) (by kernel_rfl) (by show _ < 121; decide)
                      obtain rfl : u70 = .bool false := g70
                      intro ug hgg
                      obtain rfl : ug = .bool false := hgg
                      refine ⟨fun _ => ?_, fun h => absurd rfl h⟩
                      exact Reg.Gives.value (v := .bool false) (w' := wi) (by go_simp) (Reg.OwedH.same hI rfl)
                    · obtain rfl := Option.some.inj ho
                      intro ρ wi hE hI hs hd
                      try dsimp only at hI
                      have e1 : ρ (.tmp 1) = .pointer (some ⟨w.heap.size, 0, none⟩) := hs 1 (by kernel_rfl)
                      intro ug hgg
                      obtain rfl : ug = .bool false := hgg
                      exact ⟨fun h => (by cases h), fun _ => ⟨rfl, hI⟩⟩
                    · obtain rfl := Option.some.inj ho
                      intro ρ wi hE hI hs hd
                      try dsimp only at hI
                      obtain ⟨u72, g72, e72⟩ := hd 11 72 (by kernel_rfl) (by kernel_rfl) (by show _ < 121; decide)
                      obtain rfl : u72 = undef := g72
                      intro ug hgg
                      obtain rfl : ug = .bool false := hgg
                      exact ⟨fun h => (by cases h), fun _ => ⟨rfl, hI⟩⟩
                    · obtain rfl := Option.some.inj ho
                      intro ρ wi hE hI hs hd
                      try dsimp only at hI
                      obtain ⟨u73, g73, e73⟩ := hd 12 73 (by kernel_rfl) (by kernel_rfl) (by show _ < 121; decide)
                      obtain rfl : u73 = undef := g73
                      have hf := hE.func
                      intro ug hgg
                      obtain rfl : ug = .bool false := hgg
                      exact ⟨fun h => (by cases h), fun _ => ⟨rfl, hI⟩⟩
                    · obtain rfl := Option.some.inj ho
                      intro ρ wi hE hI hs hd
                      try dsimp only at hI
                      obtain ⟨u74, g74, e74⟩ := hd 13 74 (by kernel_rfl) (by kernel_rfl) (by show _ < 121; decide)
                      obtain rfl : u74 = undef := g74
                      intro ug hgg
                      obtain rfl : ug = .bool false := hgg
                      exact ⟨fun h => (by cases h), fun _ => ⟨rfl, hI⟩⟩
                    · obtain rfl := Option.some.inj ho
                      intro ρ wi hE hI hs hd
                      try dsimp only at hI
                      obtain ⟨u71, g71, e71⟩ := hd 10 71 (by kernel_rfl) (by kernel_rfl) (by show _ < 121; decide)
                      obtain rfl : u71 = .bool false := g71
                      obtain ⟨u75, g75, e75⟩ := hd 14 75 (by kernel_rfl) (by kernel_rfl) (by show _ < 121; decide)
                      obtain rfl : u75 = undef := g75
                      have hc := hE.const
                      intro ug hgg
                      obtain rfl : ug = .bool false := hgg
                      refine ⟨fun _ => ?_, fun h => absurd rfl h⟩
                      exact Reg.Gives.value (v := .bool false) (w' := wi) (by go_simp) (Reg.OwedH.same hI rfl)
                    · obtain rfl := Option.some.inj ho
                      intro ρ wi hE hI hs hd
                      try dsimp only at hI
                      obtain ⟨u68, g68, e68⟩ := hd 7 68 (by kernel_rfl) (by kernel_rfl) (by show _ < 121; decide)
                      obtain rfl : u68 = .bool false := g68
                      obtain ⟨u76, g76, e76⟩ := hd 15 76 (by kernel_rfl) (by kernel_rfl) (by show _ < 121; decide)
                      obtain rfl : u76 = .bool false := g76
                      have hc := hE.const
                      exact Reg.Gives.value (v := .bool false) (w' := wi) (by go_simp) (Reg.OwedH.same hI rfl)
                    · obtain rfl := Option.some.inj ho
                      intro ρ wi hE hI hs hd
                      try dsimp only at hI
                      obtain ⟨u77, g77, e77⟩ := hd 16 77 (by kernel_rfl) (by kernel_rfl) (by show _ < 121; decide)
                      obtain rfl : u77 = .bool false := g77
                      exact Reg.Gives.value (v := .bool false) (w' := wi) (by go_simp) (Reg.OwedH.same hI rfl)
                    · obtain rfl := Option.some.inj ho
                      intro ρ wi hE hI hs hd
                      try dsimp only at hI
                      have e3 : ρ (.tmp 3) = .int .i64 k := hs 3 (by kernel_rfl)
                      intro ug hgg
                      obtain rfl : ug = .bool false := hgg
                      refine ⟨fun _ => ?_, fun h => absurd rfl h⟩
                      exact Reg.Gives.value (v := .int .i64 k) (w' := wi) (by go_simp) (Reg.OwedH.same hI rfl)
                    · obtain rfl := Option.some.inj ho
                      intro ρ wi hE hI hs hd
                      try dsimp only at hI
                      obtain ⟨u79, g79, e79⟩ := hd 18 79 (by kernel_rfl) (by kernel_rfl) (by show _ < 121; decide)
                      obtain rfl : u79 = .int .i64 k := g79
                      have hf := hE.func
                      intro ug hgg
                      obtain rfl : ug = .bool false := hgg
                      refine ⟨fun _ => ?_, fun h => absurd rfl h⟩
                      refine Reg.Gives.call (f := 20) (args := #[.int .i64 k]) (w' := wi) (by go_simp) ?_
                      refine (HSA.out wi).mono ?_
                      rintro e w'' ⟨rfl, rfl⟩
                      exact ⟨_, rfl, Reg.OwedH.same hI rfl⟩
                    · obtain rfl := Option.some.inj ho
                      intro ρ wi hE hI hs hd
                      try dsimp only at hI
                      obtain ⟨u80, g80, e80⟩ := hd 19 80 (by kernel_rfl) (by kernel_rfl) (by show _ < 121; decide)
                      obtain rfl : u80 = .bool false := g80
                      intro ug hgg
                      obtain rfl : ug = .bool false := hgg
                      refine ⟨fun _ => ?_, fun h => absurd rfl h⟩
                      exact Reg.Gives.value (v := .bool true) (w' := wi) (by go_simp) (Reg.OwedH.same hI rfl)
                    · obtain rfl := Option.some.inj ho
                      intro ρ wi hE hI hs hd
                      try dsimp only at hI
                      obtain ⟨u81, g81, e81⟩ := hd 20 81 (by kernel_rfl) (by kernel_rfl) (by show _ < 121; decide)
                      obtain rfl : u81 = .bool true := g81
                      intro ug hgg
                      obtain rfl : ug = .bool false := hgg
                      refine ⟨fun _ => ?_, fun h => absurd rfl h⟩
                      exact Reg.Gives.value (v := .bool true) (w' := wi) (by go_simp) (Reg.OwedH.same hI rfl)
                    · obtain rfl := Option.some.inj ho
                      intro ρ wi hE hI hs hd
                      try dsimp only at hI
                      have e1 : ρ (.tmp 1) = .pointer (some ⟨w.heap.size, 0, none⟩) := hs 1 (by kernel_rfl)
                      intro ug hgg
                      obtain rfl : ug = .bool true := hgg
                      refine ⟨fun _ => ?_, fun h => absurd rfl h⟩
                      exact Reg.Gives.value (v := .pointer (some ⟨w.heap.size, 12, none⟩)) (w' := wi) (by go_simp) (Reg.OwedH.same hI rfl)
                    · obtain rfl := Option.some.inj ho
                      intro ρ wi hE hI hs hd
                      try dsimp only at hI
                      obtain ⟨u83, g83, e83⟩ := hd 22 83 (by kernel_rfl) (by kernel_rfl) (by show _ < 121; decide)
                      obtain rfl : u83 = .pointer (some ⟨w.heap.size, 12, none⟩) := g83
                      intro ug hgg
                      obtain rfl : ug = .bool true := hgg
                      refine ⟨fun _ => ?_, fun h => absurd rfl h⟩
                      have hq := HC2.out.later hI
                      have q12 := hq.cell (j := 12) rfl
                      exact Reg.Gives.value (v := .bool yes) (w' := wi) (by go_simp) (Reg.OwedH.same hI rfl)
                    · obtain rfl := Option.some.inj ho
                      intro ρ wi hE hI hs hd
                      try dsimp only at hI
                      obtain ⟨u82, g82, e82⟩ := hd 21 82 (by kernel_rfl) (by kernel_rfl) (by show _ < 121; decide)
                      obtain rfl : u82 = .bool true := g82
                      obtain ⟨u84, g84, e84⟩ := hd 23 84 (by kernel_rfl) (by kernel_rfl) (by show _ < 121; decide)
                      obtain rfl : u84 = .bool yes := g84
                      have hc := hE.const
                      intro ug hgg
                      obtain rfl : ug = .bool false := hgg
                      refine ⟨fun _ => ?_, fun h => absurd rfl h⟩
                      exact Reg.Gives.value (v := .bool yes) (w' := wi) (by go_simp) (Reg.OwedH.same hI rfl)
                    · obtain rfl := Option.some.inj ho
                      intro ρ wi hE hI hs hd
                      try dsimp only at hI
                      obtain ⟨u78, g78, e78⟩ := hd 17 78 (by kernel_rfl) (by kernel_rfl) (by show _ < 121; decide)
                      obtain rfl : u78 = .bool false := g78
                      obtain ⟨u85, g85, e85⟩ := hd 24 85 (by kernel_rfl) (by kernel_rfl) (by show _ < 121; decide)
                      obtain rfl : u85 = .bool yes := g85
                      have hc := hE.const
                      exact Reg.Gives.value (v := .bool yes) (w' := wi) (by go_simp) (Reg.OwedH.same hI rfl)
                    · omega
                  · intro V wz hV hI
                    have hV25 : V 25 = .bool yes := hV 25 (by decide) rfl
                    simp only [Reg.putsO, List.foldl_cons, List.foldl_nil, Act.put, List.setIfInBounds_toArray, List.set_cons_succ, List.set_cons_zero, hV25]
                    replace hI : (fun a => Below wr.heap.size wr a) wz := hI
                    clear hV hV25
                    have HW := Lib.hid hI
                    clear hI
                    go_wp2_with fail
                    go_meet
                    exact ⟨by simp [q15], HW.out⟩
                · go_wp2_with fail
                  refine Reg.region_heavy (by kernel_rfl) 25 [25] (mRef15_C w.heap.size k t1 t2 t3) (fun a => Below wr.heap.size wr a) (fun a => Below wr.heap.size wr a) (fun V => [(some 61, V 0), (some 62, V 1), (some 63, V 2), (some 64, V 3), (some 65, V 4), (some 66, V 5), (some 67, V 6), (some 68, V 7), (some 69, V 8), (some 70, V 9), (some 71, V 10), (some 72, V 11), (some 73, V 12), (some 74, V 13), (some 75, V 14), (some 76, V 15), (some 77, V 16), (some 78, V 17), (some 79, V 18), (some 80, V 19), (some 81, V 20), (some 82, V 21), (some 83, V 22), (some 84, V 23), (some 85, V 24), (some 86, V 25)]) (by kernel_rfl) (by kernel_rfl) (by kernel_rfl) (fun V => rfl) ?_ ?_ ?_
                  · exact (Below.refl _ _).drew
                  · intro i o ho
                    have hi : i < 26 := (Array.getElem?_eq_some_iff.1 ho).1
                    rcases i with _ | _ | _ | _ | _ | _ | _ | _ | _ | _ | _ | _ | _ | _ | _ | _ | _ | _ | _ | _ | _ | _ | _ | _ | _ | _ | i
                    · obtain rfl := Option.some.inj ho
                      intro ρ wi hE hI hs hd
                      try dsimp only at hI
                      have e3 : ρ (.tmp 3) = .int .i64 k := hs 3 (by kernel_rfl)
                      exact Reg.Gives.value (v := .int .i64 k) (w' := wi) (by go_simp) (Reg.OwedH.same hI rfl)
                    · obtain rfl := Option.some.inj ho
                      intro ρ wi hE hI hs hd
                      try dsimp only at hI
                      obtain ⟨u61, g61, e61⟩ := hd 0 61 (by kernel_rfl) (by kernel_rfl) (by show _ < 121; decide)
                      obtain rfl : u61 = .int .i64 k := g61
                      have hf := hE.func
                      refine Reg.Gives.call (f := 18) (args := #[.int .i64 k]) (w' := wi) (by go_simp) ?_
                      refine (HNA.out wi).mono ?_
                      rintro e w'' ⟨rfl, rfl⟩
                      exact ⟨_, rfl, Reg.OwedH.same hI rfl⟩
                    · obtain rfl := Option.some.inj ho
                      intro ρ wi hE hI hs hd
                      try dsimp only at hI
                      have e1 : ρ (.tmp 1) = .pointer (some ⟨w.heap.size, 0, none⟩) := hs 1 (by kernel_rfl)
                      exact Reg.Gives.value (v := .pointer (some ⟨w.heap.size, 1, none⟩)) (w' := wi) (by go_simp) (Reg.OwedH.same hI rfl)
                    · obtain rfl := Option.some.inj ho
                      intro ρ wi hE hI hs hd
                      try dsimp only at hI
                      obtain ⟨u63, g63, e63⟩ := hd 2 63 (by kernel_rfl) (by kernel_rfl) (by show _ < 121; decide)
                      obtain rfl : u63 = .pointer (some ⟨w.heap.size, 1, none⟩) := g63
                      have hq := HC2.out.later hI
                      have q1 := hq.cell (j := 1) rfl
                      have q2 := hq.cell (j := 2) rfl
                      have q3 := hq.cell (j := 3) rfl
                      exact Reg.Gives.value (v := .agg #[.int .i64 t1, .int .i64 t2, .int .i64 t3]) (w' := wi) (by go_simp) (Reg.OwedH.same hI rfl)
                    · obtain rfl := Option.some.inj ho
                      intro ρ wi hE hI hs hd
                      try dsimp only at hI
                      exact Reg.Gives.value (v := .agg #[.int .i64 0, .int .i64 0, .int .i64 0]) (w' := wi) (by go_simp) (Reg.OwedH.same hI rfl)
                    · obtain rfl := Option.some.inj ho
                      intro ρ wi hE hI hs hd
                      try dsimp only at hI
                      obtain ⟨u64, g64, e64⟩ := hd 3 64 (by kernel_rfl) (by kernel_rfl) (by show _ < 121; decide)
                      obtain rfl : u64 = .agg #[.int .i64 t1, .int .i64 t2, .int .i64 t3] := g64
                      obtain ⟨u65, g65, e65⟩ := hd 4 65 (by kernel_rfl) (by kernel_rfl) (by show _ < 121; decide)
                      obtain rfl : u65 = .agg #[.int .i64 0, .int .i64 0, .int .i64 0] := g65
                      obtain ⟨z1, z2, z3⟩ := HTT.out
                      exact Reg.Gives.value (v := .bool false) (w' := wi) (by go_simp) (Reg.OwedH.same hI rfl)
                    · obtain rfl := Option.some.inj ho
                      intro ρ wi hE hI hs hd
                      try dsimp only at hI
                      obtain ⟨u62, g62, e62⟩ := hd 1 62 (by kernel_rfl) (by kernel_rfl) (by show _ < 121; decide)
                      obtain rfl : u62 = .bool false := g62
                      obtain ⟨u66, g66, e66⟩ := hd 5 66 (by kernel_rfl) (by kernel_rfl) (by show _ < 121; decide)
                      obtain rfl : u66 = .bool false := g66
                      exact Reg.Gives.value (v := .bool false) (w' := wi) (by go_simp) (Reg.OwedH.same hI rfl)
                    · obtain rfl := Option.some.inj ho
                      intro ρ wi hE hI hs hd
                      try dsimp only at hI
                      obtain ⟨u67, g67, e67⟩ := hd 6 67 (by kernel_rfl) (by kernel_rfl) (by show _ < 121; decide)
                      obtain rfl : u67 = .bool false := g67
                      exact Reg.Gives.value (v := .bool false) (w' := wi) (by go_simp) (Reg.OwedH.same hI rfl)
                    · obtain rfl := Option.some.inj ho
                      intro ρ wi hE hI hs hd
                      try dsimp only at hI
                      have e3 : ρ (.tmp 3) = .int .i64 k := hs 3 (by kernel_rfl)
                      intro ug hgg
                      obtain rfl : ug = .bool false := hgg
                      refine ⟨fun _ => ?_, fun h => absurd rfl h⟩
                      exact Reg.Gives.value (v := .int .i64 k) (w' := wi) (by go_simp) (Reg.OwedH.same hI rfl)
                    · obtain rfl := Option.some.inj ho
                      intro ρ wi hE hI hs hd
                      try dsimp only at hI
                      obtain ⟨u69, g69, e69⟩ := hd 8 69 (by kernel_rfl) (by kernel_rfl) (by show _ < 121; decide)
                      obtain rfl : u69 = .int .i64 k := g69
                      have hf := hE.func
                      intro ug hgg
                      obtain rfl : ug = .bool false := hgg
                      refine ⟨fun _ => ?_, fun h => absurd rfl h⟩
                      refine Reg.Gives.call (f := 18) (args := #[.int .i64 k]) (w' := wi) (by go_simp) ?_
                      refine (HNA.out wi).mono ?_
                      rintro e w'' ⟨rfl, rfl⟩
                      exact ⟨_, rfl, Reg.OwedH.same hI rfl⟩
                    · obtain rfl := Option.some.inj ho
                      intro ρ wi hE hI hs hd
                      try dsimp only at hI
                      obtain ⟨u70, g70, e70⟩ := hd 9 70 (by kernel_rfl) (by kernel_rfl) (by show _ < 121; decide)
                      obtain rfl : u70 = .bool false := g70
                      intro ug hgg
                      obtain rfl : ug = .bool false := hgg
                      refine ⟨fun _ => ?_, fun h => absurd rfl h⟩
                      exact Reg.Gives.value (v := .bool false) (w' := wi) (by go_simp) (Reg.OwedH.same hI rfl)
                    · obtain rfl := Option.some.inj ho
                      intro ρ wi hE hI hs hd
                      try dsimp only at hI
                      have e1 : ρ (.tmp 1) = .pointer (some ⟨w.heap.size, 0, none⟩) := hs 1 (by kernel_rfl)
                      intro ug hgg
                      obtain rfl : ug = .bool false := hgg
                      exact ⟨fun h => (by cases h), fun _ => ⟨rfl, hI⟩⟩
                    · obtain rfl := Option.some.inj ho
                      intro ρ wi hE hI hs hd
                      try dsimp only at hI
                      obtain ⟨u72, g72, e72⟩ := hd 11 72 (by kernel_rfl) (by kernel_rfl) (by show _ < 121; decide)
                      obtain rfl : u72 = undef := g72
                      intro ug hgg
                      obtain rfl : ug = .bool false := hgg
                      exact ⟨fun h => (by cases h), fun _ => ⟨rfl, hI⟩⟩
                    · obtain rfl := Option.some.inj ho
                      intro ρ wi hE hI hs hd
                      try dsimp only at hI
                      obtain ⟨u73, g73, e73⟩ := hd 12 73 (by kernel_rfl) (by kernel_rfl) (by show _ < 121; decide)
                      obtain rfl : u73 = undef := g73
                      have hf := hE.func
                      intro ug hgg
                      obtain rfl : ug = .bool false := hgg
                      exact ⟨fun h => (by cases h), fun _ => ⟨rfl, hI⟩⟩
                    · obtain rfl := Option.some.inj ho
                      intro ρ wi hE hI hs hd
                      try dsimp only at hI
                      obtain ⟨u74, g74, e74⟩ := hd 13 74 (by kernel_rfl) (by kernel_rfl) (by show _ < 121; decide)
                      obtain rfl : u74 = undef := g74
                      intro ug hgg
                      obtain rfl : ug = .bool false := hgg
                      exact ⟨fun h => (by cases h), fun _ => ⟨rfl, hI⟩⟩
                    · obtain rfl := Option.some.inj ho
                      intro ρ wi hE hI hs hd
                      try dsimp only at hI
                      obtain ⟨u71, g71, e71⟩ := hd 10 71 (by kernel_rfl) (by kernel_rfl) (by show _ < 121; decide)
                      obtain rfl : u71 = .bool false := g71
                      obtain ⟨u75, g75, e75⟩ := hd 14 75 (by kernel_rfl) (by kernel_rfl) (by show _ < 121; decide)
                      obtain rfl : u75 = undef := g75
                      have hc := hE.const
                      intro ug hgg
                      obtain rfl : ug = .bool false := hgg
                      refine ⟨fun _ => ?_, fun h => absurd rfl h⟩
                      exact Reg.Gives.value (v := .bool false) (w' := wi) (by go_simp) (Reg.OwedH.same hI rfl)
                    · obtain rfl := Option.some.inj ho
                      intro ρ wi hE hI hs hd
                      try dsimp only at hI
                      obtain ⟨u68, g68, e68⟩ := hd 7 68 (by kernel_rfl) (by kernel_rfl) (by show _ < 121; decide)
                      obtain rfl : u68 = .bool false := g68
                      obtain ⟨u76, g76, e76⟩ := hd 15 76 (by kernel_rfl) (by kernel_rfl) (by show _ < 121; decide)
                      obtain rfl : u76 = .bool false := g76
                      have hc := hE.const
                      exact Reg.Gives.value (v := .bool false) (w' := wi) (by go_simp) (Reg.OwedH.same hI rfl)
                    · obtain rfl := Option.some.inj ho
                      intro ρ wi hE hI hs hd
                      try dsimp only at hI
                      obtain ⟨u77, g77, e77⟩ := hd 16 77 (by kernel_rfl) (by kernel_rfl) (by show _ < 121; decide)
                      obtain rfl : u77 = .bool false := g77
                      exact Reg.Gives.value (v := .bool false) (w' := wi) (by go_simp) (Reg.OwedH.same hI rfl)
                    · obtain rfl := Option.some.inj ho
                      intro ρ wi hE hI hs hd
                      try dsimp only at hI
                      have e3 : ρ (.tmp 3) = .int .i64 k := hs 3 (by kernel_rfl)
                      intro ug hgg
                      obtain rfl : ug = .bool false := hgg
                      refine ⟨fun _ => ?_, fun h => absurd rfl h⟩
                      exact Reg.Gives.value (v := .int .i64 k) (w' := wi) (by go_simp) (Reg.OwedH.same hI rfl)
                    · obtain rfl := Option.some.inj ho
                      intro ρ wi hE hI hs hd
                      try dsimp only at hI
                      obtain ⟨u79, g79, e79⟩ := hd 18 79 (by kernel_rfl) (by kernel_rfl) (by show _ < 121; decide)
                      obtain rfl : u79 = .int .i64 k := g79
                      have hf := hE.func
                      intro ug hgg
                      obtain rfl : ug = .bool false := hgg
                      refine ⟨fun _ => ?_, fun h => absurd rfl h⟩
                      refine Reg.Gives.call (f := 20) (args := #[.int .i64 k]) (w' := wi) (by go_simp) ?_
                      refine (HSA.out wi).mono ?_
                      rintro e w'' ⟨rfl, rfl⟩
                      exact ⟨_, rfl, Reg.OwedH.same hI rfl⟩
                    · obtain rfl := Option.some.inj ho
                      intro ρ wi hE hI hs hd
                      try dsimp only at hI
                      obtain ⟨u80, g80, e80⟩ := hd 19 80 (by kernel_rfl) (by kernel_rfl) (by show _ < 121; decide)
                      obtain rfl : u80 = .bool true := g80
                      intro ug hgg
                      obtain rfl : ug = .bool false := hgg
                      refine ⟨fun _ => ?_, fun h => absurd rfl h⟩
                      exact Reg.Gives.value (v := .bool false) (w' := wi) (by go_simp) (Reg.OwedH.same hI rfl)
                    · obtain rfl := Option.some.inj ho
                      intro ρ wi hE hI hs hd
                      try dsimp only at hI
                      obtain ⟨u81, g81, e81⟩ := hd 20 81 (by kernel_rfl) (by kernel_rfl) (by show _ < 121; decide)
                      obtain rfl : u81 = .bool false := g81
                      intro ug hgg
                      obtain rfl : ug = .bool false := hgg
                      refine ⟨fun _ => ?_, fun h => absurd rfl h⟩
                      exact Reg.Gives.value (v := .bool false) (w' := wi) (by go_simp) (Reg.OwedH.same hI rfl)
                    · obtain rfl := Option.some.inj ho
                      intro ρ wi hE hI hs hd
                      try dsimp only at hI
                      have e1 : ρ (.tmp 1) = .pointer (some ⟨w.heap.size, 0, none⟩) := hs 1 (by kernel_rfl)
                      intro ug hgg
                      obtain rfl : ug = .bool false := hgg
                      exact ⟨fun h => (by cases h), fun _ => ⟨rfl, hI⟩⟩
                    · obtain rfl := Option.some.inj ho
                      intro ρ wi hE hI hs hd
                      try dsimp only at hI
                      obtain ⟨u83, g83, e83⟩ := hd 22 83 (by kernel_rfl) (by kernel_rfl) (by show _ < 121; decide)
                      obtain rfl : u83 = undef := g83
                      intro ug hgg
                      obtain rfl : ug = .bool false := hgg
                      exact ⟨fun h => (by cases h), fun _ => ⟨rfl, hI⟩⟩
                    · obtain rfl := Option.some.inj ho
                      intro ρ wi hE hI hs hd
                      try dsimp only at hI
                      obtain ⟨u82, g82, e82⟩ := hd 21 82 (by kernel_rfl) (by kernel_rfl) (by show _ < 121; decide)
                      obtain rfl : u82 = .bool false := g82
                      obtain ⟨u84, g84, e84⟩ := hd 23 84 (by kernel_rfl) (by kernel_rfl) (by show _ < 121; decide)
                      obtain rfl : u84 = undef := g84
                      have hc := hE.const
                      intro ug hgg
                      obtain rfl : ug = .bool false := hgg
                      refine ⟨fun _ => ?_, fun h => absurd rfl h⟩
                      exact Reg.Gives.value (v := .bool false) (w' := wi) (by go_simp) (Reg.OwedH.same hI rfl)
                    · obtain rfl := Option.some.inj ho
                      intro ρ wi hE hI hs hd
                      try dsimp only at hI
                      obtain ⟨u78, g78, e78⟩ := hd 17 78 (by kernel_rfl) (by kernel_rfl) (by show _ < 121; decide)
                      obtain rfl : u78 = .bool false := g78
                      obtain ⟨u85, g85, e85⟩ := hd 24 85 (by kernel_rfl) (by kernel_rfl) (by show _ < 121; decide)
                      obtain rfl : u85 = .bool false := g85
                      have hc := hE.const
                      exact Reg.Gives.value (v := .bool false) (w' := wi) (by go_simp) (Reg.OwedH.same hI rfl)
                    · omega
                  · intro V wz hV hI
                    have hV25 : V 25 = .bool false := hV 25 (by decide) rfl
                    simp only [Reg.putsO, List.foldl_cons, List.foldl_nil, Act.put, List.setIfInBounds_toArray, List.set_cons_succ, List.set_cons_zero, hV25]
                    replace hI : (fun a => Below wr.heap.size wr a) wz := hI
                    clear hV hV25
                    have HW := Lib.hid hI
                    clear hI
                    go_wp2_with fail
                    go_meet
                    exact ⟨by simp [q15], HW.out⟩
              · have HTT : Hid (t1 = 0 → t2 = 0 → ¬t3 = 0) := Lib.hid (by have h := HTZ.out; simp at h; omega)
                go_wp2_with fail
                refine Reg.region_heavy (by kernel_rfl) 25 [25] (mRef15_B w.heap.size k t1 t2 t3) (fun a => Below wr.heap.size wr a) (fun a => Below wr.heap.size wr a) (fun V => [(some 61, V 0), (some 62, V 1), (some 63, V 2), (some 64, V 3), (some 65, V 4), (some 66, V 5), (some 67, V 6), (some 68, V 7), (some 69, V 8), (some 70, V 9), (some 71, V 10), (some 72, V 11), (some 73, V 12), (some 74, V 13), (some 75, V 14), (some 76, V 15), (some 77, V 16), (some 78, V 17), (some 79, V 18), (some 80, V 19), (some 81, V 20), (some 82, V 21), (some 83, V 22), (some 84, V 23), (some 85, V 24), (some 86, V 25)]) (by kernel_rfl) (by kernel_rfl) (by kernel_rfl) (fun V => rfl) ?_ ?_ ?_
                · exact (Below.refl _ _).drew
                · intro i o ho
                  have hi : i < 26 := (Array.getElem?_eq_some_iff.1 ho).1
                  rcases i with _ | _ | _ | _ | _ | _ | _ | _ | _ | _ | _ | _ | _ | _ | _ | _ | _ | _ | _ | _ | _ | _ | _ | _ | _ | _ | i
                  · obtain rfl := Option.some.inj ho
                    intro ρ wi hE hI hs hd
                    try dsimp only at hI
                    have e3 : ρ (.tmp 3) = .int .i64 k := hs 3 (by kernel_rfl)
                    exact Reg.Gives.value (v := .int .i64 k) (w' := wi) (by go_simp) (Reg.OwedH.same hI rfl)
                  · obtain rfl := Option.some.inj ho
                    intro ρ wi hE hI hs hd
                    try dsimp only at hI
                    obtain ⟨u61, g61, e61⟩ := hd 0 61 (by kernel_rfl) (by kernel_rfl) (by show _ < 121; decide)
                    obtain rfl : u61 = .int .i64 k := g61
                    have hf := hE.func
                    refine Reg.Gives.call (f := 18) (args := #[.int .i64 k]) (w' := wi) (by go_simp) ?_
                    refine (HNA.out wi).mono ?_
                    rintro e w'' ⟨rfl, rfl⟩
                    exact ⟨_, rfl, Reg.OwedH.same hI rfl⟩
                  · obtain rfl := Option.some.inj ho
                    intro ρ wi hE hI hs hd
                    try dsimp only at hI
                    have e1 : ρ (.tmp 1) = .pointer (some ⟨w.heap.size, 0, none⟩) := hs 1 (by kernel_rfl)
                    exact Reg.Gives.value (v := .pointer (some ⟨w.heap.size, 1, none⟩)) (w' := wi) (by go_simp) (Reg.OwedH.same hI rfl)
                  · obtain rfl := Option.some.inj ho
                    intro ρ wi hE hI hs hd
                    try dsimp only at hI
                    obtain ⟨u63, g63, e63⟩ := hd 2 63 (by kernel_rfl) (by kernel_rfl) (by show _ < 121; decide)
                    obtain rfl : u63 = .pointer (some ⟨w.heap.size, 1, none⟩) := g63
                    have hq := HC2.out.later hI
                    have q1 := hq.cell (j := 1) rfl
                    have q2 := hq.cell (j := 2) rfl
                    have q3 := hq.cell (j := 3) rfl
                    exact Reg.Gives.value (v := .agg #[.int .i64 t1, .int .i64 t2, .int .i64 t3]) (w' := wi) (by go_simp) (Reg.OwedH.same hI rfl)
                  · obtain rfl := Option.some.inj ho
                    intro ρ wi hE hI hs hd
                    try dsimp only at hI
                    exact Reg.Gives.value (v := .agg #[.int .i64 0, .int .i64 0, .int .i64 0]) (w' := wi) (by go_simp) (Reg.OwedH.same hI rfl)
                  · obtain rfl := Option.some.inj ho
                    intro ρ wi hE hI hs hd
                    try dsimp only at hI
                    obtain ⟨u64, g64, e64⟩ := hd 3 64 (by kernel_rfl) (by kernel_rfl) (by show _ < 121; decide)
                    obtain rfl : u64 = .agg #[.int .i64 t1, .int .i64 t2, .int .i64 t3] := g64
                    obtain ⟨u65, g65, e65⟩ := hd 4 65 (by kernel_rfl) (by kernel_rfl) (by show _ < 121; decide)
                    obtain rfl : u65 = .agg #[.int .i64 0, .int .i64 0, .int .i64 0] := g65
                    exact Reg.Gives.value (v := .bool true) (w' := wi) (by go_simp; exact HTT.out) (Reg.OwedH.same hI rfl)
                  · obtain rfl := Option.some.inj ho
                    intro ρ wi hE hI hs hd
                    try dsimp only at hI
                    obtain ⟨u62, g62, e62⟩ := hd 1 62 (by kernel_rfl) (by kernel_rfl) (by show _ < 121; decide)
                    obtain rfl : u62 = .bool false := g62
                    obtain ⟨u66, g66, e66⟩ := hd 5 66 (by kernel_rfl) (by kernel_rfl) (by show _ < 121; decide)
                    obtain rfl : u66 = .bool true := g66
                    exact Reg.Gives.value (v := .bool true) (w' := wi) (by go_simp) (Reg.OwedH.same hI rfl)
                  · obtain rfl := Option.some.inj ho
                    intro ρ wi hE hI hs hd
                    try dsimp only at hI
                    obtain ⟨u67, g67, e67⟩ := hd 6 67 (by kernel_rfl) (by kernel_rfl) (by show _ < 121; decide)
                    obtain rfl : u67 = .bool true := g67
                    exact Reg.Gives.value (v := .bool true) (w' := wi) (by go_simp) (Reg.OwedH.same hI rfl)
                  · obtain rfl := Option.some.inj ho
                    intro ρ wi hE hI hs hd
                    try dsimp only at hI
                    have e3 : ρ (.tmp 3) = .int .i64 k := hs 3 (by kernel_rfl)
                    intro ug hgg
                    obtain rfl : ug = .bool true := hgg
                    exact ⟨fun h => (by cases h), fun _ => ⟨rfl, hI⟩⟩
                  · obtain rfl := Option.some.inj ho
                    intro ρ wi hE hI hs hd
                    try dsimp only at hI
                    obtain ⟨u69, g69, e69⟩ := hd 8 69 (by kernel_rfl) (by kernel_rfl) (by show _ < 121; decide)
                    obtain rfl : u69 = undef := g69
                    have hf := hE.func
                    intro ug hgg
                    obtain rfl : ug = .bool true := hgg
                    exact ⟨fun h => (by cases h), fun _ => ⟨rfl, hI⟩⟩
                  · obtain rfl := Option.some.inj ho
                    intro ρ wi hE hI hs hd
                    try dsimp only at hI
                    obtain ⟨u70, g70, e70⟩ := hd 9 70 (by kernel_rfl) (by kernel_rfl) (by show _ < 121; decide)
                    obtain rfl : u70 = undef := g70
                    intro ug hgg
                    obtain rfl : ug = .bool true := hgg
                    exact ⟨fun h => (by cases h), fun _ => ⟨rfl, hI⟩⟩
                  · obtain rfl := Option.some.inj ho
                    intro ρ wi hE hI hs hd
                    try dsimp only at hI
                    have e1 : ρ (.tmp 1) = .pointer (some ⟨w.heap.size, 0, none⟩) := hs 1 (by kernel_rfl)
                    intro ug hgg
                    obtain rfl : ug = undef := hgg
                    exact ⟨fun h => (by cases h), fun _ => ⟨rfl, hI⟩⟩
                  · obtain rfl := Option.some.inj ho
                    intro ρ wi hE hI hs hd
                    try dsimp only at hI
                    obtain ⟨u72, g72, e72⟩ := hd 11 72 (by kernel_rfl) (by kernel_rfl) (by show _ < 121; decide)
                    obtain rfl : u72 = undef := g72
                    intro ug hgg
                    obtain rfl : ug = undef := hgg
                    exact ⟨fun h => (by cases h), fun _ => ⟨rfl, hI⟩⟩
                  · obtain rfl := Option.some.inj ho
                    intro ρ wi hE hI hs hd
                    try dsimp only at hI
                    obtain ⟨u73, g73, e73⟩ := hd 12 73 (by kernel_rfl) (by kernel_rfl) (by show _ < 121; decide)
                    obtain rfl : u73 = undef := g73
                    have hf := hE.func
                    intro ug hgg
                    obtain rfl : ug = undef := hgg
                    exact ⟨fun h => (by cases h), fun _ => ⟨rfl, hI⟩⟩
                  · obtain rfl := Option.some.inj ho
                    intro ρ wi hE hI hs hd
                    try dsimp only at hI
                    obtain ⟨u74, g74, e74⟩ := hd 13 74 (by kernel_rfl) (by kernel_rfl) (by show _ < 121; decide)
                    obtain rfl : u74 = undef := g74
                    intro ug hgg
                    obtain rfl : ug = undef := hgg
                    exact ⟨fun h => (by cases h), fun _ => ⟨rfl, hI⟩⟩
                  · obtain rfl := Option.some.inj ho
                    intro ρ wi hE hI hs hd
                    try dsimp only at hI
                    obtain ⟨u71, g71, e71⟩ := hd 10 71 (by kernel_rfl) (by kernel_rfl) (by show _ < 121; decide)
                    obtain rfl : u71 = undef := g71
                    obtain ⟨u75, g75, e75⟩ := hd 14 75 (by kernel_rfl) (by kernel_rfl) (by show _ < 121; decide)
                    obtain rfl : u75 = undef := g75
                    have hc := hE.const
                    intro ug hgg
                    obtain rfl : ug = .bool true := hgg
                    exact ⟨fun h => (by cases h), fun _ => ⟨rfl, hI⟩⟩
                  · obtain rfl := Option.some.inj ho
                    intro ρ wi hE hI hs hd
                    try dsimp only at hI
                    obtain ⟨u68, g68, e68⟩ := hd 7 68 (by kernel_rfl) (by kernel_rfl) (by show _ < 121; decide)
                    obtain rfl : u68 = .bool true := g68
                    obtain ⟨u76, g76, e76⟩ := hd 15 76 (by kernel_rfl) (by kernel_rfl) (by show _ < 121; decide)
                    obtain rfl : u76 = undef := g76
                    have hc := hE.const
                    exact Reg.Gives.value (v := .bool true) (w' := wi) (by go_simp) (Reg.OwedH.same hI rfl)
                  · obtain rfl := Option.some.inj ho
                    intro ρ wi hE hI hs hd
                    try dsimp only at hI
                    obtain ⟨u77, g77, e77⟩ := hd 16 77 (by kernel_rfl) (by kernel_rfl) (by show _ < 121; decide)
                    obtain rfl : u77 = .bool true := g77
                    exact Reg.Gives.value (v := .bool true) (w' := wi) (by go_simp) (Reg.OwedH.same hI rfl)
                  · obtain rfl := Option.some.inj ho
                    intro ρ wi hE hI hs hd
                    try dsimp only at hI
                    have e3 : ρ (.tmp 3) = .int .i64 k := hs 3 (by kernel_rfl)
                    intro ug hgg
                    obtain rfl : ug = .bool true := hgg
                    exact ⟨fun h => (by cases h), fun _ => ⟨rfl, hI⟩⟩
                  · obtain rfl := Option.some.inj ho
                    intro ρ wi hE hI hs hd
                    try dsimp only at hI
                    obtain ⟨u79, g79, e79⟩ := hd 18 79 (by kernel_rfl) (by kernel_rfl) (by show _ < 121; decide)
                    obtain rfl : u79 = undef := g79
                    have hf := hE.func
                    intro ug hgg
                    obtain rfl : ug = .bool true := hgg
                    exact ⟨fun h => (by cases h), fun _ => ⟨rfl, hI⟩⟩
                  · obtain rfl := Option.some.inj ho
                    intro ρ wi hE hI hs hd
                    try dsimp only at hI
                    obtain ⟨u80, g80, e80⟩ := hd 19 80 (by kernel_rfl) (by kernel_rfl) (by show _ < 121; decide)
                    obtain rfl : u80 = undef := g80
                    intro ug hgg
                    obtain rfl : ug = .bool true := hgg
                    exact ⟨fun h => (by cases h), fun _ => ⟨rfl, hI⟩⟩
                  · obtain rfl := Option.some.inj ho
                    intro ρ wi hE hI hs hd
                    try dsimp only at hI
                    obtain ⟨u81, g81, e81⟩ := hd 20 81 (by kernel_rfl) (by kernel_rfl) (by show _ < 121; decide)
                    obtain rfl : u81 = undef := g81
                    intro ug hgg
                    obtain rfl : ug = .bool true := hgg
                    exact ⟨fun h => (by cases h), fun _ => ⟨rfl, hI⟩⟩
                  · obtain rfl := Option.some.inj ho
                    intro ρ wi hE hI hs hd
                    try dsimp only at hI
                    have e1 : ρ (.tmp 1) = .pointer (some ⟨w.heap.size, 0, none⟩) := hs 1 (by kernel_rfl)
                    intro ug hgg
                    obtain rfl : ug = undef := hgg
                    exact ⟨fun h => (by cases h), fun _ => ⟨rfl, hI⟩⟩
                  · obtain rfl := Option.some.inj ho
                    intro ρ wi hE hI hs hd
                    try dsimp only at hI
                    obtain ⟨u83, g83, e83⟩ := hd 22 83 (by kernel_rfl) (by kernel_rfl) (by show _ < 121; decide)
                    obtain rfl : u83 = undef := g83
                    intro ug hgg
                    obtain rfl : ug = undef := hgg
                    exact ⟨fun h => (by cases h), fun _ => ⟨rfl, hI⟩⟩
                  · obtain rfl := Option.some.inj ho
                    intro ρ wi hE hI hs hd
                    try dsimp only at hI
                    obtain ⟨u82, g82, e82⟩ := hd 21 82 (by kernel_rfl) (by kernel_rfl) (by show _ < 121; decide)
                    obtain rfl : u82 = undef := g82
                    obtain ⟨u84, g84, e84⟩ := hd 23 84 (by kernel_rfl) (by kernel_rfl) (by show _ < 121; decide)
                    obtain rfl : u84 = undef := g84
                    have hc := hE.const
                    intro ug hgg
                    obtain rfl : ug = .bool true := hgg
                    exact ⟨fun h => (by cases h), fun _ => ⟨rfl, hI⟩⟩
                  · obtain rfl := Option.some.inj ho
                    intro ρ wi hE hI hs hd
                    try dsimp only at hI
                    obtain ⟨u78, g78, e78⟩ := hd 17 78 (by kernel_rfl) (by kernel_rfl) (by show _ < 121; decide)
                    obtain rfl : u78 = .bool true := g78
                    obtain ⟨u85, g85, e85⟩ := hd 24 85 (by kernel_rfl) (by kernel_rfl) (by show _ < 121; decide)
                    obtain rfl : u85 = undef := g85
                    have hc := hE.const
                    exact Reg.Gives.value (v := .bool true) (w' := wi) (by go_simp) (Reg.OwedH.same hI rfl)
                  · omega
                · intro V wz hV hI
                  have hV25 : V 25 = .bool true := hV 25 (by decide) rfl
                  simp only [Reg.putsO, List.foldl_cons, List.foldl_nil, Act.put, List.setIfInBounds_toArray, List.set_cons_succ, List.set_cons_zero, hV25]
                  replace hI : (fun a => Below wr.heap.size wr a) wz := hI
                  clear hV hV25
                  have HW := Lib.hid hI
                  clear hI
                  go_wp2_with fail
                  go_meet
                  exact ⟨by simp [q15], HW.out⟩
            · cases tz
              · have HTT : Hid (t1 = 0 ∧ t2 = 0 ∧ t3 = 0) := Lib.hid (by simpa [and_assoc] using HTZ.out)
                go_wp2_with fail
                refine Reg.region_heavy (by kernel_rfl) 25 [25] (mRef15_A w.heap.size k t1 t2 t3) (fun a => Below wr.heap.size wr a) (fun a => Below wr.heap.size wr a) (fun V => [(some 61, V 0), (some 62, V 1), (some 63, V 2), (some 64, V 3), (some 65, V 4), (some 66, V 5), (some 67, V 6), (some 68, V 7), (some 69, V 8), (some 70, V 9), (some 71, V 10), (some 72, V 11), (some 73, V 12), (some 74, V 13), (some 75, V 14), (some 76, V 15), (some 77, V 16), (some 78, V 17), (some 79, V 18), (some 80, V 19), (some 81, V 20), (some 82, V 21), (some 83, V 22), (some 84, V 23), (some 85, V 24), (some 86, V 25)]) (by kernel_rfl) (by kernel_rfl) (by kernel_rfl) (fun V => rfl) ?_ ?_ ?_
                · exact (Below.refl _ _).drew
                · intro i o ho
                  have hi : i < 26 := (Array.getElem?_eq_some_iff.1 ho).1
                  rcases i with _ | _ | _ | _ | _ | _ | _ | _ | _ | _ | _ | _ | _ | _ | _ | _ | _ | _ | _ | _ | _ | _ | _ | _ | _ | _ | i
                  · obtain rfl := Option.some.inj ho
                    intro ρ wi hE hI hs hd
                    try dsimp only at hI
                    have e3 : ρ (.tmp 3) = .int .i64 k := hs 3 (by kernel_rfl)
                    exact Reg.Gives.value (v := .int .i64 k) (w' := wi) (by go_simp) (Reg.OwedH.same hI rfl)
                  · obtain rfl := Option.some.inj ho
                    intro ρ wi hE hI hs hd
                    try dsimp only at hI
                    obtain ⟨u61, g61, e61⟩ := hd 0 61 (by kernel_rfl) (by kernel_rfl) (by show _ < 121; decide)
                    obtain rfl : u61 = .int .i64 k := g61
                    have hf := hE.func
                    refine Reg.Gives.call (f := 18) (args := #[.int .i64 k]) (w' := wi) (by go_simp) ?_
                    refine (HNA.out wi).mono ?_
                    rintro e w'' ⟨rfl, rfl⟩
                    exact ⟨_, rfl, Reg.OwedH.same hI rfl⟩
                  · obtain rfl := Option.some.inj ho
                    intro ρ wi hE hI hs hd
                    try dsimp only at hI
                    have e1 : ρ (.tmp 1) = .pointer (some ⟨w.heap.size, 0, none⟩) := hs 1 (by kernel_rfl)
                    exact Reg.Gives.value (v := .pointer (some ⟨w.heap.size, 1, none⟩)) (w' := wi) (by go_simp) (Reg.OwedH.same hI rfl)
                  · obtain rfl := Option.some.inj ho
                    intro ρ wi hE hI hs hd
                    try dsimp only at hI
                    obtain ⟨u63, g63, e63⟩ := hd 2 63 (by kernel_rfl) (by kernel_rfl) (by show _ < 121; decide)
                    obtain rfl : u63 = .pointer (some ⟨w.heap.size, 1, none⟩) := g63
                    have hq := HC2.out.later hI
                    have q1 := hq.cell (j := 1) rfl
                    have q2 := hq.cell (j := 2) rfl
                    have q3 := hq.cell (j := 3) rfl
                    exact Reg.Gives.value (v := .agg #[.int .i64 t1, .int .i64 t2, .int .i64 t3]) (w' := wi) (by go_simp) (Reg.OwedH.same hI rfl)
                  · obtain rfl := Option.some.inj ho
                    intro ρ wi hE hI hs hd
                    try dsimp only at hI
                    exact Reg.Gives.value (v := .agg #[.int .i64 0, .int .i64 0, .int .i64 0]) (w' := wi) (by go_simp) (Reg.OwedH.same hI rfl)
                  · obtain rfl := Option.some.inj ho
                    intro ρ wi hE hI hs hd
                    try dsimp only at hI
                    obtain ⟨u64, g64, e64⟩ := hd 3 64 (by kernel_rfl) (by kernel_rfl) (by show _ < 121; decide)
                    obtain rfl : u64 = .agg #[.int .i64 t1, .int .i64 t2, .int .i64 t3] := g64
                    obtain ⟨u65, g65, e65⟩ := hd 4 65 (by kernel_rfl) (by kernel_rfl) (by show _ < 121; decide)
                    obtain rfl : u65 = .agg #[.int .i64 0, .int .i64 0, .int .i64 0] := g65
                    obtain ⟨z1, z2, z3⟩ := HTT.out
                    exact Reg.Gives.value (v := .bool false) (w' := wi) (by go_simp) (Reg.OwedH.same hI rfl)
                  · obtain rfl := Option.some.inj ho
                    intro ρ wi hE hI hs hd
                    try dsimp only at hI
                    obtain ⟨u62, g62, e62⟩ := hd 1 62 (by kernel_rfl) (by kernel_rfl) (by show _ < 121; decide)
                    obtain rfl : u62 = .bool true := g62
                    obtain ⟨u66, g66, e66⟩ := hd 5 66 (by kernel_rfl) (by kernel_rfl) (by show _ < 121; decide)
                    obtain rfl : u66 = .bool false := g66
                    exact Reg.Gives.value (v := .bool true) (w' := wi) (by go_simp) (Reg.OwedH.same hI rfl)
                  · obtain rfl := Option.some.inj ho
                    intro ρ wi hE hI hs hd
                    try dsimp only at hI
                    obtain ⟨u67, g67, e67⟩ := hd 6 67 (by kernel_rfl) (by kernel_rfl) (by show _ < 121; decide)
                    obtain rfl : u67 = .bool true := g67
                    exact Reg.Gives.value (v := .bool true) (w' := wi) (by go_simp) (Reg.OwedH.same hI rfl)
                  · obtain rfl := Option.some.inj ho
                    intro ρ wi hE hI hs hd
                    try dsimp only at hI
                    have e3 : ρ (.tmp 3) = .int .i64 k := hs 3 (by kernel_rfl)
                    intro ug hgg
                    obtain rfl : ug = .bool true := hgg
                    exact ⟨fun h => (by cases h), fun _ => ⟨rfl, hI⟩⟩
                  · obtain rfl := Option.some.inj ho
                    intro ρ wi hE hI hs hd
                    try dsimp only at hI
                    obtain ⟨u69, g69, e69⟩ := hd 8 69 (by kernel_rfl) (by kernel_rfl) (by show _ < 121; decide)
                    obtain rfl : u69 = undef := g69
                    have hf := hE.func
                    intro ug hgg
                    obtain rfl : ug = .bool true := hgg
                    exact ⟨fun h => (by cases h), fun _ => ⟨rfl, hI⟩⟩
                  · obtain rfl := Option.some.inj ho
                    intro ρ wi hE hI hs hd
                    try dsimp only at hI
                    obtain ⟨u70, g70, e70⟩ := hd 9 70 (by kernel_rfl) (by kernel_rfl) (by show _ < 121; decide)
                    obtain rfl : u70 = undef := g70
                    intro ug hgg
                    obtain rfl : ug = .bool true := hgg
                    exact ⟨fun h => (by cases h), fun _ => ⟨rfl, hI⟩⟩
                  · obtain rfl := Option.some.inj ho
                    intro ρ wi hE hI hs hd
                    try dsimp only at hI
                    have e1 : ρ (.tmp 1) = .pointer (some ⟨w.heap.size, 0, none⟩) := hs 1 (by kernel_rfl)
                    intro ug hgg
                    obtain rfl : ug = undef := hgg
                    exact ⟨fun h => (by cases h), fun _ => ⟨rfl, hI⟩⟩
                  · obtain rfl := Option.some.inj ho
                    intro ρ wi hE hI hs hd
                    try dsimp only at hI
                    obtain ⟨u72, g72, e72⟩ := hd 11 72 (by kernel_rfl) (by kernel_rfl) (by show _ < 121; decide)
                    obtain rfl : u72 = undef := g72
                    intro ug hgg
                    obtain rfl : ug = undef := hgg
                    exact ⟨fun h => (by cases h), fun _ => ⟨rfl, hI⟩⟩
                  · obtain rfl := Option.some.inj ho
                    intro ρ wi hE hI hs hd
                    try dsimp only at hI
                    obtain ⟨u73, g73, e73⟩ := hd 12 73 (by kernel_rfl) (by kernel_rfl) (by show _ < 121; decide)
                    obtain rfl : u73 = undef := g73
                    have hf := hE.func
                    intro ug hgg
                    obtain rfl : ug = undef := hgg
                    exact ⟨fun h => (by cases h), fun _ => ⟨rfl, hI⟩⟩
                  · obtain rfl := Option.some.inj ho
                    intro ρ wi hE hI hs hd
                    try dsimp only at hI
                    obtain ⟨u74, g74, e74⟩ := hd 13 74 (by kernel_rfl) (by kernel_rfl) (by show _ < 121; decide)
                    obtain rfl : u74 = undef := g74
                    intro ug hgg
                    obtain rfl : ug = undef := hgg
                    exact ⟨fun h => (by cases h), fun _ => ⟨rfl, hI⟩⟩
                  · obtain rfl := Option.some.inj ho
                    intro ρ wi hE hI hs hd
                    try dsimp only at hI
                    obtain ⟨u71, g71, e71⟩ := hd 10 71 (by kernel_rfl) (by kernel_rfl) (by show _ < 121; decide)
                    obtain rfl : u71 = undef := g71
                    obtain ⟨u75, g75, e75⟩ := hd 14 75 (by kernel_rfl) (by kernel_rfl) (by show _ < 121; decide)
                    obtain rfl : u75 = undef := g75
                    have hc := hE.const
                    intro ug hgg
                    obtain rfl : ug = .bool true := hgg
                    exact ⟨fun h => (by cases h), fun _ => ⟨rfl, hI⟩⟩
                  · obtain rfl := Option.some.inj ho
                    intro ρ wi hE hI hs hd
                    try dsimp only at hI
                    obtain ⟨u68, g68, e68⟩ := hd 7 68 (by kernel_rfl) (by kernel_rfl) (by show _ < 121; decide)
                    obtain rfl : u68 = .bool true := g68
                    obtain ⟨u76, g76, e76⟩ := hd 15 76 (by kernel_rfl) (by kernel_rfl) (by show _ < 121; decide)
                    obtain rfl : u76 = undef := g76
                    have hc := hE.const
                    exact Reg.Gives.value (v := .bool true) (w' := wi) (by go_simp) (Reg.OwedH.same hI rfl)
                  · obtain rfl := Option.some.inj ho
                    intro ρ wi hE hI hs hd
                    try dsimp only at hI
                    obtain ⟨u77, g77, e77⟩ := hd 16 77 (by kernel_rfl) (by kernel_rfl) (by show _ < 121; decide)
                    obtain rfl : u77 = .bool true := g77
                    exact Reg.Gives.value (v := .bool true) (w' := wi) (by go_simp) (Reg.OwedH.same hI rfl)
                  · obtain rfl := Option.some.inj ho
                    intro ρ wi hE hI hs hd
                    try dsimp only at hI
                    have e3 : ρ (.tmp 3) = .int .i64 k := hs 3 (by kernel_rfl)
                    intro ug hgg
                    obtain rfl : ug = .bool true := hgg
                    exact ⟨fun h => (by cases h), fun _ => ⟨rfl, hI⟩⟩
                  · obtain rfl := Option.some.inj ho
                    intro ρ wi hE hI hs hd
                    try dsimp only at hI
                    obtain ⟨u79, g79, e79⟩ := hd 18 79 (by kernel_rfl) (by kernel_rfl) (by show _ < 121; decide)
                    obtain rfl : u79 = undef := g79
                    have hf := hE.func
                    intro ug hgg
                    obtain rfl : ug = .bool true := hgg
                    exact ⟨fun h => (by cases h), fun _ => ⟨rfl, hI⟩⟩
                  · obtain rfl := Option.some.inj ho
                    intro ρ wi hE hI hs hd
                    try dsimp only at hI
                    obtain ⟨u80, g80, e80⟩ := hd 19 80 (by kernel_rfl) (by kernel_rfl) (by show _ < 121; decide)
                    obtain rfl : u80 = undef := g80
                    intro ug hgg
                    obtain rfl : ug = .bool true := hgg
                    exact ⟨fun h => (by cases h), fun _ => ⟨rfl, hI⟩⟩
                  · obtain rfl := Option.some.inj ho
                    intro ρ wi hE hI hs hd
                    try dsimp only at hI
                    obtain ⟨u81, g81, e81⟩ := hd 20 81 (by kernel_rfl) (by kernel_rfl) (by show _ < 121; decide)
                    obtain rfl : u81 = undef := g81
                    intro ug hgg
                    obtain rfl : ug = .bool true := hgg
                    exact ⟨fun h => (by cases h), fun _ => ⟨rfl, hI⟩⟩
                  · obtain rfl := Option.some.inj ho
                    intro ρ wi hE hI hs hd
                    try dsimp only at hI
                    have e1 : ρ (.tmp 1) = .pointer (some ⟨w.heap.size, 0, none⟩) := hs 1 (by kernel_rfl)
                    intro ug hgg
                    obtain rfl : ug = undef := hgg
                    exact ⟨fun h => (by cases h), fun _ => ⟨rfl, hI⟩⟩
                  · obtain rfl := Option.some.inj ho
                    intro ρ wi hE hI hs hd
                    try dsimp only at hI
                    obtain ⟨u83, g83, e83⟩ := hd 22 83 (by kernel_rfl) (by kernel_rfl) (by show _ < 121; decide)
                    obtain rfl : u83 = undef := g83
                    intro ug hgg
                    obtain rfl : ug = undef := hgg
                    exact ⟨fun h => (by cases h), fun _ => ⟨rfl, hI⟩⟩
                  · obtain rfl := Option.some.inj ho
                    intro ρ wi hE hI hs hd
                    try dsimp only at hI
                    obtain ⟨u82, g82, e82⟩ := hd 21 82 (by kernel_rfl) (by kernel_rfl) (by show _ < 121; decide)
                    obtain rfl : u82 = undef := g82
                    obtain ⟨u84, g84, e84⟩ := hd 23 84 (by kernel_rfl) (by kernel_rfl) (by show _ < 121; decide)
                    obtain rfl : u84 = undef := g84
                    have hc := hE.const
                    intro ug hgg
                    obtain rfl : ug = .bool true := hgg
                    exact ⟨fun h => (by cases h), fun _ => ⟨rfl, hI⟩⟩
                  · obtain rfl := Option.some.inj ho
                    intro ρ wi hE hI hs hd
                    try dsimp only at hI
                    obtain ⟨u78, g78, e78⟩ := hd 17 78 (by kernel_rfl) (by kernel_rfl) (by show _ < 121; decide)
                    obtain rfl : u78 = .bool true := g78
                    obtain ⟨u85, g85, e85⟩ := hd 24 85 (by kernel_rfl) (by kernel_rfl) (by show _ < 121; decide)
                    obtain rfl : u85 = undef := g85
                    have hc := hE.const
                    exact Reg.Gives.value (v := .bool true) (w' := wi) (by go_simp) (Reg.OwedH.same hI rfl)
                  · omega
                · intro V wz hV hI
                  have hV25 : V 25 = .bool true := hV 25 (by decide) rfl
                  simp only [Reg.putsO, List.foldl_cons, List.foldl_nil, Act.put, List.setIfInBounds_toArray, List.set_cons_succ, List.set_cons_zero, hV25]
                  replace hI : (fun a => Below wr.heap.size wr a) wz := hI
                  clear hV hV25
                  have HW := Lib.hid hI
                  clear hI
                  go_wp2_with fail
                  go_meet
                  exact ⟨by simp [q15], HW.out⟩
              · have HTT : Hid (t1 = 0 → t2 = 0 → ¬t3 = 0) := Lib.hid (by have h := HTZ.out; simp at h; omega)
                cases rt
                · go_wp2_with fail
                  refine Reg.region_heavy (by kernel_rfl) 25 [25] (mRef15_E w.heap.size k t1 t2 t3) (fun a => Below wr.heap.size wr a) (fun a => Below wr.heap.size wr a) (fun V => [(some 61, V 0), (some 62, V 1), (some 63, V 2), (some 64, V 3), (some 65, V 4), (some 66, V 5), (some 67, V 6), (some 68, V 7), (some 69, V 8), (some 70, V 9), (some 71, V 10), (some 72, V 11), (some 73, V 12), (some 74, V 13), (some 75, V 14), (some 76, V 15), (some 77, V 16), (some 78, V 17), (some 79, V 18), (some 80, V 19), (some 81, V 20), (some 82, V 21), (some 83, V 22), (some 84, V 23), (some 85, V 24), (some 86, V 25)]) (by kernel_rfl) (by kernel_rfl) (by kernel_rfl) (fun V => rfl) ?_ ?_ ?_
                  · exact (Below.refl _ _).drew
                  · intro i o ho
                    have hi : i < 26 := (Array.getElem?_eq_some_iff.1 ho).1
                    rcases i with _ | _ | _ | _ | _ | _ | _ | _ | _ | _ | _ | _ | _ | _ | _ | _ | _ | _ | _ | _ | _ | _ | _ | _ | _ | _ | i
                    · obtain rfl := Option.some.inj ho
                      intro ρ wi hE hI hs hd
                      try dsimp only at hI
                      have e3 : ρ (.tmp 3) = .int .i64 k := hs 3 (by kernel_rfl)
                      exact Reg.Gives.value (v := .int .i64 k) (w' := wi) (by go_simp) (Reg.OwedH.same hI rfl)
                    · obtain rfl := Option.some.inj ho
                      intro ρ wi hE hI hs hd
                      try dsimp only at hI
                      obtain ⟨u61, g61, e61⟩ := hd 0 61 (by kernel_rfl) (by kernel_rfl) (by show _ < 121; decide)
                      obtain rfl : u61 = .int .i64 k := g61
                      have hf := hE.func
                      refine Reg.Gives.call (f := 18) (args := #[.int .i64 k]) (w' := wi) (by go_simp) ?_
                      refine (HNA.out wi).mono ?_
                      rintro e w'' ⟨rfl, rfl⟩
                      exact ⟨_, rfl, Reg.OwedH.same hI rfl⟩
                    · obtain rfl := Option.some.inj ho
                      intro ρ wi hE hI hs hd
                      try dsimp only at hI
                      have e1 : ρ (.tmp 1) = .pointer (some ⟨w.heap.size, 0, none⟩) := hs 1 (by kernel_rfl)
                      exact Reg.Gives.value (v := .pointer (some ⟨w.heap.size, 1, none⟩)) (w' := wi) (by go_simp) (Reg.OwedH.same hI rfl)
                    · obtain rfl := Option.some.inj ho
                      intro ρ wi hE hI hs hd
                      try dsimp only at hI
                      obtain ⟨u63, g63, e63⟩ := hd 2 63 (by kernel_rfl) (by kernel_rfl) (by show _ < 121; decide)
                      obtain rfl : u63 = .pointer (some ⟨w.heap.size, 1, none⟩) := g63
                      have hq := HC2.out.later hI
                      have q1 := hq.cell (j := 1) rfl
                      have q2 := hq.cell (j := 2) rfl
                      have q3 := hq.cell (j := 3) rfl
                      exact Reg.Gives.value (v := .agg #[.int .i64 t1, .int .i64 t2, .int .i64 t3]) (w' := wi) (by go_simp) (Reg.OwedH.same hI rfl)
                    · obtain rfl := Option.some.inj ho
                      intro ρ wi hE hI hs hd
                      try dsimp only at hI
                      exact Reg.Gives.value (v := .agg #[.int .i64 0, .int .i64 0, .int .i64 0]) (w' := wi) (by go_simp) (Reg.OwedH.same hI rfl)
                    · obtain rfl := Option.some.inj ho
                      intro ρ wi hE hI hs hd
                      try dsimp only at hI
                      obtain ⟨u64, g64, e64⟩ := hd 3 64 (by kernel_rfl) (by kernel_rfl) (by show _ < 121; decide)
                      obtain rfl : u64 = .agg #[.int .i64 t1, .int .i64 t2, .int .i64 t3] := g64
                      obtain ⟨u65, g65, e65⟩ := hd 4 65 (by kernel_rfl) (by kernel_rfl) (by show _ < 121; decide)
                      obtain rfl : u65 = .agg #[.int .i64 0, .int .i64 0, .int .i64 0] := g65
                      exact Reg.Gives.value (v := .bool true) (w' := wi) (by go_simp; exact HTT.out) (Reg.OwedH.same hI rfl)
                    · obtain rfl := Option.some.inj ho
                      intro ρ wi hE hI hs hd
                      try dsimp only at hI
                      obtain ⟨u62, g62, e62⟩ := hd 1 62 (by kernel_rfl) (by kernel_rfl) (by show _ < 121; decide)
                      obtain rfl : u62 = .bool true := g62
                      obtain ⟨u66, g66, e66⟩ := hd 5 66 (by kernel_rfl) (by kernel_rfl) (by show _ < 121; decide)
                      obtain rfl : u66 = .bool true := g66
                      exact Reg.Gives.value (v := .bool false) (w' := wi) (by go_simp) (Reg.OwedH.same hI rfl)
                    · obtain rfl := Option.some.inj ho
                      intro ρ wi hE hI hs hd
                      try dsimp only at hI
                      obtain ⟨u67, g67, e67⟩ := hd 6 67 (by kernel_rfl) (by kernel_rfl) (by show _ < 121; decide)
                      obtain rfl : u67 = .bool false := g67
                      exact Reg.Gives.value (v := .bool false) (w' := wi) (by go_simp) (Reg.OwedH.same hI rfl)
                    · obtain rfl := Option.some.inj ho
                      intro ρ wi hE hI hs hd
                      try dsimp only at hI
                      have e3 : ρ (.tmp 3) = .int .i64 k := hs 3 (by kernel_rfl)
                      intro ug hgg
                      obtain rfl : ug = .bool false := hgg
                      refine ⟨fun _ => ?_, fun h => absurd rfl h⟩
                      exact Reg.Gives.value (v := .int .i64 k) (w' := wi) (by go_simp) (Reg.OwedH.same hI rfl)
                    · obtain rfl := Option.some.inj ho
                      intro ρ wi hE hI hs hd
                      try dsimp only at hI
                      obtain ⟨u69, g69, e69⟩ := hd 8 69 (by kernel_rfl) (by kernel_rfl) (by show _ < 121; decide)
                      obtain rfl : u69 = .int .i64 k := g69
                      have hf := hE.func
                      intro ug hgg
                      obtain rfl : ug = .bool false := hgg
                      refine ⟨fun _ => ?_, fun h => absurd rfl h⟩
                      refine Reg.Gives.call (f := 18) (args := #[.int .i64 k]) (w' := wi) (by go_simp) ?_
                      refine (HNA.out wi).mono ?_
                      rintro e w'' ⟨rfl, rfl⟩
                      exact ⟨_, rfl, Reg.OwedH.same hI rfl⟩
                    · obtain rfl := Option.some.inj ho
                      intro ρ wi hE hI hs hd
                      try dsimp only at hI
                      obtain ⟨u70, g70, e70⟩ := hd 9 70 (by kernel_rfl) (by kernel_rfl) (by show _ < 121; decide)
                      obtain rfl : u70 = .bool true := g70
                      intro ug hgg
                      obtain rfl : ug = .bool false := hgg
                      refine ⟨fun _ => ?_, fun h => absurd rfl h⟩
                      exact Reg.Gives.value (v := .bool true) (w' := wi) (by go_simp) (Reg.OwedH.same hI rfl)
                    · obtain rfl := Option.some.inj ho
                      intro ρ wi hE hI hs hd
                      try dsimp only at hI
                      have e1 : ρ (.tmp 1) = .pointer (some ⟨w.heap.size, 0, none⟩) := hs 1 (by kernel_rfl)
                      intro ug hgg
                      obtain rfl : ug = .bool true := hgg
                      refine ⟨fun _ => ?_, fun h => absurd rfl h⟩
                      exact Reg.Gives.value (v := .pointer (some ⟨w.heap.size, 1, none⟩)) (w' := wi) (by go_simp) (Reg.OwedH.same hI rfl)
                    · obtain rfl := Option.some.inj ho
                      intro ρ wi hE hI hs hd
                      try dsimp only at hI
                      obtain ⟨u72, g72, e72⟩ := hd 11 72 (by kernel_rfl) (by kernel_rfl) (by show _ < 121; decide)
                      obtain rfl : u72 = .pointer (some ⟨w.heap.size, 1, none⟩) := g72
                      intro ug hgg
                      obtain rfl : ug = .bool true := hgg
                      refine ⟨fun _ => ?_, fun h => absurd rfl h⟩
                      have hq := HC2.out.later hI
                      have q1 := hq.cell (j := 1) rfl
                      have q2 := hq.cell (j := 2) rfl
                      have q3 := hq.cell (j := 3) rfl
                      exact Reg.Gives.value (v := .agg #[.int .i64 t1, .int .i64 t2, .int .i64 t3]) (w' := wi) (by go_simp) (Reg.OwedH.same hI rfl)
                    · obtain rfl := Option.some.inj ho
                      intro ρ wi hE hI hs hd
                      try dsimp only at hI
                      obtain ⟨u73, g73, e73⟩ := hd 12 73 (by kernel_rfl) (by kernel_rfl) (by show _ < 121; decide)
                      obtain rfl : u73 = .agg #[.int .i64 t1, .int .i64 t2, .int .i64 t3] := g73
                      have hf := hE.func
                      intro ug hgg
                      obtain rfl : ug = .bool true := hgg
                      refine ⟨fun _ => ?_, fun h => absurd rfl h⟩
                      refine Reg.Gives.call (f := 19) (args := #[.agg #[.int .i64 t1, .int .i64 t2, .int .i64 t3]]) (w' := wi) (by go_simp) ?_
                      refine (HRT.out wi).mono ?_
                      rintro e w'' ⟨rfl, hbb⟩
                      exact ⟨_, rfl, ⟨rfl, hI.trans (hbb.mono hI.size), fun j u _ _ h => mRef15_E_later hbb h⟩⟩
                    · obtain rfl := Option.some.inj ho
                      intro ρ wi hE hI hs hd
                      try dsimp only at hI
                      obtain ⟨u74, g74, e74⟩ := hd 13 74 (by kernel_rfl) (by kernel_rfl) (by show _ < 121; decide)
                      obtain rfl : u74 = .bool false := g74
                      intro ug hgg
                      obtain rfl : ug = .bool true := hgg
                      refine ⟨fun _ => ?_, fun h => absurd rfl h⟩
                      exact Reg.Gives.value (v := .bool true) (w' := wi) (by go_simp) (Reg.OwedH.same hI rfl)
                    · obtain rfl := Option.some.inj ho
                      intro ρ wi hE hI hs hd
                      try dsimp only at hI
                      obtain ⟨u71, g71, e71⟩ := hd 10 71 (by kernel_rfl) (by kernel_rfl) (by show _ < 121; decide)
                      obtain rfl : u71 = .bool true := g71
                      obtain ⟨u75, g75, e75⟩ := hd 14 75 (by kernel_rfl) (by kernel_rfl) (by show _ < 121; decide)
                      obtain rfl : u75 = .bool true := g75
                      have hc := hE.const
                      intro ug hgg
                      obtain rfl : ug = .bool false := hgg
                      refine ⟨fun _ => ?_, fun h => absurd rfl h⟩
                      exact Reg.Gives.value (v := .bool true) (w' := wi) (by go_simp) (Reg.OwedH.same hI rfl)
                    · obtain rfl := Option.some.inj ho
                      intro ρ wi hE hI hs hd
                      try dsimp only at hI
                      obtain ⟨u68, g68, e68⟩ := hd 7 68 (by kernel_rfl) (by kernel_rfl) (by show _ < 121; decide)
                      obtain rfl : u68 = .bool false := g68
                      obtain ⟨u76, g76, e76⟩ := hd 15 76 (by kernel_rfl) (by kernel_rfl) (by show _ < 121; decide)
                      obtain rfl : u76 = .bool true := g76
                      have hc := hE.const
                      exact Reg.Gives.value (v := .bool true) (w' := wi) (by go_simp) (Reg.OwedH.same hI rfl)
                    · obtain rfl := Option.some.inj ho
                      intro ρ wi hE hI hs hd
                      try dsimp only at hI
                      obtain ⟨u77, g77, e77⟩ := hd 16 77 (by kernel_rfl) (by kernel_rfl) (by show _ < 121; decide)
                      obtain rfl : u77 = .bool true := g77
                      exact Reg.Gives.value (v := .bool true) (w' := wi) (by go_simp) (Reg.OwedH.same hI rfl)
                    · obtain rfl := Option.some.inj ho
                      intro ρ wi hE hI hs hd
                      try dsimp only at hI
                      have e3 : ρ (.tmp 3) = .int .i64 k := hs 3 (by kernel_rfl)
                      intro ug hgg
                      obtain rfl : ug = .bool true := hgg
                      exact ⟨fun h => (by cases h), fun _ => ⟨rfl, hI⟩⟩
                    · obtain rfl := Option.some.inj ho
                      intro ρ wi hE hI hs hd
                      try dsimp only at hI
                      obtain ⟨u79, g79, e79⟩ := hd 18 79 (by kernel_rfl) (by kernel_rfl) (by show _ < 121; decide)
                      obtain rfl : u79 = undef := g79
                      have hf := hE.func
                      intro ug hgg
                      obtain rfl : ug = .bool true := hgg
                      exact ⟨fun h => (by cases h), fun _ => ⟨rfl, hI⟩⟩
                    · obtain rfl := Option.some.inj ho
                      intro ρ wi hE hI hs hd
                      try dsimp only at hI
                      obtain ⟨u80, g80, e80⟩ := hd 19 80 (by kernel_rfl) (by kernel_rfl) (by show _ < 121; decide)
                      obtain rfl : u80 = undef := g80
                      intro ug hgg
                      obtain rfl : ug = .bool true := hgg
                      exact ⟨fun h => (by cases h), fun _ => ⟨rfl, hI⟩⟩
                    · obtain rfl := Option.some.inj ho
                      intro ρ wi hE hI hs hd
                      try dsimp only at hI
                      obtain ⟨u81, g81, e81⟩ := hd 20 81 (by kernel_rfl) (by kernel_rfl) (by show _ < 121; decide)
                      obtain rfl : u81 = undef := g81
                      intro ug hgg
                      obtain rfl : ug = .bool true := hgg
                      exact ⟨fun h => (by cases h), fun _ => ⟨rfl, hI⟩⟩
                    · obtain rfl := Option.some.inj ho
                      intro ρ wi hE hI hs hd
                      try dsimp only at hI
                      have e1 : ρ (.tmp 1) = .pointer (some ⟨w.heap.size, 0, none⟩) := hs 1 (by kernel_rfl)
                      intro ug hgg
                      obtain rfl : ug = undef := hgg
                      exact ⟨fun h => (by cases h), fun _ => ⟨rfl, hI⟩⟩
                    · obtain rfl := Option.some.inj ho
                      intro ρ wi hE hI hs hd
                      try dsimp only at hI
                      obtain ⟨u83, g83, e83⟩ := hd 22 83 (by kernel_rfl) (by kernel_rfl) (by show _ < 121; decide)
                      obtain rfl : u83 = undef := g83
                      intro ug hgg
                      obtain rfl : ug = undef := hgg
                      exact ⟨fun h => (by cases h), fun _ => ⟨rfl, hI⟩⟩
                    · obtain rfl := Option.some.inj ho
                      intro ρ wi hE hI hs hd
                      try dsimp only at hI
                      obtain ⟨u82, g82, e82⟩ := hd 21 82 (by kernel_rfl) (by kernel_rfl) (by show _ < 121; decide)
                      obtain rfl : u82 = undef := g82
                      obtain ⟨u84, g84, e84⟩ := hd 23 84 (by kernel_rfl) (by kernel_rfl) (by show _ < 121; decide)
                      obtain rfl : u84 = undef := g84
                      have hc := hE.const
                      intro ug hgg
                      obtain rfl : ug = .bool true := hgg
                      exact ⟨fun h => (by cases h), fun _ => ⟨rfl, hI⟩⟩
                    · obtain rfl := Option.some.inj ho
                      intro ρ wi hE hI hs hd
                      try dsimp only at hI
                      obtain ⟨u78, g78, e78⟩ := hd 17 78 (by kernel_rfl) (by kernel_rfl) (by show _ < 121; decide)
                      obtain rfl : u78 = .bool true := g78
                      obtain ⟨u85, g85, e85⟩ := hd 24 85 (by kernel_rfl) (by kernel_rfl) (by show _ < 121; decide)
                      obtain rfl : u85 = undef := g85
                      have hc := hE.const
                      exact Reg.Gives.value (v := .bool true) (w' := wi) (by go_simp) (Reg.OwedH.same hI rfl)
                    · omega
                  · intro V wz hV hI
                    have hV25 : V 25 = .bool true := hV 25 (by decide) rfl
                    simp only [Reg.putsO, List.foldl_cons, List.foldl_nil, Act.put, List.setIfInBounds_toArray, List.set_cons_succ, List.set_cons_zero, hV25]
                    replace hI : (fun a => Below wr.heap.size wr a) wz := hI
                    clear hV hV25
                    have HW := Lib.hid hI
                    clear hI
                    go_wp2_with fail
                    go_meet
                    exact ⟨by simp [q15], HW.out⟩
                · cases sb
                  · go_wp2_with fail
                    refine Reg.region_heavy (by kernel_rfl) 25 [25] (mRef15_G w.heap.size k t1 t2 t3 yes) (fun a => Below wr.heap.size wr a) (fun a => Below wr.heap.size wr a) (fun V => [(some 61, V 0), (some 62, V 1), (some 63, V 2), (some 64, V 3), (some 65, V 4), (some 66, V 5), (some 67, V 6), (some 68, V 7), (some 69, V 8), (some 70, V 9), (some 71, V 10), (some 72, V 11), (some 73, V 12), (some 74, V 13), (some 75, V 14), (some 76, V 15), (some 77, V 16), (some 78, V 17), (some 79, V 18), (some 80, V 19), (some 81, V 20), (some 82, V 21), (some 83, V 22), (some 84, V 23), (some 85, V 24), (some 86, V 25)]) (by kernel_rfl) (by kernel_rfl) (by kernel_rfl) (fun V => rfl) ?_ ?_ ?_
                    · exact (Below.refl _ _).drew
                    · intro i o ho
                      have hi : i < 26 := (Array.getElem?_eq_some_iff.1 ho).1
                      rcases i with _ | _ | _ | _ | _ | _ | _ | _ | _ | _ | _ | _ | _ | _ | _ | _ | _ | _ | _ | _ | _ | _ | _ | _ | _ | _ | i
                      · obtain rfl := Option.some.inj ho
                        intro ρ wi hE hI hs hd
                        try dsimp only at hI
                        have e3 : ρ (.tmp 3) = .int .i64 k := hs 3 (by kernel_rfl)
                        exact Reg.Gives.value (v := .int .i64 k) (w' := wi) (by go_simp) (Reg.OwedH.same hI rfl)
                      · obtain rfl := Option.some.inj ho
                        intro ρ wi hE hI hs hd
                        try dsimp only at hI
                        obtain ⟨u61, g61, e61⟩ := hd 0 61 (by kernel_rfl) (by kernel_rfl) (by show _ < 121; decide)
                        obtain rfl : u61 = .int .i64 k := g61
                        have hf := hE.func
                        refine Reg.Gives.call (f := 18) (args := #[.int .i64 k]) (w' := wi) (by go_simp) ?_
                        refine (HNA.out wi).mono ?_
                        rintro e w'' ⟨rfl, rfl⟩
                        exact ⟨_, rfl, Reg.OwedH.same hI rfl⟩
                      · obtain rfl := Option.some.inj ho
                        intro ρ wi hE hI hs hd
                        try dsimp only at hI
                        have e1 : ρ (.tmp 1) = .pointer (some ⟨w.heap.size, 0, none⟩) := hs 1 (by kernel_rfl)
                        exact Reg.Gives.value (v := .pointer (some ⟨w.heap.size, 1, none⟩)) (w' := wi) (by go_simp) (Reg.OwedH.same hI rfl)
                      · obtain rfl := Option.some.inj ho
                        intro ρ wi hE hI hs hd
                        try dsimp only at hI
                        obtain ⟨u63, g63, e63⟩ := hd 2 63 (by kernel_rfl) (by kernel_rfl) (by show _ < 121; decide)
                        obtain rfl : u63 = .pointer (some ⟨w.heap.size, 1, none⟩) := g63
                        have hq := HC2.out.later hI
                        have q1 := hq.cell (j := 1) rfl
                        have q2 := hq.cell (j := 2) rfl
                        have q3 := hq.cell (j := 3) rfl
                        exact Reg.Gives.value (v := .agg #[.int .i64 t1, .int .i64 t2, .int .i64 t3]) (w' := wi) (by go_simp) (Reg.OwedH.same hI rfl)
                      · obtain rfl := Option.some.inj ho
                        intro ρ wi hE hI hs hd
                        try dsimp only at hI
                        exact Reg.Gives.value (v := .agg #[.int .i64 0, .int .i64 0, .int .i64 0]) (w' := wi) (by go_simp) (Reg.OwedH.same hI rfl)
                      · obtain rfl := Option.some.inj ho
                        intro ρ wi hE hI hs hd
                        try dsimp only at hI
                        obtain ⟨u64, g64, e64⟩ := hd 3 64 (by kernel_rfl) (by kernel_rfl) (by show _ < 121; decide)
                        obtain rfl : u64 = .agg #[.int .i64 t1, .int .i64 t2, .int .i64 t3] := g64
                        obtain ⟨u65, g65, e65⟩ := hd 4 65 (by kernel_rfl) (by kernel_rfl) (by show _ < 121; decide)
                        obtain rfl : u65 = .agg #[.int .i64 0, .int .i64 0, .int .i64 0] := g65
                        exact Reg.Gives.value (v := .bool true) (w' := wi) (by go_simp; exact HTT.out) (Reg.OwedH.same hI rfl)
                      · obtain rfl := Option.some.inj ho
                        intro ρ wi hE hI hs hd
                        try dsimp only at hI
                        obtain ⟨u62, g62, e62⟩ := hd 1 62 (by kernel_rfl) (by kernel_rfl) (by show _ < 121; decide)
                        obtain rfl : u62 = .bool true := g62
                        obtain ⟨u66, g66, e66⟩ := hd 5 66 (by kernel_rfl) (by kernel_rfl) (by show _ < 121; decide)
                        obtain rfl : u66 = .bool true := g66
                        exact Reg.Gives.value (v := .bool false) (w' := wi) (by go_simp) (Reg.OwedH.same hI rfl)
                      · obtain rfl := Option.some.inj ho
                        intro ρ wi hE hI hs hd
                        try dsimp only at hI
                        obtain ⟨u67, g67, e67⟩ := hd 6 67 (by kernel_rfl) (by kernel_rfl) (by show _ < 121; decide)
                        obtain rfl : u67 = .bool false := g67
                        exact Reg.Gives.value (v := .bool false) (w' := wi) (by go_simp) (Reg.OwedH.same hI rfl)
                      · obtain rfl := Option.some.inj ho
                        intro ρ wi hE hI hs hd
                        try dsimp only at hI
                        have e3 : ρ (.tmp 3) = .int .i64 k := hs 3 (by kernel_rfl)
                        intro ug hgg
                        obtain rfl : ug = .bool false := hgg
                        refine ⟨fun _ => ?_, fun h => absurd rfl h⟩
                        exact Reg.Gives.value (v := .int .i64 k) (w' := wi) (by go_simp) (Reg.OwedH.same hI rfl)
                      · obtain rfl := Option.some.inj ho
                        intro ρ wi hE hI hs hd
                        try dsimp only at hI
                        obtain ⟨u69, g69, e69⟩ := hd 8 69 (by kernel_rfl) (by kernel_rfl) (by show _ < 121; decide)
                        obtain rfl : u69 = .int .i64 k := g69
                        have hf := hE.func
                        intro ug hgg
                        obtain rfl : ug = .bool false := hgg
                        refine ⟨fun _ => ?_, fun h => absurd rfl h⟩
                        refine Reg.Gives.call (f := 18) (args := #[.int .i64 k]) (w' := wi) (by go_simp) ?_
                        refine (HNA.out wi).mono ?_
                        rintro e w'' ⟨rfl, rfl⟩
                        exact ⟨_, rfl, Reg.OwedH.same hI rfl⟩
                      · obtain rfl := Option.some.inj ho
                        intro ρ wi hE hI hs hd
                        try dsimp only at hI
                        obtain ⟨u70, g70, e70⟩ := hd 9 70 (by kernel_rfl) (by kernel_rfl) (by show _ < 121; decide)
                        obtain rfl : u70 = .bool true := g70
                        intro ug hgg
                        obtain rfl : ug = .bool false := hgg
                        refine ⟨fun _ => ?_, fun h => absurd rfl h⟩
                        exact Reg.Gives.value (v := .bool true) (w' := wi) (by go_simp) (Reg.OwedH.same hI rfl)
                      · obtain rfl := Option.some.inj ho
                        intro ρ wi hE hI hs hd
                        try dsimp only at hI
                        have e1 : ρ (.tmp 1) = .pointer (some ⟨w.heap.size, 0, none⟩) := hs 1 (by kernel_rfl)
                        intro ug hgg
                        obtain rfl : ug = .bool true := hgg
                        refine ⟨fun _ => ?_, fun h => absurd rfl h⟩
                        exact Reg.Gives.value (v := .pointer (some ⟨w.heap.size, 1, none⟩)) (w' := wi) (by go_simp) (Reg.OwedH.same hI rfl)
                      · obtain rfl := Option.some.inj ho
                        intro ρ wi hE hI hs hd
                        try dsimp only at hI
                        obtain ⟨u72, g72, e72⟩ := hd 11 72 (by kernel_rfl) (by kernel_rfl) (by show _ < 121; decide)
                        obtain rfl : u72 = .pointer (some ⟨w.heap.size, 1, none⟩) := g72
                        intro ug hgg
                        obtain rfl : ug = .bool true := hgg
                        refine ⟨fun _ => ?_, fun h => absurd rfl h⟩
                        have hq := HC2.out.later hI
                        have q1 := hq.cell (j := 1) rfl
                        have q2 := hq.cell (j := 2) rfl
                        have q3 := hq.cell (j := 3) rfl
                        exact Reg.Gives.value (v := .agg #[.int .i64 t1, .int .i64 t2, .int .i64 t3]) (w' := wi) (by go_simp) (Reg.OwedH.same hI rfl)
                      · obtain rfl := Option.some.inj ho
                        intro ρ wi hE hI hs hd
                        try dsimp only at hI
                        obtain ⟨u73, g73, e73⟩ := hd 12 73 (by kernel_rfl) (by kernel_rfl) (by show _ < 121; decide)
                        obtain rfl : u73 = .agg #[.int .i64 t1, .int .i64 t2, .int .i64 t3] := g73
                        have hf := hE.func
                        intro ug hgg
                        obtain rfl : ug = .bool true := hgg
                        refine ⟨fun _ => ?_, fun h => absurd rfl h⟩
                        refine Reg.Gives.call (f := 19) (args := #[.agg #[.int .i64 t1, .int .i64 t2, .int .i64 t3]]) (w' := wi) (by go_simp) ?_
                        refine (HRT.out wi).mono ?_
                        rintro e w'' ⟨rfl, hbb⟩
                        exact ⟨_, rfl, ⟨rfl, hI.trans (hbb.mono hI.size), fun j u _ _ h => mRef15_G_later hbb h⟩⟩
                      · obtain rfl := Option.some.inj ho
                        intro ρ wi hE hI hs hd
                        try dsimp only at hI
                        obtain ⟨u74, g74, e74⟩ := hd 13 74 (by kernel_rfl) (by kernel_rfl) (by show _ < 121; decide)
                        obtain rfl : u74 = .bool true := g74
                        intro ug hgg
                        obtain rfl : ug = .bool true := hgg
                        refine ⟨fun _ => ?_, fun h => absurd rfl h⟩
                        exact Reg.Gives.value (v := .bool false) (w' := wi) (by go_simp) (Reg.OwedH.same hI rfl)
                      · obtain rfl := Option.some.inj ho
                        intro ρ wi hE hI hs hd
                        try dsimp only at hI
                        obtain ⟨u71, g71, e71⟩ := hd 10 71 (by kernel_rfl) (by kernel_rfl) (by show _ < 121; decide)
                        obtain rfl : u71 = .bool true := g71
                        obtain ⟨u75, g75, e75⟩ := hd 14 75 (by kernel_rfl) (by kernel_rfl) (by show _ < 121; decide)
                        obtain rfl : u75 = .bool false := g75
                        have hc := hE.const
                        intro ug hgg
                        obtain rfl : ug = .bool false := hgg
                        refine ⟨fun _ => ?_, fun h => absurd rfl h⟩
                        exact Reg.Gives.value (v := .bool false) (w' := wi) (by go_simp) (Reg.OwedH.same hI rfl)
                      · obtain rfl := Option.some.inj ho
                        intro ρ wi hE hI hs hd
                        try dsimp only at hI
                        obtain ⟨u68, g68, e68⟩ := hd 7 68 (by kernel_rfl) (by kernel_rfl) (by show _ < 121; decide)
                        obtain rfl : u68 = .bool false := g68
                        obtain ⟨u76, g76, e76⟩ := hd 15 76 (by kernel_rfl) (by kernel_rfl) (by show _ < 121; decide)
                        obtain rfl : u76 = .bool false := g76
                        have hc := hE.const
                        exact Reg.Gives.value (v := .bool false) (w' := wi) (by go_simp) (Reg.OwedH.same hI rfl)
                      · obtain rfl := Option.some.inj ho
                        intro ρ wi hE hI hs hd
                        try dsimp only at hI
                        obtain ⟨u77, g77, e77⟩ := hd 16 77 (by kernel_rfl) (by kernel_rfl) (by show _ < 121; decide)
                        obtain rfl : u77 = .bool false := g77
                        exact Reg.Gives.value (v := .bool false) (w' := wi) (by go_simp) (Reg.OwedH.same hI rfl)
                      · obtain rfl := Option.some.inj ho
                        intro ρ wi hE hI hs hd
                        try dsimp only at hI
                        have e3 : ρ (.tmp 3) = .int .i64 k := hs 3 (by kernel_rfl)
                        intro ug hgg
                        obtain rfl : ug = .bool false := hgg
                        refine ⟨fun _ => ?_, fun h => absurd rfl h⟩
                        exact Reg.Gives.value (v := .int .i64 k) (w' := wi) (by go_simp) (Reg.OwedH.same hI rfl)
                      · obtain rfl := Option.some.inj ho
                        intro ρ wi hE hI hs hd
                        try dsimp only at hI
                        obtain ⟨u79, g79, e79⟩ := hd 18 79 (by kernel_rfl) (by kernel_rfl) (by show _ < 121; decide)
                        obtain rfl : u79 = .int .i64 k := g79
                        have hf := hE.func
                        intro ug hgg
                        obtain rfl : ug = .bool false := hgg
                        refine ⟨fun _ => ?_, fun h => absurd rfl h⟩
                        refine Reg.Gives.call (f := 20) (args := #[.int .i64 k]) (w' := wi) (by go_simp) ?_
                        refine (HSA.out wi).mono ?_
                        rintro e w'' ⟨rfl, rfl⟩
                        exact ⟨_, rfl, Reg.OwedH.same hI rfl⟩
                      · obtain rfl := Option.some.inj ho
                        intro ρ wi hE hI hs hd
                        try dsimp only at hI
                        obtain ⟨u80, g80, e80⟩ := hd 19 80 (by kernel_rfl) (by kernel_rfl) (by show _ < 121; decide)
                        obtain rfl : u80 = .bool false := g80
                        intro ug hgg
                        obtain rfl : ug = .bool false := hgg
                        refine ⟨fun _ => ?_, fun h => absurd rfl h⟩
                        exact Reg.Gives.value (v := .bool true) (w' := wi) (by go_simp) (Reg.OwedH.same hI rfl)
                      · obtain rfl := Option.some.inj ho
                        intro ρ wi hE hI hs hd
                        try dsimp only at hI
                        obtain ⟨u81, g81, e81⟩ := hd 20 81 (by kernel_rfl) (by kernel_rfl) (by show _ < 121; decide)
                        obtain rfl : u81 = .bool true := g81
                        intro ug hgg
                        obtain rfl : ug = .bool false := hgg
                        refine ⟨fun _ => ?_, fun h => absurd rfl h⟩
                        exact Reg.Gives.value (v := .bool true) (w' := wi) (by go_simp) (Reg.OwedH.same hI rfl)
                      · obtain rfl := Option.some.inj ho
                        intro ρ wi hE hI hs hd
                        try dsimp only at hI
                        have e1 : ρ (.tmp 1) = .pointer (some ⟨w.heap.size, 0, none⟩) := hs 1 (by kernel_rfl)
                        intro ug hgg
                        obtain rfl : ug = .bool true := hgg
                        refine ⟨fun _ => ?_, fun h => absurd rfl h⟩
                        exact Reg.Gives.value (v := .pointer (some ⟨w.heap.size, 12, none⟩)) (w' := wi) (by go_simp) (Reg.OwedH.same hI rfl)
                      · obtain rfl := Option.some.inj ho
                        intro ρ wi hE hI hs hd
                        try dsimp only at hI
                        obtain ⟨u83, g83, e83⟩ := hd 22 83 (by kernel_rfl) (by kernel_rfl) (by show _ < 121; decide)
                        obtain rfl : u83 = .pointer (some ⟨w.heap.size, 12, none⟩) := g83
                        intro ug hgg
                        obtain rfl : ug = .bool true := hgg
                        refine ⟨fun _ => ?_, fun h => absurd rfl h⟩
                        have hq := HC2.out.later hI
                        have q12 := hq.cell (j := 12) rfl
                        exact Reg.Gives.value (v := .bool yes) (w' := wi) (by go_simp) (Reg.OwedH.same hI rfl)
                      · obtain rfl := Option.some.inj ho
                        intro ρ wi hE hI hs hd
                        try dsimp only at hI
                        obtain ⟨u82, g82, e82⟩ := hd 21 82 (by kernel_rfl) (by kernel_rfl) (by show _ < 121; decide)
                        obtain rfl : u82 = .bool true := g82
                        obtain ⟨u84, g84, e84⟩ := hd 23 84 (by kernel_rfl) (by kernel_rfl) (by show _ < 121; decide)
                        obtain rfl : u84 = .bool yes := g84
                        have hc := hE.const
                        intro ug hgg
                        obtain rfl : ug = .bool false := hgg
                        refine ⟨fun _ => ?_, fun h => absurd rfl h⟩
                        exact Reg.Gives.value (v := .bool yes) (w' := wi) (by go_simp) (Reg.OwedH.same hI rfl)
                      · obtain rfl := Option.some.inj ho
                        intro ρ wi hE hI hs hd
                        try dsimp only at hI
                        obtain ⟨u78, g78, e78⟩ := hd 17 78 (by kernel_rfl) (by kernel_rfl) (by show _ < 121; decide)
                        obtain rfl : u78 = .bool false := g78
                        obtain ⟨u85, g85, e85⟩ := hd 24 85 (by kernel_rfl) (by kernel_rfl) (by show _ < 121; decide)
                        obtain rfl : u85 = .bool yes := g85
                        have hc := hE.const
                        exact Reg.Gives.value (v := .bool yes) (w' := wi) (by go_simp) (Reg.OwedH.same hI rfl)
                      · omega
                    · intro V wz hV hI
                      have hV25 : V 25 = .bool yes := hV 25 (by decide) rfl
                      simp only [Reg.putsO, List.foldl_cons, List.foldl_nil, Act.put, List.setIfInBounds_toArray, List.set_cons_succ, List.set_cons_zero, hV25]
                      replace hI : (fun a => Below wr.heap.size wr a) wz := hI
                      clear hV hV25
                      have HW := Lib.hid hI
                      clear hI
                      go_wp2_with fail
                      go_meet
                      exact ⟨by simp [q15], HW.out⟩
                  · go_wp2_with fail
                    refine Reg.region_heavy (by kernel_rfl) 25 [25] (mRef15_F w.heap.size k t1 t2 t3) (fun a => Below wr.heap.size wr a) (fun a => Below wr.heap.size wr a) (fun V => [(some 61, V 0), (some 62, V 1), (some 63, V 2), (some 64, V 3), (some 65, V 4), (some 66, V 5), (some 67, V 6), (some 68, V 7), (some 69, V 8), (some 70, V 9), (some 71, V 10), (some 72, V 11), (some 73, V 12), (some 74, V 13), (some 75, V 14), (some 76, V 15), (some 77, V 16), (some 78, V 17), (some 79, V 18), (some 80, V 19), (some 81, V 20), (some 82, V 21), (some 83, V 22), (some 84, V 23), (some 85, V 24), (some 86, V 25)]) (by kernel_rfl) (by kernel_rfl) (by kernel_rfl) (fun V => rfl) ?_ ?_ ?_
                    · exact (Below.refl _ _).drew
                    · intro i o ho
                      have hi : i < 26 := (Array.getElem?_eq_some_iff.1 ho).1
                      rcases i with _ | _ | _ | _ | _ | _ | _ | _ | _ | _ | _ | _ | _ | _ | _ | _ | _ | _ | _ | _ | _ | _ | _ | _ | _ | _ | i
                      · obtain rfl := Option.some.inj ho
                        intro ρ wi hE hI hs hd
                        try dsimp only at hI
                        have e3 : ρ (.tmp 3) = .int .i64 k := hs 3 (by kernel_rfl)
                        exact Reg.Gives.value (v := .int .i64 k) (w' := wi) (by go_simp) (Reg.OwedH.same hI rfl)
                      · obtain rfl := Option.some.inj ho
                        intro ρ wi hE hI hs hd
                        try dsimp only at hI
                        obtain ⟨u61, g61, e61⟩ := hd 0 61 (by kernel_rfl) (by kernel_rfl) (by show _ < 121; decide)
                        obtain rfl : u61 = .int .i64 k := g61
                        have hf := hE.func
                        refine Reg.Gives.call (f := 18) (args := #[.int .i64 k]) (w' := wi) (by go_simp) ?_
                        refine (HNA.out wi).mono ?_
                        rintro e w'' ⟨rfl, rfl⟩
                        exact ⟨_, rfl, Reg.OwedH.same hI rfl⟩
                      · obtain rfl := Option.some.inj ho
                        intro ρ wi hE hI hs hd
                        try dsimp only at hI
                        have e1 : ρ (.tmp 1) = .pointer (some ⟨w.heap.size, 0, none⟩) := hs 1 (by kernel_rfl)
                        exact Reg.Gives.value (v := .pointer (some ⟨w.heap.size, 1, none⟩)) (w' := wi) (by go_simp) (Reg.OwedH.same hI rfl)
                      · obtain rfl := Option.some.inj ho
                        intro ρ wi hE hI hs hd
                        try dsimp only at hI
                        obtain ⟨u63, g63, e63⟩ := hd 2 63 (by kernel_rfl) (by kernel_rfl) (by show _ < 121; decide)
                        obtain rfl : u63 = .pointer (some ⟨w.heap.size, 1, none⟩) := g63
                        have hq := HC2.out.later hI
                        have q1 := hq.cell (j := 1) rfl
                        have q2 := hq.cell (j := 2) rfl
                        have q3 := hq.cell (j := 3) rfl
                        exact Reg.Gives.value (v := .agg #[.int .i64 t1, .int .i64 t2, .int .i64 t3]) (w' := wi) (by go_simp) (Reg.OwedH.same hI rfl)
                      · obtain rfl := Option.some.inj ho
                        intro ρ wi hE hI hs hd
                        try dsimp only at hI
                        exact Reg.Gives.value (v := .agg #[.int .i64 0, .int .i64 0, .int .i64 0]) (w' := wi) (by go_simp) (Reg.OwedH.same hI rfl)
                      · obtain rfl := Option.some.inj ho
                        intro ρ wi hE hI hs hd
                        try dsimp only at hI
                        obtain ⟨u64, g64, e64⟩ := hd 3 64 (by kernel_rfl) (by kernel_rfl) (by show _ < 121; decide)
                        obtain rfl : u64 = .agg #[.int .i64 t1, .int .i64 t2, .int .i64 t3] := g64
                        obtain ⟨u65, g65, e65⟩ := hd 4 65 (by kernel_rfl) (by kernel_rfl) (by show _ < 121; decide)
                        obtain rfl : u65 = .agg #[.int .i64 0, .int .i64 0, .int .i64 0] := g65
                        exact Reg.Gives.value (v := .bool true) (w' := wi) (by go_simp; exact HTT.out) (Reg.OwedH.same hI rfl)
                      · obtain rfl := Option.some.inj ho
                        intro ρ wi hE hI hs hd
                        try dsimp only at hI
                        obtain ⟨u62, g62, e62⟩ := hd 1 62 (by kernel_rfl) (by kernel_rfl) (by show _ < 121; decide)
                        obtain rfl : u62 = .bool true := g62
                        obtain ⟨u66, g66, e66⟩ := hd 5 66 (by kernel_rfl) (by kernel_rfl) (by show _ < 121; decide)
                        obtain rfl : u66 = .bool true := g66
                        exact Reg.Gives.value (v := .bool false) (w' := wi) (by go_simp) (Reg.OwedH.same hI rfl)
                      · obtain rfl := Option.some.inj ho
                        intro ρ wi hE hI hs hd
                        try dsimp only at hI
                        obtain ⟨u67, g67, e67⟩ := hd 6 67 (by kernel_rfl) (by kernel_rfl) (by show _ < 121; decide)
                        obtain rfl : u67 = .bool false := g67
                        exact Reg.Gives.value (v := .bool false) (w' := wi) (by go_simp) (Reg.OwedH.same hI rfl)
                      · obtain rfl := Option.some.inj ho
                        intro ρ wi hE hI hs hd
                        try dsimp only at hI
                        have e3 : ρ (.tmp 3) = .int .i64 k := hs 3 (by kernel_rfl)
                        intro ug hgg
                        obtain rfl : ug = .bool false := hgg
                        refine ⟨fun _ => ?_, fun h => absurd rfl h⟩
                        exact Reg.Gives.value (v := .int .i64 k) (w' := wi) (by go_simp) (Reg.OwedH.same hI rfl)
                      · obtain rfl := Option.some.inj ho
                        intro ρ wi hE hI hs hd
                        try dsimp only at hI
                        obtain ⟨u69, g69, e69⟩ := hd 8 69 (by kernel_rfl) (by kernel_rfl) (by show _ < 121; decide)
                        obtain rfl : u69 = .int .i64 k := g69
                        have hf := hE.func
                        intro ug hgg
                        obtain rfl : ug = .bool false := hgg
                        refine ⟨fun _ => ?_, fun h => absurd rfl h⟩
                        refine Reg.Gives.call (f := 18) (args := #[.int .i64 k]) (w' := wi) (by go_simp) ?_
                        refine (HNA.out wi).mono ?_
                        rintro e w'' ⟨rfl, rfl⟩
                        exact ⟨_, rfl, Reg.OwedH.same hI rfl⟩
                      · obtain rfl := Option.some.inj ho
                        intro ρ wi hE hI hs hd
                        try dsimp only at hI
                        obtain ⟨u70, g70, e70⟩ := hd 9 70 (by kernel_rfl) (by kernel_rfl) (by show _ < 121; decide)
                        obtain rfl : u70 = .bool true := g70
                        intro ug hgg
                        obtain rfl : ug = .bool false := hgg
                        refine ⟨fun _ => ?_, fun h => absurd rfl h⟩
                        exact Reg.Gives.value (v := .bool true) (w' := wi) (by go_simp) (Reg.OwedH.same hI rfl)
                      · obtain rfl := Option.some.inj ho
                        intro ρ wi hE hI hs hd
                        try dsimp only at hI
                        have e1 : ρ (.tmp 1) = .pointer (some ⟨w.heap.size, 0, none⟩) := hs 1 (by kernel_rfl)
                        intro ug hgg
                        obtain rfl : ug = .bool true := hgg
                        refine ⟨fun _ => ?_, fun h => absurd rfl h⟩
                        exact Reg.Gives.value (v := .pointer (some ⟨w.heap.size, 1, none⟩)) (w' := wi) (by go_simp) (Reg.OwedH.same hI rfl)
                      · obtain rfl := Option.some.inj ho
                        intro ρ wi hE hI hs hd
                        try dsimp only at hI
                        obtain ⟨u72, g72, e72⟩ := hd 11 72 (by kernel_rfl) (by kernel_rfl) (by show _ < 121; decide)
                        obtain rfl : u72 = .pointer (some ⟨w.heap.size, 1, none⟩) := g72
                        intro ug hgg
                        obtain rfl : ug = .bool true := hgg
                        refine ⟨fun _ => ?_, fun h => absurd rfl h⟩
                        have hq := HC2.out.later hI
                        have q1 := hq.cell (j := 1) rfl
                        have q2 := hq.cell (j := 2) rfl
                        have q3 := hq.cell (j := 3) rfl
                        exact Reg.Gives.value (v := .agg #[.int .i64 t1, .int .i64 t2, .int .i64 t3]) (w' := wi) (by go_simp) (Reg.OwedH.same hI rfl)
                      · obtain rfl := Option.some.inj ho
                        intro ρ wi hE hI hs hd
                        try dsimp only at hI
                        obtain ⟨u73, g73, e73⟩ := hd 12 73 (by kernel_rfl) (by kernel_rfl) (by show _ < 121; decide)
                        obtain rfl : u73 = .agg #[.int .i64 t1, .int .i64 t2, .int .i64 t3] := g73
                        have hf := hE.func
                        intro ug hgg
                        obtain rfl : ug = .bool true := hgg
                        refine ⟨fun _ => ?_, fun h => absurd rfl h⟩
                        refine Reg.Gives.call (f := 19) (args := #[.agg #[.int .i64 t1, .int .i64 t2, .int .i64 t3]]) (w' := wi) (by go_simp) ?_
                        refine (HRT.out wi).mono ?_
                        rintro e w'' ⟨rfl, hbb⟩
                        exact ⟨_, rfl, ⟨rfl, hI.trans (hbb.mono hI.size), fun j u _ _ h => mRef15_F_later hbb h⟩⟩
                      · obtain rfl := Option.some.inj ho
                        intro ρ wi hE hI hs hd
                        try dsimp only at hI
                        obtain ⟨u74, g74, e74⟩ := hd 13 74 (by kernel_rfl) (by kernel_rfl) (by show _ < 121; decide)
                        obtain rfl : u74 = .bool true := g74
                        intro ug hgg
                        obtain rfl : ug = .bool true := hgg
                        refine ⟨fun _ => ?_, fun h => absurd rfl h⟩
                        exact Reg.Gives.value (v := .bool false) (w' := wi) (by go_simp) (Reg.OwedH.same hI rfl)
                      · obtain rfl := Option.some.inj ho
                        intro ρ wi hE hI hs hd
                        try dsimp only at hI
                        obtain ⟨u71, g71, e71⟩ := hd 10 71 (by kernel_rfl) (by kernel_rfl) (by show _ < 121; decide)
                        obtain rfl : u71 = .bool true := g71
                        obtain ⟨u75, g75, e75⟩ := hd 14 75 (by kernel_rfl) (by kernel_rfl) (by show _ < 121; decide)
                        obtain rfl : u75 = .bool false := g75
                        have hc := hE.const
                        intro ug hgg
                        obtain rfl : ug = .bool false := hgg
                        refine ⟨fun _ => ?_, fun h => absurd rfl h⟩
                        exact Reg.Gives.value (v := .bool false) (w' := wi) (by go_simp) (Reg.OwedH.same hI rfl)
                      · obtain rfl := Option.some.inj ho
                        intro ρ wi hE hI hs hd
                        try dsimp only at hI
                        obtain ⟨u68, g68, e68⟩ := hd 7 68 (by kernel_rfl) (by kernel_rfl) (by show _ < 121; decide)
                        obtain rfl : u68 = .bool false := g68
                        obtain ⟨u76, g76, e76⟩ := hd 15 76 (by kernel_rfl) (by kernel_rfl) (by show _ < 121; decide)
                        obtain rfl : u76 = .bool false := g76
                        have hc := hE.const
                        exact Reg.Gives.value (v := .bool false) (w' := wi) (by go_simp) (Reg.OwedH.same hI rfl)
                      · obtain rfl := Option.some.inj ho
                        intro ρ wi hE hI hs hd
                        try dsimp only at hI
                        obtain ⟨u77, g77, e77⟩ := hd 16 77 (by kernel_rfl) (by kernel_rfl) (by show _ < 121; decide)
                        obtain rfl : u77 = .bool false := g77
                        exact Reg.Gives.value (v := .bool false) (w' := wi) (by go_simp) (Reg.OwedH.same hI rfl)
                      · obtain rfl := Option.some.inj ho
                        intro ρ wi hE hI hs hd
                        try dsimp only at hI
                        have e3 : ρ (.tmp 3) = .int .i64 k := hs 3 (by kernel_rfl)
                        intro ug hgg
                        obtain rfl : ug = .bool false := hgg
                        refine ⟨fun _ => ?_, fun h => absurd rfl h⟩
                        exact Reg.Gives.value (v := .int .i64 k) (w' := wi) (by go_simp) (Reg.OwedH.same hI rfl)
                      · obtain rfl := Option.some.inj ho
                        intro ρ wi hE hI hs hd
                        try dsimp only at hI
                        obtain ⟨u79, g79, e79⟩ := hd 18 79 (by kernel_rfl) (by kernel_rfl) (by show _ < 121; decide)
                        obtain rfl : u79 = .int .i64 k := g79
                        have hf := hE.func
                        intro ug hgg
                        obtain rfl : ug = .bool false := hgg
                        refine ⟨fun _ => ?_, fun h => absurd rfl h⟩
                        refine Reg.Gives.call (f := 20) (args := #[.int .i64 k]) (w' := wi) (by go_simp) ?_
                        refine (HSA.out wi).mono ?_
                        rintro e w'' ⟨rfl, rfl⟩
                        exact ⟨_, rfl, Reg.OwedH.same hI rfl⟩
                      · obtain rfl := Option.some.inj ho
                        intro ρ wi hE hI hs hd
                        try dsimp only at hI
                        obtain ⟨u80, g80, e80⟩ := hd 19 80 (by kernel_rfl) (by kernel_rfl) (by show _ < 121; decide)
                        obtain rfl : u80 = .bool true := g80
                        intro ug hgg
                        obtain rfl : ug = .bool false := hgg
                        refine ⟨fun _ => ?_, fun h => absurd rfl h⟩
                        exact Reg.Gives.value (v := .bool false) (w' := wi) (by go_simp) (Reg.OwedH.same hI rfl)
                      · obtain rfl := Option.some.inj ho
                        intro ρ wi hE hI hs hd
                        try dsimp only at hI
                        obtain ⟨u81, g81, e81⟩ := hd 20 81 (by kernel_rfl) (by kernel_rfl) (by show _ < 121; decide)
                        obtain rfl : u81 = .bool false := g81
                        intro ug hgg
                        obtain rfl : ug = .bool false := hgg
                        refine ⟨fun _ => ?_, fun h => absurd rfl h⟩
                        exact Reg.Gives.value (v := .bool false) (w' := wi) (by go_simp) (Reg.OwedH.same hI rfl)
                      · obtain rfl := Option.some.inj ho
                        intro ρ wi hE hI hs hd
                        try dsimp only at hI
                        have e1 : ρ (.tmp 1) = .pointer (some ⟨w.heap.size, 0, none⟩) := hs 1 (by kernel_rfl)
                        intro ug hgg
                        obtain rfl : ug = .bool false := hgg
                        exact ⟨fun h => (by cases h), fun _ => ⟨rfl, hI⟩⟩
                      · obtain rfl := Option.some.inj ho
                        intro ρ wi hE hI hs hd
                        try dsimp only at hI
                        obtain ⟨u83, g83, e83⟩ := hd 22 83 (by kernel_rfl) (by kernel_rfl) (by show _ < 121; decide)
                        obtain rfl : u83 = undef := g83
                        intro ug hgg
                        obtain rfl : ug = .bool false := hgg
                        exact ⟨fun h => (by cases h), fun _ => ⟨rfl, hI⟩⟩
                      · obtain rfl := Option.some.inj ho
                        intro ρ wi hE hI hs hd
                        try dsimp only at hI
                        obtain ⟨u82, g82, e82⟩ := hd 21 82 (by kernel_rfl) (by kernel_rfl) (by show _ < 121; decide)
                        obtain rfl : u82 = .bool false := g82
                        obtain ⟨u84, g84, e84⟩ := hd 23 84 (by kernel_rfl) (by kernel_rfl) (by show _ < 121; decide)
                        obtain rfl : u84 = undef := g84
                        have hc := hE.const
                        intro ug hgg
                        obtain rfl : ug = .bool false := hgg
                        refine ⟨fun _ => ?_, fun h => absurd rfl h⟩
                        exact Reg.Gives.value (v := .bool false) (w' := wi) (by go_simp) (Reg.OwedH.same hI rfl)
                      · obtain rfl := Option.some.inj ho
                        intro ρ wi hE hI hs hd
                        try dsimp only at hI
                        obtain ⟨u78, g78, e78⟩ := hd 17 78 (by kernel_rfl) (by kernel_rfl) (by show _ < 121; decide)
                        obtain rfl : u78 = .bool false := g78
                        obtain ⟨u85, g85, e85⟩ := hd 24 85 (by kernel_rfl) (by kernel_rfl) (by show _ < 121; decide)
                        obtain rfl : u85 = .bool false := g85
                        have hc := hE.const
                        exact Reg.Gives.value (v := .bool false) (w' := wi) (by go_simp) (Reg.OwedH.same hI rfl)
                      · omega
                    · intro V wz hV hI
                      have hV25 : V 25 = .bool false := hV 25 (by decide) rfl
                      simp only [Reg.putsO, List.foldl_cons, List.foldl_nil, Act.put, List.setIfInBounds_toArray, List.set_cons_succ, List.set_cons_zero, hV25]
                      replace hI : (fun a => Below wr.heap.size wr a) wz := hI
                      clear hV hV25
                      have HW := Lib.hid hI
                      clear hI
                      go_wp2_with fail
                      go_meet
                      exact ⟨by simp [q15], HW.out⟩
          case rest =>
            obtain ⟨rfl, hbc⟩ := hcut
            obtain ⟨b5, hb5⟩ : ∃ b5, q15 nm tz rt sb yes = b5 := ⟨_, rfl⟩
            rw [hb5] at HZ3 ⊢
            clear hb5 q0 q1 q2 q3 q4 q5 q6 q7 q8 q9 q10 q11 q12
            obtain ⟨wa, hwa⟩ : ∃ wa, wa = wc := ⟨_, rfl⟩
            rw [← hwa] at hbc ⊢
            have HBA := Lib.hid (HBW.out.trans (hbc.mono HBW.out.size))
            have hcf := HC2.out.later hbc
            have HCA := Lib.hid hcf
            have q0 := hcf.cell (j := 0) rfl
            have q1 := hcf.cell (j := 1) rfl
            have q2 := hcf.cell (j := 2) rfl
            have q3 := hcf.cell (j := 3) rfl
            have q4 := hcf.cell (j := 4) rfl
            have q5 := hcf.cell (j := 5) rfl
            have q6 := hcf.cell (j := 6) rfl
            have q7 := hcf.cell (j := 7) rfl
            have q8 := hcf.cell (j := 8) rfl
            have q9 := hcf.cell (j := 9) rfl
            have q10 := hcf.cell (j := 10) rfl
            have q11 := hcf.cell (j := 11) rfl
            have q12 := hcf.cell (j := 12) rfl
            clear hcf hbc hwa
            cases b5
            · rw [Bool.not_false, Bool.true_and] at HZ3
              go_upto_region 17 with fail
              go_cut [103] from 87 to 103 (fun x wx => x = .bool (q17 e9 bL ri) ∧ Below wa.heap.size wa wx)
              case first =>
                have y9 := He9.out
                have yL := HbL.out
                cases e9
                · cases bL
                  · go_wp2_with fail
                    go_meet
                    exact ⟨by simp [q17], Below.refl _ _⟩
                  · go_wp2_with fail
                    go_meet
                    exact ⟨by simp [q17], Below.refl _ _⟩
                · cases bL
                  · go_wp2_with fail
                    go_meet
                    exact ⟨by simp [q17], Below.refl _ _⟩
                  · go_wp2_with fail
                    refine (HRI.out _ HBA.out).mono ?_
                    rintro e w6 ⟨rfl, hb6⟩
                    have HB6 := Lib.hid hb6
                    clear hb6 q0 q1 q2 q3 q4 q5 q6 q7 q8 q9 q10 q11 q12
                    go_wp2_with fail
                    go_meet
                    exact ⟨by simp [q17], HB6.out⟩
              case rest =>
                obtain ⟨rfl, hbd⟩ := hcut
                obtain ⟨b7, hb7⟩ : ∃ b7, q17 e9 bL ri = b7 := ⟨_, rfl⟩
                rw [hb7] at HZ3 ⊢
                clear hb7 q0 q1 q2 q3 q4 q5 q6 q7 q8 q9 q10 q11 q12
                obtain ⟨wb, hwb⟩ : ∃ wb, wb = wc := ⟨_, rfl⟩
                rw [← hwb] at hbd ⊢
                have HBB := Lib.hid (HBA.out.trans (hbd.mono HBA.out.size))
                have hcf := HCA.out.later hbd
                have q0 := hcf.cell (j := 0) rfl
                have q1 := hcf.cell (j := 1) rfl
                have q2 := hcf.cell (j := 2) rfl
                have q3 := hcf.cell (j := 3) rfl
                have q4 := hcf.cell (j := 4) rfl
                have q5 := hcf.cell (j := 5) rfl
                have q6 := hcf.cell (j := 6) rfl
                have q7 := hcf.cell (j := 7) rfl
                have q8 := hcf.cell (j := 8) rfl
                have q9 := hcf.cell (j := 9) rfl
                have q10 := hcf.cell (j := 10) rfl
                have q11 := hcf.cell (j := 11) rfl
                have q12 := hcf.cell (j := 12) rfl
                clear hcf hbd hwb
                cases b7
                · rw [Bool.not_false, Bool.true_and] at HZ3
                  have y9 := He9.out
                  have y7 := He7.out
                  have ym : ((M : Int) == 0) = m0 := by
                    rw [← Hm0.out]
                    by_cases h : M = 0
                    · simp [h]
                    · have : ¬ (M : Int) = 0 := by omega
                      simp [h]
                  cases e7
                  · cases e9
                    · cases m0
                      · go_wp2_with fail
                        go_returns
                        exact ⟨ret_bool (by rw [HZ3.out]; simp [q19]), HBB.out⟩
                      · go_wp2_with fail
                        refine (HRN.out _ HBB.out).mono ?_
                        rintro e w8 ⟨rfl, hb8⟩
                        have HB8 := Lib.hid (HBB.out.trans (hb8.mono HBB.out.size))
                        clear hb8 q0 q1 q2 q3 q4 q5 q6 q7 q8 q9 q10 q11 q12
                        go_wp2_with fail
                        go_returns
                        exact ⟨ret_bool (by rw [HZ3.out]; simp [q19]), HB8.out⟩
                    · go_wp2_with fail
                      refine (HRN.out _ HBB.out).mono ?_
                      rintro e w8 ⟨rfl, hb8⟩
                      have HB8 := Lib.hid (HBB.out.trans (hb8.mono HBB.out.size))
                      clear hb8 q0 q1 q2 q3 q4 q5 q6 q7 q8 q9 q10 q11 q12
                      go_wp2_with fail
                      go_returns
                      exact ⟨ret_bool (by rw [HZ3.out]; simp [q19]), HB8.out⟩
                  · go_wp2_with fail
                    refine (HRN.out _ HBB.out).mono ?_
                    rintro e w8 ⟨rfl, hb8⟩
                    have HB8 := Lib.hid (HBB.out.trans (hb8.mono HBB.out.size))
                    clear hb8 q0 q1 q2 q3 q4 q5 q6 q7 q8 q9 q10 q11 q12
                    go_wp2_with fail
                    go_returns
                    exact ⟨ret_bool (by rw [HZ3.out]; simp [q19]), HB8.out⟩
                · have HZ2 : Hid (Z = false) := Lib.hid (by rw [HZ3.out]; rfl)
                  go_wp2_with fail
                  go_returns
                  exact ⟨ret_bool HZ2.out, HBB.out⟩
            · have HZ2 : Hid (Z = false) := Lib.hid (by rw [HZ3.out]; rfl)
              go_wp2_with fail
              go_returns
              exact ⟨ret_bool HZ2.out, HBA.out⟩
        · have HZ2 : Hid (Z = false) := Lib.hid (by rw [HZ3.out]; rfl)
          go_wp2_with fail
          go_returns
          exact ⟨ret_bool HZ2.out, HBW.out⟩
end Go.Proofs.Ytfnkjdkckpdfhaa.Msg
