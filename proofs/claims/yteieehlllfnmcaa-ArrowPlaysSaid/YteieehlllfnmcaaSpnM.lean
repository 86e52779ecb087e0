/-
  Layer 15 without memory: paths, steps, neighbours of the tree of at most 16 nodes, and all that is asked of them, tried node by node. Conditions: none.
-/
import Derived.Test.YteieehlllfnmcaaInts
namespace Go.Proofs.Yteieehlllfnmcaa.Spn
set_option maxRecDepth 100000
def goP : Nat → Nat → Nat → List Nat → List Nat → List Nat × Nat × List Nat
  | 0, a, _, u, d => (u, a, d)
  | f + 1, a, b, u, d => if a = b then (u, a, d) else if b < a then goP f (a / 2) b (u ++ [a]) d else goP f a (b / 2) u (d ++ [b])
theorem goP_eq : ∀ (f a : Nat) (u d : List Nat), goP f a a u d = (u, a, d)
  | 0, _, _, _ => rfl
  | f + 1, a, u, d => by rw [goP, if_pos rfl]
theorem goP_up {f a b : Nat} (h : b < a) (u d : List Nat) : goP (f + 1) a b u d = goP f (a / 2) b (u ++ [a]) d := by rw [goP, if_neg (by omega), if_pos h]
theorem goP_down {f a b : Nat} (h : a < b) (u d : List Nat) : goP (f + 1) a b u d = goP f a (b / 2) u (d ++ [b]) := by rw [goP, if_neg (by omega), if_neg (by omega)]
theorem goP_len : ∀ (f a b : Nat) (u d : List Nat), (goP f a b u d).1.length + (goP f a b u d).2.2.length ≤ u.length + d.length + f
  | 0, a, b, u, d => by simp [goP]
  | f + 1, a, b, u, d => by
    rw [goP]
    split
    · dsimp only; omega
    · split
      · have := goP_len f (a / 2) b (u ++ [a]) d
        simp only [List.length_append, List.length_singleton] at this
        omega
      · have := goP_len f a (b / 2) u (d ++ [b])
        simp only [List.length_append, List.length_singleton] at this
        omega
/-- The path of two nodes. -/
def pathL (a b : Nat) : List Nat := (goP 40 a b [] []).1 ++ (goP 40 a b [] []).2.1 :: (goP 40 a b [] []).2.2.reverse
def dst (a b : Nat) : Nat := (pathL a b).length - 1
def nxt (a b : Nat) : Nat := ((pathL a b)[1]?).getD 0
def edgeB (a b : Nat) : Bool := (decide (1 < a) && a / 2 == b) || (decide (1 < b) && b / 2 == a)
def childL (n m : Nat) : List Nat := List.range' (2 * n) (min (2 * n + 1) m + 1 - 2 * n)
def nearL (n m : Nat) : List Nat := (if n / 2 = 0 then [] else [n / 2]) ++ childL n m
def mx (l : List Nat) : Nat := l.foldl max 0
def farL (m : Nat) : Nat := mx ((List.range' 1 m).map fun n => dst m n)
def farD (m : Nat) : Nat := mx ((List.range' 1 m).flatMap fun a => (List.range' 1 m).map fun b => dst b a)
def R16 : List Nat := List.range' 1 16
theorem mem16 {a : Nat} (h1 : 1 ≤ a) (h2 : a ≤ 16) : a ∈ R16 := by unfold R16; rw [List.mem_range'_1]; omega
/-- All that is asked of two nodes. -/
def okAB (a b : Nat) : Bool :=
  (decide (dst a b = 0) == decide (a = b)) && (decide (dst a b < max a b) && (decide (dst a b = dst b a) && (decide (pathL b a = (pathL a b).reverse) && (decide ((pathL a b).length = dst a b + 1) &&
  (decide (dst a b ≤ Nat.log2 a + Nat.log2 b) && ((pathL a b).all (fun x => decide (1 ≤ x) && decide (x ≤ max a b)) && (decide (pathL a b).Nodup &&
  (decide (a = b) || (decide (pathL a b = a :: pathL (nxt a b) b) && (edgeB a (nxt a b) && (decide (dst (nxt a b) b + 1 = dst a b) && (decide (1 ≤ nxt a b) && decide (nxt a b ≤ max a b)))))))))))))
/-- All that is asked of three. -/
def okABC (a b c : Nat) : Bool := !edgeB a b || (decide (dst b c ≤ dst a c + 1) && (decide (dst b c + 1 ≠ dst a c) || decide (b = nxt a c)))
def okM (m : Nat) : Bool := decide (farL m = farD m) && (R16.all fun n => decide (m < n) || (decide (nearL n m = R16.filter fun x => edgeB n x && decide (x ≤ m)) && decide (childL n m = R16.filter fun x => edgeB n x && (decide (x ≤ m) && decide (n < x)))))
def okAll : Bool := R16.all fun a => okM a && R16.all fun b => okAB a b && R16.all fun c => okABC a b c
theorem all_ok : okAll = true := by kernel_rfl
section
variable {a b c m n : Nat}
theorem ok_m (h1 : 1 ≤ m) (h2 : m ≤ 16) : okM m = true := by
  have h := List.all_eq_true.1 all_ok m (mem16 h1 h2)
  rw [Bool.and_eq_true] at h
  exact h.1
theorem ok_ab (h1 : 1 ≤ a) (h2 : a ≤ 16) (h3 : 1 ≤ b) (h4 : b ≤ 16) : okAB a b = true := by
  have h := List.all_eq_true.1 all_ok a (mem16 h1 h2)
  rw [Bool.and_eq_true] at h
  have h := List.all_eq_true.1 h.2 b (mem16 h3 h4)
  rw [Bool.and_eq_true] at h
  exact h.1
theorem ok_abc (h1 : 1 ≤ a) (h2 : a ≤ 16) (h3 : 1 ≤ b) (h4 : b ≤ 16) (h5 : 1 ≤ c) (h6 : c ≤ 16) : okABC a b c = true := by
  have h := List.all_eq_true.1 all_ok a (mem16 h1 h2)
  rw [Bool.and_eq_true] at h
  have h := List.all_eq_true.1 h.2 b (mem16 h3 h4)
  rw [Bool.and_eq_true] at h
  exact List.all_eq_true.1 h.2 c (mem16 h5 h6)
/-- What two nodes' path is like. -/
structure AB (a b : Nat) : Prop where
  zero : dst a b = 0 ↔ a = b
  few : dst a b < max a b
  sym : dst a b = dst b a
  back : pathL b a = (pathL a b).reverse
  len : (pathL a b).length = dst a b + 1
  log : dst a b ≤ Nat.log2 a + Nat.log2 b
  mem : ∀ x ∈ pathL a b, 1 ≤ x ∧ x ≤ max a b
  nod : (pathL a b).Nodup
  next : a ≠ b → pathL a b = a :: pathL (nxt a b) b ∧ edgeB a (nxt a b) = true ∧ dst (nxt a b) b + 1 = dst a b ∧ 1 ≤ nxt a b ∧ nxt a b ≤ max a b
theorem AB.of (h1 : 1 ≤ a) (h2 : a ≤ 16) (h3 : 1 ≤ b) (h4 : b ≤ 16) : AB a b := by
  have h := ok_ab h1 h2 h3 h4
  unfold okAB at h
  simp only [Bool.and_eq_true, decide_eq_true_eq, beq_iff_eq, Bool.or_eq_true, List.all_eq_true] at h
  obtain ⟨k1, k2, k3, k4, k5, k6, k7, k8, k9⟩ := h
  exact ⟨by simpa using k1, k2, k3, k4, k5, k6, k7, k8, fun hn => (k9.resolve_left hn)⟩
theorem abc_le (h1 : 1 ≤ a) (h2 : a ≤ 16) (h3 : 1 ≤ b) (h4 : b ≤ 16) (h5 : 1 ≤ c) (h6 : c ≤ 16) (he : edgeB a b = true) : dst b c ≤ dst a c + 1 ∧ (dst b c + 1 = dst a c → b = nxt a c) := by
  have h := ok_abc h1 h2 h3 h4 h5 h6
  unfold okABC at h
  rw [he] at h
  simp only [Bool.not_true, Bool.false_or, Bool.and_eq_true, decide_eq_true_eq, Bool.or_eq_true] at h
  exact ⟨h.1, fun e => h.2.resolve_left fun k => k e⟩
theorem far_eq (h1 : 1 ≤ m) (h2 : m ≤ 16) : farL m = farD m := by
  have h := ok_m h1 h2
  unfold okM at h
  simp only [Bool.and_eq_true, decide_eq_true_eq] at h
  exact h.1
theorem near_eq (h1 : 1 ≤ m) (h2 : m ≤ 16) (h3 : 1 ≤ n) (h4 : n ≤ m) : nearL n m = (R16.filter fun x => edgeB n x && decide (x ≤ m)) ∧ childL n m = R16.filter fun x => edgeB n x && (decide (x ≤ m) && decide (n < x)) := by
  have h := ok_m h1 h2
  unfold okM at h
  simp only [Bool.and_eq_true, decide_eq_true_eq, List.all_eq_true] at h
  have h := h.2 n (mem16 h3 (by omega))
  simp only [Bool.and_eq_true, Bool.or_eq_true, decide_eq_true_eq] at h
  exact h.resolve_left (by omega)
end
end Go.Proofs.Yteieehlllfnmcaa.Spn
