/-
  Layer 6: how names of transactions stand, and whether they are right: what the code does, and the document's own answers. Conditions: none.
-/
import Derived.Test.YtjeogeablbkhgaaBig
import Derived.Test.YtjeogeablbkhgaaReg3
import Derived.BigRegion
namespace Go.Proofs.Ytjeogeablbkhgaa.Item
open Go.RowKit Go.Proofs.Ytjeogeablbkhgaa.Mem

/-- A name. -/
structure Tid where
  node : Int
  epoch : Int
  seq : Int
def Tid.vals (t : Tid) : List Value := [.int .i64 t.node, .int .i64 t.epoch, .int .i64 t.seq]
def Tid.val (t : Tid) : Value := .agg #[.int .i64 t.node, .int .i64 t.epoch, .int .i64 t.seq]
/-- How two numbers stand. -/
def cmpI (a b : Int) : Int := if a < b then -1 else if b < a then 1 else 0
/-- The first one that isn't 0. -/
def firstNZ : List Int → Int
  | [] => 0
  | x :: l => if x = 0 then firstNZ l else x
/-- How two names stand. -/
def ord (a b : Tid) : Int := firstNZ [cmpI a.node b.node, cmpI a.epoch b.epoch, cmpI a.seq b.seq]
theorem firstNZ_take (l : List Int) (k : Nat) (h : k < l.length) (hz : ∀ j (hj : j < k), l[j] = 0) (hn : l[k] ≠ 0) : firstNZ l = l[k] := by
  induction l generalizing k with
  | nil => simp at h
  | cons x l ih =>
    cases k with
    | zero => simp only [List.getElem_cons_zero] at hn ⊢; simp [firstNZ, hn]
    | succ k =>
      have h0 := hz 0 (by omega)
      simp only [List.getElem_cons_zero] at h0
      simp only [List.getElem_cons_succ] at hn ⊢
      rw [firstNZ, if_pos h0]
      exact ih k (by simpa using h) (fun j hj => by have := hz (j + 1) (by omega); simpa using this) hn
theorem firstNZ_all (l : List Int) (hz : ∀ j (hj : j < l.length), l[j] = 0) : firstNZ l = 0 := by
  induction l with
  | nil => rfl
  | cons x l ih =>
    have h0 := hz 0 (by simp)
    simp only [List.getElem_cons_zero] at h0
    rw [firstNZ, if_pos h0]
    exact ih fun j hj => by have := hz (j + 1) (by simpa using hj); simpa using this

theorem cells_nums {w : World} {k : Nat} {t : TypeId} {l : List Int} (h : Cells w k t (l.map (Value.int .i64))) : ∀ j (hj : j < l.length), w.cell? ⟨k, 0 + j, none⟩ = some (.int .i64 l[j]) := fun j hj => by
  rw [Nat.zero_add]
  exact h.cell (by simp [hj])

theorem isNaN_any (n : Int) (w : World) : Calls Try.prog 51 #[.int .i64 n] w fun e w' => e = .returned (.bool false) ∧ w = w' := by
  go_enter Try.func51, Try.ntmps51
  go_wp2
  go_returns
  exact ⟨ret_val (by simp), rfl⟩
theorem compare_any (a b : Int) (w : World) : Calls Try.prog 45 #[.int .i64 a, .int .i64 b] w fun e w' => e = .returned (.int .i64 (cmpI a b)) ∧ w = w' := by
  have h1 := isNaN_any a
  have h2 := isNaN_any b
  have HV := Lib.hid (show cmpI a b = if a < b then -1 else if b < a then 1 else 0 from rfl)
  go_enter Try.func45, Try.ntmps45
  go_wp2_with fail
  refine (h1 _).mono ?_
  rintro e w1 ⟨rfl, rfl⟩
  go_wp2_with fail
  refine (h2 _).mono ?_
  rintro e w1 ⟨rfl, rfl⟩
  clear h1 h2
  by_cases c1 : a < b
  · rw [if_pos c1] at HV
    go_wp2
    go_returns
    exact ⟨ret_int HV.out.symm, rfl⟩
  · rw [if_neg c1] at HV
    by_cases c2 : b < a
    · rw [if_pos c2] at HV
      go_wp2
      go_returns
      exact ⟨ret_int HV.out.symm, rfl⟩
    · rw [if_neg c2] at HV
      go_wp2
      go_returns
      exact ⟨ret_int HV.out.symm, rfl⟩
end Go.Proofs.Ytjeogeablbkhgaa.Item
