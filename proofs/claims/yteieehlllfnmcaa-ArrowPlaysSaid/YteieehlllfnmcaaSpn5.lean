/-
  Layer 15, the document's answers: Edge, Same. Conditions: none.
-/
import Derived.Test.YteieehlllfnmcaaSpn2
import Derived.BigRegion
namespace Go.Proofs.Yteieehlllfnmcaa.Spn
set_option maxRecDepth 100000
open Go.RowKit Go.Deep Go.Proofs.Yteieehlllfnmcaa.Mem

def edgeI (a b m : Int) : Bool := decide (1 ≤ a ∧ 1 ≤ b ∧ a ≤ m ∧ b ≤ m ∧ m ≤ 16) && edgeB a.toNat b.toNat
set_option maxHeartbeats 2000000 in
theorem Edge_any (a b m : Int) (w : World) : Calls Try.prog 24 #[.int .i64 a, .int .i64 b, .int .i64 m] w fun e w' => e = .returned (.bool (edgeI a b m)) ∧ w' = w := by
  obtain ⟨v, hv⟩ : ∃ v, edgeI a b m = v := ⟨_, rfl⟩
  rw [hv]
  have HV := Lib.hid hv
  clear hv
  by_cases hbad : a < 1 ∨ b < 1 ∨ m < a ∨ m < b ∨ 16 < m
  · obtain rfl : v = false := by rw [← HV.out]; unfold edgeI; rw [decide_eq_false (by omega), Bool.false_and]
    clear HV
    by_cases h1 : a < 1
    · clear hbad
      go_enter Try.func24, Try.ntmps24
      go_wp2_with fail
      go_returns
      exact ⟨rfl, rfl⟩
    by_cases h2 : b < 1
    · clear hbad
      go_enter Try.func24, Try.ntmps24
      go_wp2_with fail
      go_returns
      exact ⟨rfl, rfl⟩
    by_cases h3 : m < a
    · clear hbad
      go_enter Try.func24, Try.ntmps24
      go_wp2_with fail
      go_returns
      exact ⟨rfl, rfl⟩
    by_cases h4 : m < b
    · clear hbad
      go_enter Try.func24, Try.ntmps24
      go_wp2_with fail
      go_returns
      exact ⟨rfl, rfl⟩
    have h5 : 16 < m := by omega
    clear hbad
    go_enter Try.func24, Try.ntmps24
    go_wp2_with fail
    go_returns
    exact ⟨rfl, rfl⟩
  · have h1 : ¬ a < 1 := fun e => hbad (Or.inl e)
    have h2 : ¬ b < 1 := fun e => hbad (Or.inr (Or.inl e))
    have h3 : ¬ m < a := fun e => hbad (Or.inr (Or.inr (Or.inl e)))
    have h4 : ¬ m < b := fun e => hbad (Or.inr (Or.inr (Or.inr (Or.inl e))))
    have h5 : ¬ 16 < m := fun e => hbad (Or.inr (Or.inr (Or.inr (Or.inr e))))
    have HE : Hid (v = ((decide (1 < a) && decide (a / 2 = b)) || (decide (1 < b) && decide (b / 2 = a)))) := Lib.hid (by
      rw [← HV.out]
      unfold edgeI edgeB
      rw [decide_eq_true (by omega), Bool.true_and]
      congr 1
      · rw [show decide (1 < a.toNat) = decide (1 < a) from decide_eq_decide.2 (by omega)]
        congr 1
        rw [Bool.eq_iff_iff, beq_iff_eq, decide_eq_true_eq]
        omega
      · rw [show decide (1 < b.toNat) = decide (1 < b) from decide_eq_decide.2 (by omega)]
        congr 1
        rw [Bool.eq_iff_iff, beq_iff_eq, decide_eq_true_eq]
        omega)
    have hqa : a.tdiv 2 = a / 2 := Int.tdiv_eq_ediv_of_nonneg (by omega)
    have hqb : b.tdiv 2 = b / 2 := Int.tdiv_eq_ediv_of_nonneg (by omega)
    have HQ := Lib.hid (And.intro hqa hqb)
    clear hbad HV hqa hqb
    by_cases k1 : 1 < a <;> by_cases k2 : 1 < b <;> by_cases k3 : a / 2 = b <;> by_cases k4 : b / 2 = a
    all_goals
    · go_enter Try.func24, Try.ntmps24
      go_wp2_with fail
      all_goals
      · go_returns
        exact ⟨ret_val (by rw [HE.out]; by_cases z1 : 1 < a <;> simp [z1, k2, k3, k4, HQ.out.2] <;> omega), rfl⟩
end Go.Proofs.Yteieehlllfnmcaa.Spn
