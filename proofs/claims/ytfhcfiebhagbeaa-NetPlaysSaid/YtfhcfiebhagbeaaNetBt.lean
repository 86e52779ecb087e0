/-
  Layer 11: the way between two nodes. Conditions: none.
-/
import Derived.Test.YtfhcfiebhagbeaaNetMem
import Derived.OpenShut
import Derived.WalkLawsBesides
import Derived.WalkSpells
import Derived.Handy
import Derived.Deep.Cut
namespace Go.Proofs.Ytfhcfiebhagbeaa.Net
set_option maxRecDepth 100000
open Go.RowKit Go.Deep Go.Proofs.Ytfhcfiebhagbeaa.Mem

/-- Is there a way between two nodes? -/
def betw (nodes a b : Int) : Bool := decide (a ≠ b) && (decide (1 ≤ min a b) && decide (max a b ≤ nodes))
def wayV (x y : Int) : Value := .agg #[.int .i64 x, .int .i64 y]
def betwV (nodes a b : Int) : Value := if betw nodes a b then wayV (min a b) (max a b) else wayV 0 0
set_option maxHeartbeats 400000 in
theorem between_any (nodes a b : Int) (g off : Nat) (w : World) (hc : w.cell? ⟨g, off, none⟩ = some (.int .i64 nodes)) :
    Calls Try.prog 33 #[.pointer (some ⟨g, off, none⟩), .int .i64 a, .int .i64 b] w fun e w' => e = .returned (.tuple #[betwV nodes a b, .bool (betw nodes a b)]) ∧ Below w.heap.size w w' := by
  have hb := below_alloc w (.cells #[.int .i64 0, .int .i64 0] 72)
  have hc2 := (hb.cell (block_of_cell hc)).trans hc
  by_cases h1 : a = b
  · subst h1
    go_enter Try.func33, Try.ntmps33
    go_wp2_with fail
    go_returns
    exact ⟨by unfold betwV betw; simp [wayV], hb⟩
  · have e1 : decide (a = b) = false := by simpa using h1
    by_cases hab : a ≤ b
    · have hmin : min a b = a := by omega
      have hmax : max a b = b := by omega
      by_cases h2 : a < 1
      · have e2 : decide (a < 1) = true := by simpa using h2
        go_enter Try.func33, Try.ntmps33
        go_wp2_with fail
        go_returns
        exact ⟨by unfold betwV betw; rw [hmin, hmax, show decide (1 ≤ a) = false by simp; omega]; simp [wayV], hb⟩
      · have e2 : decide (a < 1) = false := by simpa using h2
        by_cases h3 : nodes < b
        · have e3 : decide (b > nodes) = true := by simpa using h3
          go_enter Try.func33, Try.ntmps33
          go_wp2_with fail
          go_returns
          exact ⟨by unfold betwV betw; rw [hmin, hmax, show decide (b ≤ nodes) = false by simp; omega]; simp [wayV], hb⟩
        · have e3 : decide (b > nodes) = false := by simpa using h3
          go_enter Try.func33, Try.ntmps33
          go_wp2_with fail
          go_returns
          exact ⟨by unfold betwV betw; rw [hmin, hmax, show decide (b ≤ nodes) = true by simp; omega, show decide (1 ≤ a) = true by simp; omega, show decide (a ≠ b) = true by simp [h1]]; simp [wayV], below_alloc _ _⟩
    · have hmin : min a b = b := by omega
      have hmax : max a b = a := by omega
      by_cases h2 : b < 1
      · have e2 : decide (b < 1) = true := by simpa using h2
        go_enter Try.func33, Try.ntmps33
        go_wp2_with fail
        go_returns
        exact ⟨by unfold betwV betw; rw [hmin, hmax, show decide (1 ≤ b) = false by simp; omega]; simp [wayV], hb⟩
      · have e2 : decide (b < 1) = false := by simpa using h2
        by_cases h3 : nodes < a
        · have e3 : decide (a > nodes) = true := by simpa using h3
          go_enter Try.func33, Try.ntmps33
          go_wp2_with fail
          go_returns
          exact ⟨by unfold betwV betw; rw [hmin, hmax, show decide (a ≤ nodes) = false by simp; omega]; simp [wayV], hb⟩
        · have e3 : decide (a > nodes) = false := by simpa using h3
          go_enter Try.func33, Try.ntmps33
          go_wp2_with fail
          go_returns
          exact ⟨by unfold betwV betw; rw [hmin, hmax, show decide (a ≤ nodes) = true by simp; omega, show decide (1 ≤ b) = true by simp; omega, show decide (a ≠ b) = true by simp [h1]]; simp [wayV], below_alloc _ _⟩
end Go.Proofs.Ytfhcfiebhagbeaa.Net
