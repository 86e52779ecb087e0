/-
  Layer 7: the document's answer and the code's are one: whether a record is right. Conditions: none.
-/
import Derived.Test.YtdmekfeggdodnaaRecRefR
import Derived.Test.YtdmekfeggdodnaaRecMath
namespace Go.Proofs.Ytdmekfeggdodnaa.Rec
set_option maxRecDepth 100000
open Go.RowKit Go.Proofs.Ytdmekfeggdodnaa.Mem Go.Proofs.Ytdmekfeggdodnaa.Item

theorem p2_false {r : Rc} : p2K r 8 = false ↔ ∀ m : Nat, m < 8 → ((m : Int) + 1) ∉ rl r.kind → r.get m = 0 := by
  unfold p2K
  rw [List.any_eq_false]
  constructor
  · intro h m hm hn
    have := h m (List.mem_range.2 hm)
    rw [decide_eq_false hn] at this
    simpa using this
  · intro h m hm
    by_cases hn : ((m : Int) + 1) ∈ rl r.kind
    · rw [decide_eq_true hn]; simp
    · rw [h m (List.mem_range.1 hm) hn]; simp
theorem othersB_false {r : Rc} {l : List Int} : othersB r l = false ↔ (∀ m : Nat, m < 8 → (m : Int) ∉ l → r.get m = 0) ∧ (8 ∉ l → t0B r.tid = true) ∧ (9 ∉ l → r.items.length = 0) ∧ (10 ∉ l → r.nodes.length = 0) ∧ (11 ∉ l → r.yes = false) := by
  constructor
  · intro h
    refine ⟨fun m hm hn => others_zero h m hm hn, fun hn => ?_, fun hn => ?_, fun hn => ?_, fun hn => ?_⟩
    · simpa [hasB] using others_at h 8 (by decide) hn
    · simpa [hasB] using others_at h 9 (by decide) hn
    · simpa [hasB] using others_at h 10 (by decide) hn
    · simpa [hasB] using others_at h 11 (by decide) hn
  · rintro ⟨h, h8, h9, h10, h11⟩
    unfold othersB left
    rw [List.any_eq_false]
    intro x hx
    rw [List.mem_mapIdx] at hx
    obtain ⟨j, hj, rfl⟩ := hx
    rw [List.take_length]
    by_cases hm : (j : Int) ∈ l
    · rw [decide_eq_true hm]; simp
    · rw [decide_eq_false hm]
      rw [hasB_length] at hj
      have hz : (hasB r)[j]'(by rw [hasB_length]; exact hj) = false := by
        rcases (show j < 8 ∨ j = 8 ∨ j = 9 ∨ j = 10 ∨ j = 11 by omega) with hlt | rfl | rfl | rfl | rfl
        · have := h j hlt hm
          rcases lt8 hlt with rfl | rfl | rfl | rfl | rfl | rfl | rfl | rfl <;> simpa [hasB, Rc.get, Rc.numV] using this
        · simpa [hasB] using h8 hm
        · simpa [hasB] using h9 hm
        · simpa [hasB] using h10 hm
        · simpa [hasB] using h11 hm
      simp [hz]
theorem get8 {P : Nat → Prop} : (∀ m : Nat, m < 8 → P m) ↔ P 0 ∧ P 1 ∧ P 2 ∧ P 3 ∧ P 4 ∧ P 5 ∧ P 6 ∧ P 7 := by
  constructor
  · intro h
    exact ⟨h 0 (by decide), h 1 (by decide), h 2 (by decide), h 3 (by decide), h 4 (by decide), h 5 (by decide), h 6 (by decide), h 7 (by decide)⟩
  · rintro ⟨h0, h1, h2, h3, h4, h5, h6, h7⟩ m hm
    rcases lt8 hm with rfl | rfl | rfl | rfl | rfl | rfl | rfl | rfl <;> assumption
theorem rightItems_nil : rightItems [] = false := by decide
set_option maxHeartbeats 4000000 in
theorem refRight_eq (r : Rc) (ok : r.ok) : refRight r = right r := by
  have hv := ok.value
  rw [Bool.eq_iff_iff]
  clear ok
  obtain ⟨k, t, its, nds, a0, a1, a2, a3, a4, a5, a6, a7, yes⟩ := r
  simp only [I64] at hv
  have hn : rightNodes [] = true := rfl
  have hl : its = [] ↔ its.length = 0 := List.length_eq_zero_iff.symm
  unfold refRight right
  by_cases hk : 1 ≤ k ∧ k ≤ 12
  · rw [decide_eq_true hk]
    simp only [Bool.true_and, Bool.and_eq_true, Bool.not_eq_true', p2_false, othersB_false, get8]
    rcases (show k = 1 ∨ k = 2 ∨ k = 3 ∨ k = 4 ∨ k = 5 ∨ k = 6 ∨ k = 7 ∨ k = 8 ∨ k = 9 ∨ k = 10 ∨ k = 11 ∨ k = 12 by omega) with rfl | rfl | rfl | rfl | rfl | rfl | rfl | rfl | rfl | rfl | rfl | rfl
    all_goals clear hk
    all_goals simp [rl, fl, rf, lims, nodeLim, named, p3, p4, p5, p6, p7, pEnd, Rc.get, Rc.numV]
    all_goals grind
  · rw [decide_eq_false hk]
    simp
end Go.Proofs.Ytdmekfeggdodnaa.Rec
