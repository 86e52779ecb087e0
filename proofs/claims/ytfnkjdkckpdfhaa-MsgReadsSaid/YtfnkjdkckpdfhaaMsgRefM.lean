/-
  Layer 10: the document's answer and the code's are one: whether a message is right. Conditions: none.
-/
import Derived.Test.YtfnkjdkckpdfhaaMsgRefR
import Derived.Test.YtfnkjdkckpdfhaaMsgMath
namespace Go.Proofs.Ytfnkjdkckpdfhaa.Msg
set_option maxRecDepth 100000
open Go.RowKit Go.Proofs.Ytfnkjdkckpdfhaa.Mem Go.Proofs.Ytfnkjdkckpdfhaa.Item

theorem okK6 (r : Rc) : okK r 6 = (okN r 0 && (okN r 1 && (okN r 2 && (okN r 3 && (okN r 4 && okN r 5))))) := by
  have h : List.range 6 = [0, 1, 2, 3, 4, 5] := by decide
  unfold okK
  rw [h]
  simp
theorem othersB_false {r : Rc} {l : List Int} : othersB r l = false ↔ (∀ m : Nat, m < 6 → (m : Int) ∉ l → r.get m = 0) ∧ (6 ∉ l → t0B r.tid = true) ∧ (7 ∉ l → r.items.length = 0) ∧ (8 ∉ l → r.nodes.length = 0) ∧ (9 ∉ l → r.yes = false) := by
  constructor
  · intro h
    refine ⟨fun m hm hn => others_zero h m hm hn, fun hn => ?_, fun hn => ?_, fun hn => ?_, fun hn => ?_⟩
    · simpa [hasB] using others_at h 6 (by decide) hn
    · simpa [hasB] using others_at h 7 (by decide) hn
    · simpa [hasB] using others_at h 8 (by decide) hn
    · simpa [hasB] using others_at h 9 (by decide) hn
  · rintro ⟨h, h8, h9, h10, h11⟩
    unfold othersB left
    rw [List.any_eq_false]
    intro x hx
    rw [List.mem_mapIdx] at hx
    obtain ⟨j, hj, rfl⟩ := hx
    rw [List.take_length]
    by_cases hm : (j : Int) ∈ l
    · rw [decide_eq_true hm]; simp
    · rw [decide_eq_false hm]
      rw [hasB_length] at hj
      have hz : (hasB r)[j]'(by rw [hasB_length]; exact hj) = false := by
        rcases (show j < 6 ∨ j = 6 ∨ j = 7 ∨ j = 8 ∨ j = 9 by omega) with hlt | rfl | rfl | rfl | rfl
        · have := h j hlt hm
          rcases lt6 hlt with rfl | rfl | rfl | rfl | rfl | rfl <;> simpa [hasB, Rc.get, Rc.numV] using this
        · simpa [hasB] using h8 hm
        · simpa [hasB] using h9 hm
        · simpa [hasB] using h10 hm
        · simpa [hasB] using h11 hm
      simp [hz]
theorem get6 {P : Nat → Prop} : (∀ m : Nat, m < 6 → P m) ↔ P 0 ∧ P 1 ∧ P 2 ∧ P 3 ∧ P 4 ∧ P 5 := by
  constructor
  · intro h
    exact ⟨h 0 (by decide), h 1 (by decide), h 2 (by decide), h 3 (by decide), h 4 (by decide), h 5 (by decide)⟩
  · rintro ⟨h0, h1, h2, h3, h4, h5⟩ m hm
    rcases lt6 hm with rfl | rfl | rfl | rfl | rfl | rfl <;> assumption
theorem rightItems_nil : rightItems [] = false := by decide
set_option maxHeartbeats 4000000 in
theorem refRight_eq (r : Rc) (ok : r.ok) : refRight r = right r := by
  have hv := ok.value
  rw [Bool.eq_iff_iff]
  clear ok
  obtain ⟨k, t, its, nds, a0, a1, a2, a3, a4, a5, yes⟩ := r
  simp only [I64] at hv
  have hn : rightNodes [] = true := rfl
  have hi0 := rightItems_nil
  have hl : its = [] ↔ its.length = 0 := List.length_eq_zero_iff.symm
  have hl2 : nds = [] ↔ nds.length = 0 := List.length_eq_zero_iff.symm
  have ht : rightTid t = true → t0B t = false := by
    intro h
    unfold rightTid at h
    unfold t0B
    simp only [decide_eq_true_eq] at h
    have : ¬ t.node = 0 := by omega
    simp [this]
  unfold refRight right
  by_cases hk : 1 ≤ k ∧ k ≤ 15
  · rw [decide_eq_true hk, decide_eq_true ((fl_pos k).2 hk)]
    simp only [Bool.true_and, Bool.and_eq_true, Bool.not_eq_true', okK6, othersB_false, get6]
    rcases (show k = 1 ∨ k = 2 ∨ k = 3 ∨ k = 4 ∨ k = 5 ∨ k = 6 ∨ k = 7 ∨ k = 8 ∨ k = 9 ∨ k = 10 ∨ k = 11 ∨ k = 12 ∨ k = 13 ∨ k = 14 ∨ k = 15 by omega) with rfl | rfl | rfl | rfl | rfl | rfl | rfl | rfl | rfl | rfl | rfl | rfl | rfl | rfl | rfl
    all_goals clear hk
    all_goals simp [fl, rf, lims, hasR, named, says, okN, hiN, q13, q15, q17, q19, Rc.get, Rc.numV]
    all_goals grind
  · rw [decide_eq_false hk, decide_eq_false (fun h => hk ((fl_pos k).1 h))]
    simp
end Go.Proofs.Ytfnkjdkckpdfhaa.Msg
