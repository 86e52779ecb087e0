/-
  Layer 12: the code's wheel and the document's side by side, without memory. Conditions: none.
-/
import Derived.Test.YtnbdgjaekjneaaaWhlRKeys
import Derived.Test.YtnbdgjaekjneaaaWhlPure
namespace Go.Proofs.Ytnbdgjaekjneaaa.Whl

/-- The code's timers are the document's, by when they are due. -/
structure Alike (C R : Wr) : Prop where
  now : C.now = R.now
  l : C.l = sortD R.l
  uniq : Uniq R.l
  due : ∀ t ∈ R.l, R.now < t.2
section
variable {C R : Wr} (h : Alike C R)
include h
theorem Alike.mem (t : Tm) : t ∈ C.l ↔ t ∈ R.l := by rw [h.l]; exact (sortD_perm R.l).mem_iff
theorem Alike.cuniq : Uniq C.l := by rw [h.l]; exact (((sortD_perm R.l).map (·.1)).nodup_iff).2 h.uniq
theorem Alike.asc : Asc C.l := by rw [h.l]; exact sortD_asc _
theorem Alike.len : C.l.length = R.l.length := by rw [h.l]; exact (sortD_perm _).length_eq
theorem Alike.neg (k : Ky) : atL k C.l 0 < 0 ↔ atL k R.l 0 < 0 := by
  rw [atL_neg, atL_neg]
  exact ⟨fun e t ht => e t ((h.mem t).2 ht), fun e t ht => e t ((h.mem t).1 ht)⟩
theorem Alike.stop (k : Ky) : (stopR C k).1 = (stopR R k).1 ∧ Alike (stopR C k).2 (stopR R k).2 := by
  refine ⟨?_, ?_⟩
  · rw [stopR_was, stopR_was]
    congr 1
    exact propext ⟨fun ⟨t, ht, e⟩ => ⟨t, (h.mem t).1 ht, e⟩, fun ⟨t, ht, e⟩ => ⟨t, (h.mem t).2 ht, e⟩⟩
  · rw [stopR_filter h.cuniq, stopR_filter h.uniq]
    exact ⟨h.now, by dsimp only; rw [sortD_filter, h.l], h.uniq.filter _, fun t ht => h.due t (List.mem_filter.1 ht).1⟩
theorem Alike.set (k : Ky) (af : Int) : (setC C k af).1 = (setR R k af).1 ∧ Alike (setC C k af).2 (setR R k af).2 := by
  unfold setC setR
  by_cases h1 : af < 1 ∨ 1000 < af
  · rw [if_pos h1, if_pos h1]
    exact ⟨rfl, h⟩
  · rw [if_neg h1, if_neg h1]
    by_cases h2 : atL k R.l 0 < 0 ∧ 256 ≤ R.l.length
    · rw [if_pos h2, if_pos ⟨(h.neg k).2 h2.1, by rw [h.len]; exact h2.2⟩]
      exact ⟨rfl, h⟩
    · rw [if_neg h2, if_neg fun e => h2 ⟨(h.neg k).1 e.1, by rw [← h.len]; exact e.2⟩]
      refine ⟨rfl, h.now, ?_, ?_, ?_⟩
      · rw [stopR_filter h.cuniq, stopR_filter h.uniq]
        dsimp only
        rw [sortD_more, sortD_filter, ← h.l, h.now]
        rfl
      · rw [stopR_filter h.uniq]
        dsimp only
        unfold Uniq
        rw [List.map_append, List.nodup_append]
        refine ⟨h.uniq.filter _, by simp, fun x hx y hy e => ?_⟩
        obtain ⟨t, ht, rfl⟩ := List.mem_map.1 hx
        rw [List.mem_singleton.1 hy] at e
        exact of_decide_eq_true (List.mem_filter.1 ht).2 e
      · rw [stopR_filter h.uniq]
        dsimp only
        intro t ht
        rcases List.mem_append.1 ht with ht | ht
        · exact h.due t (List.mem_filter.1 ht).1
        · rw [List.mem_singleton.1 ht]
          show R.now < R.now + af
          omega
theorem Alike.tick : (tickC C).1 = (tickR R).1 ∧ Alike (tickC C).2 (tickR R).2 := by
  unfold tickC tickR
  rw [h.now]
  by_cases h1 : 1099511627776 ≤ R.now
  · rw [if_pos h1, if_pos h1]
    exact ⟨rfl, h⟩
  · rw [if_neg h1, if_neg h1]
    obtain ⟨a1, a2⟩ := asc_split h.asc (R.now + 1)
    have e0 : C.l = C.l.take (untilL C.l (R.now + 1)) ++ C.l.drop (untilL C.l (R.now + 1)) := (List.take_append_drop _ _).symm
    have b1 : ∀ t ∈ C.l.take (untilL C.l (R.now + 1)), t.2 = R.now + 1 := fun t ht => by
      have := a1 t ht
      have := h.due t ((h.mem t).1 (List.mem_of_mem_take ht))
      omega
    have t1 : C.l.take (untilL C.l (R.now + 1)) = C.l.filter fun t => decide (t.2 = R.now + 1) := by
      conv => rhs; rw [e0]
      rw [List.filter_append, List.filter_eq_self.2 fun t ht => decide_eq_true (b1 t ht), List.filter_eq_nil_iff.2 fun t ht e => by have := a2 t ht; have := of_decide_eq_true e; omega, List.append_nil]
    have t2 : C.l.drop (untilL C.l (R.now + 1)) = C.l.filter fun t => decide (t.2 ≠ R.now + 1) := by
      conv => rhs; rw [e0]
      rw [List.filter_append, List.filter_eq_nil_iff.2 fun t ht e => (of_decide_eq_true e : t.2 ≠ R.now + 1) (b1 t ht), List.filter_eq_self.2 fun t ht => decide_eq_true (show t.2 ≠ R.now + 1 by have := a2 t ht; omega), List.nil_append]
    have c1 : (C.l.filter fun t => decide (t.2 = R.now + 1)) = R.l.filter fun t => decide (t.2 = R.now + 1) := by
      rw [h.l, ← sortD_filter]
      exact sortD_const (d := R.now + 1) _ fun t ht => of_decide_eq_true (List.mem_filter.1 ht).2
    refine ⟨by rw [t1, c1], rfl, by dsimp only; rw [t2, sortD_filter, h.l], h.uniq.filter _, fun t ht => ?_⟩
    obtain ⟨h2, h3⟩ := List.mem_filter.1 ht
    have := h.due t h2
    have := of_decide_eq_true h3
    dsimp only
    omega
theorem Alike.clear : Alike ⟨C.now, []⟩ ⟨R.now, []⟩ := ⟨h.now, rfl, List.Pairwise.nil, fun t ht => by cases ht⟩
/-- When a timer is due, by the document's list. -/
theorem Alike.dueL (k : Ky) : (atL k R.l 0 < 0 → dueL C k = (0, false)) ∧ ∀ (i : Nat) (t : Tm), atL k R.l 0 = (i : Int) → R.l[i]? = some t → Whl.dueL C k = (t.2, true) := by
  refine ⟨fun e => ?_, fun i t e ht => ?_⟩
  · unfold Whl.dueL
    rw [if_pos ((h.neg k).2 e)]
  · rcases atL_spec' k C.l 0 with ⟨h1, h2⟩ | ⟨j, hj, h1, h2, _⟩
    · have := (h.neg k).1 (by rw [h1]; decide)
      omega
    · rw [Nat.zero_add] at h1
      unfold Whl.dueL
      rw [if_neg (by omega), h1, Int.toNat_natCast, List.getElem?_eq_getElem hj]
      show (C.l[j].2, true) = _
      rcases atL_spec' k R.l 0 with ⟨g1, g2⟩ | ⟨i', hi', g1, g2, _⟩
      · omega
      · rw [Nat.zero_add] at g1
        obtain rfl : i = i' := by omega
        obtain ⟨hi2, e2⟩ := List.getElem?_eq_some_iff.1 ht
        have hm1 : C.l[j] ∈ R.l := (h.mem _).1 (List.getElem_mem hj)
        have hm2 : t ∈ R.l := by rw [← e2]; exact List.getElem_mem hi2
        have hk : C.l[j].1 = t.1 := by rw [h2, ← e2, g2]
        have hq : C.l[j] = t := by
          obtain ⟨a, ha, ea⟩ := List.getElem_of_mem hm1
          obtain ⟨b, hb, eb⟩ := List.getElem_of_mem hm2
          have hp := List.pairwise_iff_getElem.1 h.uniq
          rw [← ea, ← eb] at hk ⊢
          rcases Nat.lt_trichotomy a b with hlt | rfl | hlt
          · exact absurd (by rw [List.getElem_map, List.getElem_map]; exact hk) (hp a b (by simpa using ha) (by simpa using hb) hlt)
          · rfl
          · exact absurd (by rw [List.getElem_map, List.getElem_map]; exact hk.symm) (hp b a (by simpa using hb) (by simpa using ha) hlt)
        rw [hq]
end
theorem alike_stopN {C R : Wr} (h : Alike C R) (ks : List Ky) : (stopN C ks).1 = (stopN R ks).1 ∧ Alike (stopN C ks).2 (stopN R ks).2 := by
  refine snoc_ind (M := fun ks => (stopN C ks).1 = (stopN R ks).1 ∧ Alike (stopN C ks).2 (stopN R ks).2) ⟨rfl, h⟩ ?_ ks
  intro l k ⟨h1, h2⟩
  obtain ⟨h3, h4⟩ := h2.stop k
  rw [stopN_more, stopN_more]
  dsimp only
  exact ⟨by rw [h1, h3], h4⟩
theorem setR_now (R : Wr) (k : Ky) (af : Int) : (setR R k af).2.now = R.now := by
  unfold setR
  split
  · rfl
  · split <;> rfl
theorem stopN_now (R : Wr) (ks : List Ky) : (stopN R ks).2.now = R.now := by
  refine snoc_ind (M := fun ks => (stopN R ks).2.now = R.now) rfl ?_ ks
  intro l k ih
  rw [stopN_more]
  exact (stopR_now _ k).trans ih
theorem tickR_now (R : Wr) : (tickR R).2.now ≤ R.now + 1 ∧ R.now ≤ (tickR R).2.now := by
  unfold tickR
  split <;> dsimp only <;> omega
end Go.Proofs.Ytnbdgjaekjneaaa.Whl
