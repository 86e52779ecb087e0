/-
  Layer 12, without memory: timers put in by when they are due; lists of timers with keys apart. Conditions: none.
-/
import Derived.Test.YtnbdgjaekjneaaaWhlTick
namespace Go.Proofs.Ytnbdgjaekjneaaa.Whl

/-- A timer is put in behind those that are due no later. -/
def insT (t : Tm) (l : List Tm) : List Tm := l.take (untilL l t.2) ++ t :: l.drop (untilL l t.2)
/-- Keys are apart. -/
abbrev Uniq (l : List Tm) : Prop := (l.map (·.1)).Nodup
theorem asc_split {l : List Tm} (h : Asc l) (t : Int) : (∀ x ∈ l.take (untilL l t), x.2 ≤ t) ∧ ∀ x ∈ l.drop (untilL l t), t < x.2 := by
  induction l with
  | nil => exact ⟨fun x hx => (by simp at hx), fun x hx => (by simp at hx)⟩
  | cons a l ih =>
    obtain ⟨h1, h2⟩ := List.pairwise_cons.1 h
    obtain ⟨i1, i2⟩ := ih h2
    by_cases ha : a.2 ≤ t
    · have e : untilL (a :: l) t = untilL l t + 1 := by unfold untilL; rw [List.countP_cons, if_pos (decide_eq_true ha)]
      rw [e, List.take_succ_cons, List.drop_succ_cons]
      exact ⟨fun x hx => by rcases List.mem_cons.1 hx with rfl | hx; exact ha; exact i1 x hx, i2⟩
    · have e0 : untilL l t = 0 := by
        unfold untilL
        rw [List.countP_eq_zero]
        intro x hx
        have := h1 x hx
        simp only [decide_eq_true_eq]
        omega
      have e : untilL (a :: l) t = 0 := by
        unfold untilL at e0 ⊢
        rw [List.countP_cons, e0, if_neg (by simpa using ha)]
      rw [e, List.take_zero, List.drop_zero]
      refine ⟨fun x hx => (by cases hx), fun x hx => ?_⟩
      rcases List.mem_cons.1 hx with rfl | hx
      · omega
      · have := h1 x hx
        omega
theorem insT_split {a b : List Tm} {t : Tm} (h1 : ∀ x ∈ a, x.2 ≤ t.2) (h2 : ∀ x ∈ b, t.2 < x.2) : insT t (a ++ b) = a ++ t :: b := by
  have e : untilL (a ++ b) t.2 = a.length := untilL_at (by simp) (by rw [List.take_left]; exact h1) (by rw [List.drop_left]; exact h2)
  unfold insT
  rw [e, List.take_left, List.drop_left]
theorem insT_perm (t : Tm) (l : List Tm) : (insT t l).Perm (t :: l) := by
  unfold insT
  refine List.perm_middle.trans ?_
  rw [List.take_append_drop]
theorem insT_len (t : Tm) (l : List Tm) : (insT t l).length = l.length + 1 := (insT_perm t l).length_eq
theorem insT_asc {l : List Tm} (h : Asc l) (t : Tm) : Asc (insT t l) := by
  obtain ⟨h1, h2⟩ := asc_split h t.2
  have h3 : Asc (l.take (untilL l t.2) ++ l.drop (untilL l t.2)) := by rw [List.take_append_drop]; exact h
  obtain ⟨k1, k2, k3⟩ := List.pairwise_append.1 h3
  refine List.pairwise_append.2 ⟨k1, List.pairwise_cons.2 ⟨fun x hx => Int.le_of_lt (h2 x hx), k2⟩, fun x hx y hy => ?_⟩
  rcases List.mem_cons.1 hy with rfl | hy
  · exact h1 x hx
  · exact k3 x hx y hy
theorem insT_filter {l : List Tm} (h : Asc l) (p : Tm → Bool) (t : Tm) : (insT t l).filter p = if p t then insT t (l.filter p) else l.filter p := by
  obtain ⟨h1, h2⟩ := asc_split h t.2
  have e : l.filter p = (l.take (untilL l t.2)).filter p ++ (l.drop (untilL l t.2)).filter p := by rw [← List.filter_append, List.take_append_drop]
  unfold insT
  rw [List.filter_append, List.filter_cons]
  split
  · have := insT_split (a := (l.take (untilL l t.2)).filter p) (b := (l.drop (untilL l t.2)).filter p) (t := t) (fun x hx => h1 x (List.mem_filter.1 hx).1) (fun x hx => h2 x (List.mem_filter.1 hx).1)
    rw [← e] at this
    unfold insT at this
    rw [← this]
  · exact e.symm
/-- All timers, by when they are due. -/
def sortD (l : List Tm) : List Tm := l.foldl (fun acc t => insT t acc) []
theorem sortD_more (l : List Tm) (t : Tm) : sortD (l ++ [t]) = insT t (sortD l) := by
  unfold sortD
  rw [List.foldl_append]
  rfl
theorem snoc_ind {α : Type} {M : List α → Prop} (h0 : M []) (h1 : ∀ l a, M l → M (l ++ [a])) (l : List α) : M l := by
  have : ∀ l : List α, M l.reverse := by
    intro l
    induction l with
    | nil => exact h0
    | cons a l ih => rw [List.reverse_cons]; exact h1 _ _ ih
  have h := this l.reverse
  rwa [List.reverse_reverse] at h
theorem sortD_perm (l : List Tm) : (sortD l).Perm l := by
  refine snoc_ind (M := fun l => (sortD l).Perm l) ?_ ?_ l
  · exact List.Perm.refl _
  · intro l t ih
    rw [sortD_more]
    exact ((insT_perm t _).trans (ih.cons t)).trans (List.perm_append_singleton t l).symm
theorem sortD_asc (l : List Tm) : Asc (sortD l) := by
  refine snoc_ind (M := fun l => Asc (sortD l)) ?_ ?_ l
  · exact List.Pairwise.nil
  · intro l t ih
    rw [sortD_more]
    exact insT_asc ih t
theorem sortD_filter (p : Tm → Bool) (l : List Tm) : sortD (l.filter p) = (sortD l).filter p := by
  refine snoc_ind (M := fun l => sortD (l.filter p) = (sortD l).filter p) ?_ ?_ l
  · rfl
  · intro l t ih
    rw [sortD_more, insT_filter (sortD_asc l), ← ih, List.filter_append]
    by_cases hp : p t
    · rw [if_pos hp, List.filter_cons, if_pos hp]
      exact sortD_more _ _
    · rw [if_neg hp, List.filter_cons, if_neg hp]
      simp
theorem sortD_const {d : Int} (l : List Tm) (h : ∀ x ∈ l, x.2 = d) : sortD l = l := by
  revert h
  refine snoc_ind (M := fun l => (∀ x ∈ l, x.2 = d) → sortD l = l) (fun _ => rfl) ?_ l
  intro l t ih h
  have h1 : ∀ x ∈ l, x.2 = d := fun x hx => h x (by simp [hx])
  rw [sortD_more, ih h1]
  have := insT_split (a := l) (b := []) (t := t) (fun x hx => by rw [h1 x hx, h t (by simp)]; exact Int.le_refl _) (fun x hx => by cases hx)
  rwa [List.append_nil] at this
/-- Where keys are apart, one is stopped by leaving out all of its name. -/
theorem stopR_filter {R : Wr} (h : Uniq R.l) (k : Ky) : (stopR R k).2 = { R with l := R.l.filter fun t => decide (t.1 ≠ k) } := by
  rcases atL_spec' k R.l 0 with ⟨h1, h2⟩ | ⟨i, hi, h1, h2, h3⟩
  · rw [stopR_none h1]
    have : R.l.filter (fun t => decide (t.1 ≠ k)) = R.l := List.filter_eq_self.2 fun t ht => decide_eq_true (h2 t ht)
    rw [this]
  · rw [Nat.zero_add] at h1
    rw [stopR_some h1]
    have e : R.l = R.l.take i ++ R.l[i] :: R.l.drop (i + 1) := by rw [← List.drop_eq_getElem_cons hi, List.take_append_drop]
    have h4 : ∀ t ∈ R.l.drop (i + 1), t.1 ≠ k := by
      intro t ht hk
      have hn := h
      unfold Uniq at hn
      rw [e, List.map_append, List.map_cons, List.nodup_append] at hn
      have h5 := (List.nodup_cons.1 hn.2.1).1
      exact h5 (List.mem_map.2 ⟨t, ht, by rw [hk, h2]⟩)
    have e2 : R.l.filter (fun t => decide (t.1 ≠ k)) = R.l.take i ++ R.l.drop (i + 1) := by
      conv => lhs; rw [e]
      rw [List.filter_append, List.filter_cons, if_neg (by simpa using h2), List.filter_eq_self.2 fun t ht => decide_eq_true (h3 t ht), List.filter_eq_self.2 fun t ht => decide_eq_true (h4 t ht)]
    dsimp only
    rw [e2]
theorem atL_neg {k : Ky} {l : List Tm} : atL k l 0 < 0 ↔ ∀ t ∈ l, t.1 ≠ k := by
  rcases atL_spec' k l 0 with ⟨h1, h2⟩ | ⟨i, hi, h1, h2, h3⟩
  · exact ⟨fun _ => h2, fun _ => by rw [h1]; decide⟩
  · exact ⟨fun e => by omega, fun e => absurd h2 (e _ (List.getElem_mem hi))⟩
theorem stopR_was (R : Wr) (k : Ky) : (stopR R k).1 = decide (∃ t ∈ R.l, t.1 = k) := by
  rcases atL_spec' k R.l 0 with ⟨h1, h2⟩ | ⟨i, hi, h1, h2, h3⟩
  · rw [stopR_none h1]
    exact (decide_eq_false fun ⟨t, ht, e⟩ => h2 t ht e).symm
  · rw [Nat.zero_add] at h1
    rw [stopR_some h1]
    exact (decide_eq_true ⟨_, List.getElem_mem hi, h2⟩).symm
theorem Uniq.filter {l : List Tm} (h : Uniq l) (p : Tm → Bool) : Uniq (l.filter p) := List.Nodup.sublist (List.Sublist.map _ List.filter_sublist) h
/-- A timer is set where there is room. -/
theorem setC_ok {R : Wr} (h : Uniq R.l) (k : Ky) {af : Int} (h1 : 1 ≤ af) (h2 : af ≤ 1000) (hr : R.l.length ≤ 255) : setC R k af = (0, ⟨R.now, insT (k, R.now + af) (R.l.filter fun t => decide (t.1 ≠ k))⟩) := by
  unfold setC
  rw [if_neg (by omega), if_neg (by omega), stopR_filter h]
  rfl
end Go.Proofs.Ytnbdgjaekjneaaa.Whl
