/-
  Layer 8: what any record does; how large a state becomes; records one behind the other.
  Conditions: none.
-/
import Derived.Test.YtalhbblmnahcdaaGreatPa41
import Derived.Test.YtalhbblmnahcdaaGreatPa42
namespace Go.Proofs.YtalhbblmnahcdaaGreat.Led
set_option maxRecDepth 100000
open Go.RowKit Go.Deep Go.Proofs.YtalhbblmnahcdaaGreat.Mem Go.Proofs.YtalhbblmnahcdaaGreat.Item Go.Proofs.YtalhbblmnahcdaaGreat.Rec
theorem right_range {r : Rc} (h : right r = true) : 1 ≤ r.kind ∧ r.kind ≤ 12 := by
  unfold right at h
  simp only [Bool.and_eq_true, decide_eq_true_eq] at h
  exact h.1.1
theorem follow_any (s : St) (y : Sy) (r : Rc) (z : Lay) (base b : Nat) (w : World) (ho : Own base w b s y) (hh : Fr (fun j => turf b y j) w r.items r.nodes z) (hs : Small s) (hr : r.items.length ≤ 1000 ∧ r.nodes.length ≤ 1000) :
    Calls Tryz.prog 36 #[.pointer (some ⟨b, 0, none⟩), r.val z] w fun e w' => e = .returned (.int .i64 (fFollow s r).2) ∧ Step base b s y w (fFollow s r).1 w' := by
  cases hrt : right r with
  | false => exact follow_bad s y r z base b w ho hh hs hr hrt
  | true =>
    obtain ⟨h1, h2⟩ := right_range hrt
    rcases (show r.kind = 1 ∨ r.kind = 2 ∨ r.kind = 3 ∨ r.kind = 4 ∨ r.kind = 5 ∨ r.kind = 6 ∨ r.kind = 7 ∨ r.kind = 8 ∨ r.kind = 9 ∨ r.kind = 10 ∨ r.kind = 11 ∨ r.kind = 12 by omega) with hk | hk | hk | hk | hk | hk | hk | hk | hk | hk | hk | hk
    · exact follow_k1 s y r z base b w ho hh hs hr hk hrt
    · exact follow_k2 s y r z base b w ho hh hs hr hk hrt
    · exact follow_k3 s y r z base b w ho hh hs hr hk hrt
    · exact follow_k4 s y r z base b w ho hh hs hr hk hrt
    · exact follow_k5 s y r z base b w ho hh hs hr hk hrt
    · exact follow_k6 s y r z base b w ho hh hs hr hk hrt
    · exact follow_k7 s y r z base b w ho hh hs hr hk hrt
    · exact follow_k8 s y r z base b w ho hh hs hr hk hrt
    · exact follow_k9 s y r z base b w ho hh hs hr hk hrt
    · exact follow_k10 s y r z base b w ho hh hs hr hk hrt
    · exact follow_k11 s y r z base b w ho hh hs hr hk hrt
    · exact follow_k12 s y r z base b w ho hh hs hr hk hrt
/-- How large a state is. -/
structure Sz (m : Nat) (s : St) : Prop where
  places : s.places.length ≤ 100
  prep : s.prep.length ≤ m
  dec : s.dec.length ≤ m
  com : s.com.length ≤ m
  pin : ∀ p ∈ s.prep, p.items.length ≤ 1000 ∧ p.nodes.length ≤ 1000
  cin : ∀ p ∈ s.com, p.items.length ≤ 1000 ∧ p.nodes.length ≤ 1000
theorem Sz.small {m : Nat} {s : St} (h : Sz m s) (hm : m ≤ 100000) : Small s := ⟨Nat.le_trans h.places (by decide), Nat.le_trans h.prep hm, Nat.le_trans h.dec hm, Nat.le_trans h.com hm, fun p hp => ⟨Nat.le_trans (h.pin p hp).1 (by decide), Nat.le_trans (h.pin p hp).2 (by decide)⟩, fun p hp => ⟨Nat.le_trans (h.cin p hp).1 (by decide), Nat.le_trans (h.cin p hp).2 (by decide)⟩⟩
theorem Sz.mono {m n : Nat} {s : St} (h : Sz m s) (hm : m ≤ n) : Sz n s := ⟨h.places, Nat.le_trans h.prep hm, Nat.le_trans h.dec hm, Nat.le_trans h.com hm, h.pin, h.cin⟩
theorem Sz.setPl {m : Nat} {s : St} (h : Sz m s) (c : Int) (p : Pl) : Sz m (setPl s c p) := ⟨by unfold Led.setPl; rw [List.length_set]; exact h.places, h.prep, h.dec, h.com, h.pin, h.cin⟩
theorem Sz.conc {m : Nat} {s : St} (h : Sz m s) (r : Rc) : Sz (m + 1) (conc s r) := ⟨h.places, Nat.le_succ_of_le h.prep, by unfold Led.conc; rw [insD_len]; exact Nat.succ_le_succ h.dec, Nat.le_succ_of_le h.com, h.pin, h.cin⟩
theorem Sz.writeL {m : Nat} {s : St} (h : Sz m s) (l : List It) : Sz m (writeL s l) := by
  obtain ⟨b1, b2, b3, b4, _⟩ := writeL_keeps l s
  exact ⟨by rw [b1]; exact h.places, by rw [b2]; exact h.prep, by rw [b3]; exact h.dec, by rw [b4]; exact h.com, by rw [b2]; exact h.pin, by rw [b4]; exact h.cin⟩
theorem Sz.cut {m : Nat} {s : St} (h : Sz m s) (k : Nat) : Sz m { s with prep := cut s.prep k } := ⟨h.places, Nat.le_trans (cut_le _ _) h.prep, h.dec, h.com, fun p hp => h.pin p (cut_sub hp), h.cin⟩
theorem Sz.prepS {m : Nat} {s : St} (h : Sz m s) (r : Rc) (hr : r.items.length ≤ 1000 ∧ r.nodes.length ≤ 1000) : Sz (m + 1) (prepS s r) := by
  refine ⟨h.places, ?_, Nat.le_succ_of_le h.dec, Nat.le_succ_of_le h.com, fun p hp => ?_, h.cin⟩
  · unfold Led.prepS
    rw [insAt_len _ (insI_le _ _)]
    exact Nat.succ_le_succ h.prep
  · unfold Led.prepS insAt at hp
    rcases List.mem_append.1 hp with hp | hp
    · exact h.pin p (List.mem_of_mem_take hp)
    · rcases List.mem_cons.1 hp with rfl | hp
      · exact hr
      · exact h.pin p (List.mem_of_mem_drop hp)
theorem Sz.commit {m : Nat} {s : St} (h : Sz m s) (r : Rc) (hr : r.items.length ≤ 1000 ∧ r.nodes.length ≤ 1000) : Sz (m + 1) { s with com := s.com ++ [rcCo r] } := by
  refine ⟨h.places, Nat.le_succ_of_le h.prep, Nat.le_succ_of_le h.dec, ?_, h.pin, fun p hp => ?_⟩
  · rw [List.length_append]
    exact Nat.succ_le_succ h.com
  · rcases List.mem_append.1 hp with hp | hp
    · exact h.cin p hp
    · rw [List.mem_singleton.1 hp]
      exact hr
theorem Sz.overS {m : Nat} {s : St} (h : Sz m s) (k : Nat) : Sz m (overS s k) := by
  refine ⟨h.places, h.prep, h.dec, ?_, h.pin, fun p hp => ?_⟩
  · unfold Led.overS
    rw [List.length_set]
    exact h.com
  · unfold Led.overS at hp
    rcases List.mem_or_eq_of_mem_set hp with hp | rfl
    · exact h.cin p hp
    · unfold coAt
      cases hk : s.com[k]? with
      | none => exact ⟨Nat.zero_le _, Nat.zero_le _⟩
      | some c => exact h.cin c (List.mem_of_getElem? hk)
theorem Sz.empty (m : Nat) (a c : Int) (n : Nat) (hn : n ≤ 16) : Sz m (emptyS a c n) := ⟨by unfold emptyS; rw [List.length_replicate]; omega, Nat.zero_le _, Nat.zero_le _, Nat.zero_le _, fun p hp => (by cases hp), fun p hp => (by cases hp)⟩
theorem Sz.past {m : Nat} {s : St} (h : Sz m s) (r : Rc) : Sz (m + 1) (fPast s r).1 := by
  unfold fPast
  repeat' split
  all_goals first | exact h.mono (Nat.le_succ m) | exact h.conc r
theorem Sz.begin_ {m : Nat} {s : St} (h : Sz m s) (r : Rc) : Sz (m + 1) (fBegin s r).1 := by
  have h1 := h.mono (Nat.le_succ m)
  unfold fBegin
  repeat' (first | exact h1 | (exact ⟨h1.places, h1.prep, h1.dec, h1.com, h1.pin, h1.cin⟩) | split)
theorem Sz.place_ {m : Nat} {s : St} (h : Sz m s) (r : Rc) : Sz (m + 1) (fPlace s r).1 := by
  have h1 := h.mono (Nat.le_succ m)
  unfold fPlace
  repeat' (first | exact h1 | (exact h1.setPl _ _) | split)
theorem Sz.prepare_ {m : Nat} {s : St} (h : Sz m s) (r : Rc) (hr : r.items.length ≤ 1000 ∧ r.nodes.length ≤ 1000) : Sz (m + 1) (fPrepare s r).1 := by
  have h1 := h.mono (Nat.le_succ m)
  unfold fPrepare
  repeat' (first | exact h1 | (exact h.prepS r hr) | split)
theorem Sz.refuse {m : Nat} {s : St} (h : Sz m s) (r : Rc) : Sz (m + 1) (fRefuse s r).1 := by
  have h1 := h.mono (Nat.le_succ m)
  unfold fRefuse
  split
  · exact h1
  · split
    · exact h1
    · exact h.past r
theorem Sz.decide_ {m : Nat} {s : St} (h : Sz m s) (r : Rc) : Sz (m + 1) (fDecide s r).1 := by
  unfold fDecide
  split
  · exact h.refuse r
  · exact (Sz.cut (by split
                      · exact h.writeL _
                      · exact h) _).conc r
theorem Sz.commit_ {m : Nat} {s : St} (h : Sz m s) (r : Rc) (hr : r.items.length ≤ 1000 ∧ r.nodes.length ≤ 1000) : Sz (m + 1) (fCommit s r).1 := by
  have h1 := h.mono (Nat.le_succ m)
  unfold fCommit
  repeat' (first | exact h1 | (exact h.commit r hr) | split)
theorem Sz.end_ {m : Nat} {s : St} (h : Sz m s) (r : Rc) : Sz (m + 1) (fEnd s r).1 := by
  have h1 := h.mono (Nat.le_succ m)
  unfold fEnd
  repeat' (first | exact h1 | (exact h1.overS _) | split)
theorem Sz.out_ {m : Nat} {s : St} (h : Sz m s) (r : Rc) : Sz (m + 1) (fOut s r).1 := by
  have h1 := h.mono (Nat.le_succ m)
  unfold fOut
  repeat' (first | exact h1 | (exact h1.setPl _ _) | split)
theorem Sz.in_ {m : Nat} {s : St} (h : Sz m s) (r : Rc) : Sz (m + 1) (fIn s r).1 := by
  have h1 := h.mono (Nat.le_succ m)
  unfold fIn
  repeat' (first | exact h1 | (exact h1.setPl _ _) | split)
theorem Sz.gone_ {m : Nat} {s : St} (h : Sz m s) (r : Rc) : Sz (m + 1) (fGone s r).1 := by
  have h1 := h.mono (Nat.le_succ m)
  unfold fGone
  repeat' (first | exact h1 | (exact h1.setPl _ _) | split)
theorem Sz.follow {m : Nat} {s : St} (h : Sz m s) (r : Rc) (hr : r.items.length ≤ 1000 ∧ r.nodes.length ≤ 1000) : Sz (m + 1) (fFollow s r).1 := by
  have h1 := h.mono (Nat.le_succ m)
  unfold fFollow
  cases hrt : right r with
  | false => exact h1
  | true =>
    rw [if_neg (by decide)]
    unfold byKind
    by_cases hk : r.kind = 1
    · rw [if_pos hk]
      exact Sz.empty _ _ _ _ (by have := right_num hrt hk; omega)
    rw [if_neg hk]
    clear hk
    by_cases hk : r.kind = 2
    · rw [if_pos hk]
      exact h.begin_ r
    rw [if_neg hk]
    clear hk
    by_cases hk : r.kind = 3
    · rw [if_pos hk]
      exact h.place_ r
    rw [if_neg hk]
    clear hk
    by_cases hk : r.kind = 4
    · rw [if_pos hk]
      exact h.prepare_ r hr
    rw [if_neg hk]
    clear hk
    by_cases hk : r.kind = 6
    · rw [if_pos hk]
      exact h.decide_ r
    rw [if_neg hk]
    clear hk
    by_cases hk : r.kind = 11
    · rw [if_pos hk]
      exact h.past r
    rw [if_neg hk]
    clear hk
    by_cases hk : r.kind = 5
    · rw [if_pos hk]
      exact h.commit_ r hr
    rw [if_neg hk]
    clear hk
    by_cases hk : r.kind = 7
    · rw [if_pos hk]
      exact h.end_ r
    rw [if_neg hk]
    clear hk
    by_cases hk : r.kind = 8
    · rw [if_pos hk]
      exact h.out_ r
    rw [if_neg hk]
    clear hk
    by_cases hk : r.kind = 9
    · rw [if_pos hk]
      exact h.in_ r
    rw [if_neg hk]
    clear hk
    by_cases hk : r.kind = 10
    · rw [if_pos hk]
      exact h.gone_ r
    rw [if_neg hk]
    clear hk
    exact h1
def stZ : St := ⟨0, 0, 0, 0, [], [], [], []⟩
/-- Records one behind the other. -/
def applyL : St → List Rc → St × Int
  | s, [] => (s, 0)
  | s, r :: l => if (fFollow s r).2 = 0 then applyL (fFollow s r).1 l else (stZ, (fFollow s r).2)
end Go.Proofs.YtalhbblmnahcdaaGreat.Led
