/-
  What layer 2's laws share: 'put' puts a thing, 'awake' answers true. Conditions: none.
-/
import Derived.Test.YtbjjkbaigpophaaWireWriter
namespace Go.Proofs.Ytbjjkbaigpophaa.Wire
open Go.RowKit Go.Proofs.Ytbjjkbaigpophaa.Mem

/-- What a thing leaves. -/
def putSt (st : Option (List UInt8)) (t : Th) : Option (List UInt8) :=
  if t.k < 0 ∨ 4 < t.k then st else match putB t with | some l => st.map (· ++ l) | none => none
theorem nums_one (n : Int) : nums [n] = big (u64 n) 8 := by unfold nums; simp
theorem big1 (b : Bool) : big (if b then 1 else 0) 1 = [if b then 1 else 0] := by cases b <;> rfl

set_option maxHeartbeats 1000000 in
theorem law_put (w : World) (base g : Nat) (r : Option Nat) (st : Option (List UInt8)) (t : Th) (h : Wr w base g r st) (hl : (st.getD []).length ≤ 900000000) (hs : t.s.size ≤ 1000000000) :
    Calls Try.prog 10 #[.pointer (some ⟨g, 0, none⟩), t.val] w fun e w' => e = .returned (.tuple #[]) ∧ ∃ r', Wr w' base g r' (putSt st t) ∧ Turn w w' g r r' := by
  obtain ⟨k, n, s⟩ := t
  simp only at hs
  have hlt := h.lt
  have HW := Lib.hid (h.later (below_alloc w (.cells #[.int .i64 k, .int .i64 n, .string s] 29)))
  have HB := Lib.hid (below_alloc w (.cells #[.int .i64 k, .int .i64 n, .string s] 29))
  have HLT := Lib.hid hlt
  clear h hlt
  by_cases h0 : k = 0
  · subst h0
    have HF := Lib.hid (show putSt st ⟨0, n, s⟩ = st.map (· ++ [UInt8.ofNat (u64 n)]) by simp [putSt, putB])
    have HU := Lib.hid (byte_u64 n)
    unfold Th.val
    go_enter Try.func10, Try.ntmps10
    go_wp2_with fail
    rw [HU.out]
    refine (byte_any _ base g r _ [UInt8.ofNat (u64 n)] ⟨w.heap.size + 1, 0, none⟩ 1 (HW.out.later (below_alloc _ _)) ?_ (by show _ + 1 ≤ _; omega)).mono ?_
    · have h := cell_one_new (w.alloc (.cells #[.int .i64 0, .int .i64 n, .string s] 29)) (bv (UInt8.ofNat (u64 n))) 5
      rw [World.size_alloc] at h
      exact h
    rintro e w2 ⟨rfl, r2, hw2, ht2⟩
    rw [← HF.out] at hw2
    have HW2 := Lib.hid hw2
    have HT2 := Lib.hid (Turn.before HB.out (Turn.before (below_alloc _ _) ht2))
    clear hw2 ht2
    go_wp2
    go_returns
    exact ⟨rfl, r2, HW2.out, HT2.out⟩
  by_cases h1 : k = 1
  · subst h1
    have HF := Lib.hid (show putSt st ⟨1, n, s⟩ = st.map (· ++ [if (n == 1) = true then 1 else 0]) by
      by_cases e : n = 1
      · subst e; simp [putSt, putB, big]
      · have e2 : (n == 1) = false := by simpa using e
        simp [putSt, putB, big, e])
    generalize hb : (n == 1) = b at *
    clear h0
    unfold Th.val
    go_enter Try.func10, Try.ntmps10
    go_wp2_with fail
    refine (bool_any _ base g r _ b HW.out (by omega)).mono ?_
    rintro e w2 ⟨rfl, r2, hw2, ht2⟩
    rw [← HF.out] at hw2
    have HW2 := Lib.hid hw2
    have HT2 := Lib.hid (Turn.before HB.out ht2)
    clear hw2 ht2
    go_wp2
    go_returns
    exact ⟨rfl, r2, HW2.out, HT2.out⟩
  by_cases h2 : k = 2
  · subst h2
    have HF := Lib.hid (show putSt st ⟨2, n, s⟩ = countSt st n by
      unfold putSt putB countSt
      by_cases hn : n < 0 ∨ 65535 < n
      · simp [hn]
      · simp [hn])
    clear h0 h1
    unfold Th.val
    go_enter Try.func10, Try.ntmps10
    go_wp2_with fail
    refine (count_any _ base g r _ n HW.out (by omega)).mono ?_
    rintro e w2 ⟨rfl, r2, hw2, ht2⟩
    rw [← HF.out] at hw2
    have HW2 := Lib.hid hw2
    have HT2 := Lib.hid (Turn.before HB.out ht2)
    clear hw2 ht2
    go_wp2
    go_returns
    exact ⟨rfl, r2, HW2.out, HT2.out⟩
  by_cases h3 : k = 3
  · subst h3
    have HF := Lib.hid (show putSt st ⟨3, n, s⟩ = st.map (· ++ nums [n]) by
      unfold putSt putB
      rw [nums_one]
      simp)
    clear h0 h1 h2
    unfold Th.val
    go_enter Try.func10, Try.ntmps10
    go_wp2_with fail
    refine (nums_any _ base g r _ [n] (w.heap.size + 1) 1 (HW.out.later (below_alloc _ _)) (by simp; omega) (by simp) ?_ ?_ ?_).mono ?_
    · intro j hj
      obtain rfl : j = 0 := by simpa using hj
      have h := cell_one_new (w.alloc (.cells #[.int .i64 3, .int .i64 n, .string s] 29)) (.int .i64 n) 3 0 _ rfl
      rw [World.size_alloc] at h
      exact h
    · have := HLT.out.1; omega
    · intro e; have := HLT.out.2 _ e; omega
    rintro e w2 ⟨rfl, r2, hw2, ht2⟩
    rw [← HF.out] at hw2
    have HW2 := Lib.hid hw2
    have HT2 := Lib.hid (Turn.before HB.out (Turn.before (below_alloc _ _) ht2))
    clear hw2 ht2
    go_wp2
    go_returns
    exact ⟨rfl, r2, HW2.out, HT2.out⟩
  by_cases h4 : k = 4
  · subst h4
    have HF := Lib.hid (show putSt st ⟨4, n, s⟩ = textSt st s by
      unfold putSt putB textSt
      by_cases hn : 65535 < s.size
      · simp [hn]
      · simp [hn])
    clear h0 h1 h2 h3
    unfold Th.val
    go_enter Try.func10, Try.ntmps10
    go_wp2_with fail
    refine (text_any _ base g r _ s HW.out (by omega) hs).mono ?_
    rintro e w2 ⟨rfl, r2, hw2, ht2⟩
    rw [← HF.out] at hw2
    have HW2 := Lib.hid hw2
    have HT2 := Lib.hid (Turn.before HB.out ht2)
    clear hw2 ht2
    go_wp2
    go_returns
    exact ⟨rfl, r2, HW2.out, HT2.out⟩
  have HF := Lib.hid (show putSt st ⟨k, n, s⟩ = st by unfold putSt; rw [if_pos (by simp only; omega)])
  have e0 : (k == 0) = false := by simpa using h0
  have e1 : (k == 1) = false := by simpa using h1
  have e2 : (k == 2) = false := by simpa using h2
  have e3 : (k == 3) = false := by simpa using h3
  have e4 : (k == 4) = false := by simpa using h4
  clear h0 h1 h2 h3 h4
  unfold Th.val
  go_enter Try.func10, Try.ntmps10
  go_wp2_with fail
  go_returns
  exact ⟨rfl, r, by rw [HF.out]; exact HW.out, Turn.before HB.out (Turn.refl _ _ _)⟩

theorem awake_any (w : World) : Calls Try.prog 8 #[] w fun e w' => e = .returned (.bool true) ∧ Below w.heap.size w w' := by
  have HW := Lib.hid (wr_new w w.heap.size (Nat.le_refl _))
  have HB := Lib.hid (below_alloc w (.cells #[.slice none 0 0, .bool false] 27))
  go_enter Try.func8, Try.ntmps8
  go_wp2_with fail
  refine (nums_any _ w.heap.size w.heap.size none _ [1, -1] (w.heap.size + 1) 2 (HW.out.later (below_alloc _ _)) (by simp) (by simp) ?_ (by omega) (by simp)).mono ?_
  · intro j hj
    have hb : ((w.alloc (.cells #[.slice none 0 0, .bool false] 27)).alloc (.cells #[.int .i64 1, .int .i64 (-1)] 3)).heap[w.heap.size + 1]? = some (.cells #[.int .i64 1, .int .i64 (-1)] 3) := by
      have h := heap_alloc_new (w.alloc (.cells #[.slice none 0 0, .bool false] 27)) (.cells #[.int .i64 1, .int .i64 (-1)] 3)
      rw [World.size_alloc] at h
      exact h
    rw [cell_of_row _ _ _ _ _ _ hb]
    match j, hj with
    | 0, _ => rfl
    | 1, _ => rfl
  rintro e w2 ⟨rfl, r2, hw2, ht2⟩
  have HT2 := Lib.hid (Turn.before HB.out (Turn.before (below_alloc _ _) ht2))
  have HW2 := Lib.hid hw2
  clear hw2 ht2
  go_wp2_with fail
  refine (text_any _ w.heap.size w.heap.size r2 _ ⟨#[97, 98]⟩ HW2.out (by simp [nums_length]) (by decide)).mono ?_
  rintro e w3 ⟨rfl, r3, hw3, ht3⟩
  have HT3 := Lib.hid (HT2.out.trans ht3)
  have e3 : textSt ((some ([] : List UInt8)).map (· ++ nums [1, -1])) ⟨#[97, 98]⟩ = some [0, 0, 0, 0, 0, 0, 0, 1, 255, 255, 255, 255, 255, 255, 255, 255, 0, 2, 97, 98] := by decide
  rw [e3] at hw3
  have HW3 := Lib.hid hw3
  clear hw3 ht3 e3
  go_wp2_with fail
  refine (string_any _ _ _ _ _ HW3.out).mono ?_
  rintro e w4 ⟨rfl, rfl⟩
  go_wp2_with fail
  refine (bad_any _ _ _ _ _ HW3.out).mono ?_
  rintro e w4 ⟨rfl, rfl⟩
  go_wp2_with fail
  go_returns
  refine ⟨rfl, HT3.out.1.below (Nat.le_refl _) ?_⟩
  rintro k (rfl | h)
  · exact Nat.le_refl _
  · cases h
end Go.Proofs.Ytbjjkbaigpophaa.Wire
