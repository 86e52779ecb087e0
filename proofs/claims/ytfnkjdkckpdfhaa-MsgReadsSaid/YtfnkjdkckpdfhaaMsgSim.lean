/-
  Layer 10: the document's way to read (a place within the whole bytes) and the code's (what is left) go side by side. Conditions: none.
-/
import Derived.Test.YtfnkjdkckpdfhaaMsgIn
import Derived.Test.YtfnkjdkckpdfhaaMsgBack2
namespace Go.Proofs.Ytfnkjdkckpdfhaa.Msg
set_option maxRecDepth 100000
open Go.RowKit Go.Proofs.Ytfnkjdkckpdfhaa.Mem Go.Proofs.Ytfnkjdkckpdfhaa.Item Go.Proofs.Ytfnkjdkckpdfhaa.Wire

theorem left_size (s : ByteArray) (a : Nat) (h : a ≤ s.size) : (s.extract a s.size).size = s.size - a := by rw [ByteArray.size_extract]; omega
theorem head_num (u : ByteArray) (n : Nat) (h : n ≤ u.size) : Wire.num u n = head u n := by
  unfold Wire.num head tk
  rw [if_neg (by omega)]
theorem num_short (u : ByteArray) (n : Nat) (h : u.size < n) : Wire.num u n = 0 := by
  unfold Wire.num tk
  rw [if_pos h]
  rfl
theorem left_next (s : ByteArray) (a n : Nat) (h : a + n ≤ s.size) : s.extract (a + n) s.size = rest (s.extract a s.size) n := by
  unfold rest
  rw [if_neg (by rw [left_size s a (by omega)]; omega)]
  apply ba_ext
  rw [ext_list, ext_list, ext_list, left_size s a (by omega)]
  have hs : s.data.toList.length = s.size := toList_size s
  rw [List.take_of_length_le (show s.data.toList.length ≤ s.size by omega), List.take_of_length_le (by rw [List.length_drop]; omega), List.drop_drop]
/-- Once it is bad, it stays bad. -/
theorem in_bad (k : Nat) (s : ByteArray) (a : Nat) : inV k s a true = 0 ∧ inA k s a true = a ∧ inB k s a true = true := ⟨rfl, rfl, rfl⟩
/-- A number is read: a byte, a count, a number. -/
theorem sim_num (k : Nat) (hk : k ≠ 1) (s : ByteArray) (a : Nat) (ha : a ≤ s.size) :
    inB k s a false = brk (s.extract a s.size) false (sz k) ∧ (inB k s a false = false → inV k s a false = IntKind.i64.wrap (Wire.num (s.extract a s.size) (sz k) : Nat) ∧ s.extract (inA k s a false) s.size = rest (s.extract a s.size) (sz k) ∧ inA k s a false ≤ s.size ∧ inA k s a false = a + sz k) := by
  have hu := left_size s a ha
  unfold inB inV inA okZ brk
  by_cases h : (s.extract a s.size).size < sz k
  · rw [if_pos h, decide_eq_true h]
    simp
  · rw [if_neg h, decide_eq_false h, decide_eq_false hk]
    simp only [Bool.not_false, Bool.false_and, Bool.and_true, if_true, true_and]
    intro _
    rw [head_num _ _ (by omega)]
    have hle : a + sz k ≤ s.size := by
      rw [hu] at h
      have := sz_pos k
      omega
    exact ⟨rfl, left_next s a (sz k) hle, hle, trivial⟩
/-- A truth is read. -/
theorem sim_bool (s : ByteArray) (a : Nat) (ha : a ≤ s.size) :
    inB 1 s a false = (if 1 < Wire.num (s.extract a s.size) 1 then true else brk (s.extract a s.size) false 1) ∧ (inB 1 s a false = false → (inV 1 s a false == 1) = (Wire.num (s.extract a s.size) 1 == 1) ∧ s.extract (inA 1 s a false) s.size = rest (s.extract a s.size) 1 ∧ inA 1 s a false ≤ s.size ∧ inA 1 s a false = a + 1 ∧ ¬ 1 < Wire.num (s.extract a s.size) 1) := by
  have hu := left_size s a ha
  obtain ⟨u, hue⟩ : ∃ u, s.extract a s.size = u := ⟨_, rfl⟩
  have hl := left_next s a 1
  unfold inB inV inA okZ brk
  rw [hue] at hu hl ⊢
  by_cases h : u.size < 1
  · rw [if_pos h, decide_eq_true (show u.size < sz 1 from h), num_short u 1 h]
    simp
  · rw [if_neg h, decide_eq_false (show ¬ u.size < sz 1 from h), head_num u 1 (by omega)]
    by_cases h1 : 1 < head u 1
    · rw [if_pos h1, decide_eq_true h1]
      simp
    · rw [if_neg h1, decide_eq_false h1]
      simp only [Bool.not_false, Bool.and_false, Bool.and_true, if_true, true_and]
      intro _
      refine ⟨?_, hl (by omega), by show a + 1 ≤ s.size; omega, rfl, h1⟩
      show (IntKind.i64.wrap ((head u 1 : Nat) : Int) == 1) = _
      rcases (show head u 1 = 0 ∨ head u 1 = 1 by omega) with h2 | h2 <;> rw [h2] <;> rfl
/-- The record's kind. -/
theorem sim_kind (s : ByteArray) : inV 0 s 0 false = (Wire.num s 1 : Nat) ∧ inB 0 s 0 false = brk s false 1 ∧ (inB 0 s 0 false = false → inA 0 s 0 false = 1 ∧ s.extract 1 s.size = rest s 1 ∧ 1 ≤ s.size) := by
  have e : s.extract 0 s.size = s := by
    apply ba_ext
    rw [ext_list, List.drop_zero, List.take_of_length_le (by rw [toList_size]; exact Nat.le_refl _)]
  obtain ⟨h1, h2⟩ := sim_num 0 (by decide) s 0 (Nat.zero_le _)
  rw [e] at h1 h2
  replace h1 : inB 0 s 0 false = brk s false 1 := h1
  have hlt := num_lt s 1 1 (Nat.le_refl _)
  rw [show (256 : Nat) ^ 1 = 256 from rfl] at hlt
  refine ⟨?_, h1, fun hb => ?_⟩
  · by_cases hb : inB 0 s 0 false = false
    · rw [(h2 hb).1]
      show IntKind.i64.wrap ((Wire.num s 1 : Nat) : Int) = _
      rw [IntKind.wrap_i64]
      omega
    · have hb' : brk s false 1 = true := by
        rw [← h1]
        simpa using hb
      have hs : s.size < 1 := by
        unfold brk at hb'
        split at hb'
        · assumption
        · cases hb'
      rw [num_short s 1 hs]
      unfold inV okZ
      rw [e, decide_eq_true (show s.size < sz 0 from hs)]
      rfl
  · obtain ⟨_, h3, h4, h5⟩ := h2 hb
    have h6 : inA 0 s 0 false = 1 := h5
    rw [h6] at h3 h4
    exact ⟨h6, h3, h4⟩
end Go.Proofs.Ytfnkjdkckpdfhaa.Msg
