/-
  Layer 10: what is read to its end is put so: the bytes of a record that was read are those that were read. Conditions: none.
-/
import Derived.Test.YtfnkjdkckpdfhaaMsgDec
namespace Go.Proofs.Ytfnkjdkckpdfhaa.Msg
set_option maxRecDepth 100000
open Go.RowKit Go.Proofs.Ytfnkjdkckpdfhaa.Mem Go.Proofs.Ytfnkjdkckpdfhaa.Item Go.Proofs.Ytfnkjdkckpdfhaa.Wire

/-- Bytes that are there: the first n of them, and the rest. -/
theorem tk_rest {s : ByteArray} {n : Nat} (h : n ≤ s.size) : s = bs ((tk s n).data.toList ++ (rest s n).data.toList) := by
  unfold tk rest
  rw [if_neg (by omega), if_neg (by omega)]
  apply ba_ext
  rw [bs_list, ext_list, ext_list, List.drop_zero, List.take_of_length_le (show s.data.toList.length ≤ s.size by rw [toList_size]; exact Nat.le_refl _)]
  exact (List.take_append_drop n _).symm
theorem brk_true (s : ByteArray) (n : Nat) : brk s true n = true := by unfold brk; split <;> rfl
theorem brk_false {s : ByteArray} {b : Bool} {n : Nat} (h : brk s b n = false) : n ≤ s.size ∧ b = false := by
  unfold brk at h
  split at h
  · cases h
  · exact ⟨by omega, h⟩
theorem tk_len {s : ByteArray} {n : Nat} (h : n ≤ s.size) : (tk s n).data.toList.length = n := by
  rw [toList_size]
  unfold tk
  rw [if_neg (by omega), ByteArray.size_extract]
  omega
/-- A number that was read has just these bytes. -/
theorem num_put {s : ByteArray} {n : Nat} (h : n ≤ s.size) : s = bs (big (Wire.num s n) n ++ (rest s n).data.toList) := by
  have e : big (Wire.num s n) n = (tk s n).data.toList := by
    unfold Wire.num
    have := big_valN (tk s n).data.toList
    rwa [tk_len h] at this
  rw [e]
  exact tk_rest h
theorem u64_wrap {m : Nat} (h : m < 18446744073709551616) : u64 (IntKind.i64.wrap (m : Int)) = m := by
  have e := u64_cast (IntKind.i64.wrap (m : Int))
  rw [IntKind.wrap_i64] at e ⊢
  omega
theorem num_lt6 (s : ByteArray) : Wire.num s 8 < 18446744073709551616 := Nat.lt_of_lt_of_eq (num_lt s 8 8 (Nat.le_refl _)) (by decide)
theorem num_put8 {s : ByteArray} (h : 8 ≤ s.size) : s = bs (nums [IntKind.i64.wrap (Wire.num s 8 : Nat)] ++ (rest s 8).data.toList) := by
  have e : nums [IntKind.i64.wrap (Wire.num s 8 : Nat)] = big (Wire.num s 8) 8 := by
    unfold nums
    simp only [List.flatMap_cons, List.flatMap_nil, List.append_nil]
    rw [u64_wrap (num_lt6 s)]
  rw [e]
  exact num_put h
theorem bs_eq (s : ByteArray) : bs s.data.toList = s := ba_ext (by rw [bs_list])
theorem put_next {s t : ByteArray} {l : List UInt8} (h : s = bs (l ++ t.data.toList)) {m : List UInt8} {t' : ByteArray} (h' : t = bs (m ++ t'.data.toList)) : s = bs ((l ++ m) ++ t'.data.toList) := by
  rw [h, h', bs_list, List.append_assoc]
theorem tid_back {s : ByteArray} (h : brkTid s false = false) : s = bs (tidB (readTid s false) ++ (restTid s).data.toList) := by
  have h0 := h
  unfold brkTid at h
  obtain ⟨h3, h⟩ := brk_false h
  obtain ⟨h2, h⟩ := brk_false h
  obtain ⟨h1, _⟩ := brk_false h
  have e : readTid s false = ⟨n1 s, n2 s, n3 s⟩ := by unfold readTid; rw [h0]; rfl
  have e2 : tidB ⟨n1 s, n2 s, n3 s⟩ = (nums [n1 s] ++ nums [n2 s]) ++ nums [n3 s] := by unfold tidB nums; simp
  have q1 : s = bs (nums [n1 s] ++ (rest s 8).data.toList) := by unfold n1; exact num_put8 h1
  have q2 : rest s 8 = bs (nums [n2 s] ++ (rest (rest s 8) 8).data.toList) := by unfold n2; exact num_put8 h2
  have q3 : rest (rest s 8) 8 = bs (nums [n3 s] ++ (restTid s).data.toList) := by unfold n3 restTid; exact num_put8 h3
  rw [e, e2]
  exact put_next (put_next q1 q2) q3
theorem bool_back {s : ByteArray} (h : (if 1 < Wire.num s 1 then true else brk s false 1) = false) : s = bs ([if (Wire.num s 1 == 1) then 1 else 0] ++ (if 1 < Wire.num s 1 then nil else rest s 1).data.toList) := by
  by_cases h1 : 1 < Wire.num s 1
  · rw [if_pos h1] at h; cases h
  · rw [if_neg h1] at h ⊢
    obtain ⟨h2, _⟩ := brk_false h
    have q := num_put h2
    have e : big (Wire.num s 1) 1 = [if (Wire.num s 1 == 1) then 1 else 0] := by
      rcases (show Wire.num s 1 = 0 ∨ Wire.num s 1 = 1 by omega) with h3 | h3 <;> rw [h3] <;> rfl
    rwa [e] at q
theorem item_back {s : ByteArray} {b : Bool} (h : b5 s b = false) : s = bs (itB (itOf s) ++ (r5 s).data.toList) ∧ b = false := by
  unfold b5 at h
  obtain ⟨h5, h⟩ := brk_false h
  unfold b4 at h
  by_cases h1 : 1 < Wire.num (r3 s) 1
  · rw [if_pos h1] at h; cases h
  · rw [if_neg h1] at h
    obtain ⟨h4, h⟩ := brk_false h
    unfold b3 at h
    obtain ⟨h3, h⟩ := brk_false h
    unfold b2 at h
    obtain ⟨h2, h⟩ := brk_false h
    unfold b1 at h
    obtain ⟨h11, h⟩ := brk_false h
    refine ⟨?_, h⟩
    have e4 : r4 s = rest (r3 s) 1 := by unfold r4; rw [if_neg h1]
    have q4 : r3 s = bs ([if (Wire.num (r3 s) 1 == 1) then 1 else 0] ++ (r4 s).data.toList) := by
      have q := num_put h4
      have e : big (Wire.num (r3 s) 1) 1 = [if (Wire.num (r3 s) 1 == 1) then 1 else 0] := by
        rcases (show Wire.num (r3 s) 1 = 0 ∨ Wire.num (r3 s) 1 = 1 by omega) with h3 | h3 <;> rw [h3] <;> rfl
      rw [e] at q
      rw [e4]
      exact q
    obtain ⟨x1, hx1⟩ : ∃ x, IntKind.i64.wrap (Wire.num s 8 : Nat) = x := ⟨_, rfl⟩
    obtain ⟨x2, hx2⟩ : ∃ x, IntKind.i64.wrap (Wire.num (r1 s) 8 : Nat) = x := ⟨_, rfl⟩
    obtain ⟨x3, hx3⟩ : ∃ x, IntKind.i64.wrap (Wire.num (r2 s) 8 : Nat) = x := ⟨_, rfl⟩
    obtain ⟨x5, hx5⟩ : ∃ x, IntKind.i64.wrap (Wire.num (r4 s) 8 : Nat) = x := ⟨_, rfl⟩
    have q1 := num_put8 h11
    rw [hx1, show rest s 8 = r1 s from rfl] at q1
    have q2 := num_put8 h2
    rw [hx2, show rest (r1 s) 8 = r2 s from rfl] at q2
    have q3 := num_put8 h3
    rw [hx3, show rest (r2 s) 8 = r3 s from rfl] at q3
    have q5 := num_put8 h5
    rw [hx5, show rest (r4 s) 8 = r5 s from rfl] at q5
    have q := put_next (put_next (put_next (put_next q1 q2) q3) q4) q5
    have e : itB (itOf s) = (((nums [x1] ++ nums [x2]) ++ nums [x3]) ++ [if (Wire.num (r3 s) 1 == 1) then 1 else 0]) ++ nums [x5] := by
      unfold itB itOf
      rw [hx1, hx2, hx3, hx5]
      unfold nums
      simp
    rw [e]
    exact q
theorem items_back (n : Nat) (s : ByteArray) (b : Bool) (h : brkL n s b = false) : s = bs ((readL n s).flatMap itB ++ (restL n s).data.toList) ∧ b = false := by
  induction n with
  | zero => exact ⟨by simp [readL, restL, bs_eq], h⟩
  | succ n ih =>
    unfold brkL at h
    obtain ⟨h1, h2⟩ := item_back h
    obtain ⟨i1, i2⟩ := ih h2
    refine ⟨?_, i2⟩
    have q := put_next i1 h1
    rw [readL, List.flatMap_append]
    simpa [restL] using q
theorem nodes_back (n : Nat) (s : ByteArray) (b : Bool) (h : brkN n s b = false) : s = bs (nums (readN n s) ++ (restN n s).data.toList) ∧ b = false := by
  induction n with
  | zero => exact ⟨by simp [readN, restN, nums, bs_eq], h⟩
  | succ n ih =>
    unfold brkN at h
    obtain ⟨h1, h2⟩ := brk_false h
    obtain ⟨i1, i2⟩ := ih h2
    refine ⟨?_, i2⟩
    have q := put_next i1 (num_put8 h1)
    have e : nums (readN (n + 1) s) = nums (readN n s) ++ nums [IntKind.i64.wrap (Wire.num (restN n s) 8 : Nat)] := by rw [readN]; unfold nums; rw [List.flatMap_append]
    rw [e]
    exact q
theorem few_back {s : ByteArray} (h : fewB s false = false) : fewN s = Wire.num s 2 ∧ fewR s = rest s 2 ∧ 2 ≤ s.size := by
  unfold fewB at h
  by_cases h1 : 16 < Wire.num s 2
  · rw [if_pos h1] at h; cases h
  · rw [if_neg h1] at h
    exact ⟨by unfold fewN; rw [if_neg h1], by unfold fewR; rw [if_neg h1], (brk_false h).1⟩
theorem itemsB_back {s : ByteArray} (h : brkItems s false = false) : s = bs (itemsB (readItems s false) ++ (restItems s).data.toList) := by
  have h0 := h
  unfold brkItems at h
  obtain ⟨q, hb⟩ := items_back _ _ _ h
  obtain ⟨f1, f2, f3⟩ := few_back hb
  have e : readItems s false = readL (fewN s) (fewR s) := by
    unfold readItems
    unfold brkItems at h0
    rw [h0]
    rfl
  have q2 := num_put f3
  rw [← f1, ← f2] at q2
  have q3 := put_next q2 q
  unfold itemsB
  rw [e, readL_length]
  exact q3
theorem nodesB_back {s : ByteArray} (h : brkNodes s false = false) : s = bs (nodesB (readNodes s false) ++ (restNodes s).data.toList) := by
  have h0 := h
  unfold brkNodes at h
  obtain ⟨q, hb⟩ := nodes_back _ _ _ h
  obtain ⟨f1, f2, f3⟩ := few_back hb
  have e : readNodes s false = readN (fewN s) (fewR s) := by
    unfold readNodes
    unfold brkNodes at h0
    rw [h0]
    rfl
  have q2 := num_put f3
  rw [← f1, ← f2] at q2
  have q3 := put_next q2 q
  unfold nodesB
  rw [e, readN_length]
  exact q3
end Go.Proofs.Ytfnkjdkckpdfhaa.Msg
