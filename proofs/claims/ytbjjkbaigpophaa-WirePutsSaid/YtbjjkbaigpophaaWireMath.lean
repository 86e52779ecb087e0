/-
  Layer 2: what is put is read, and what is read is put so: the numbers. Conditions: none.
-/
import Derived.Test.YtbjjkbaigpophaaWireMany
namespace Go.Proofs.Ytbjjkbaigpophaa.Wire
open Go.RowKit Go.Proofs.Ytbjjkbaigpophaa.Mem

theorem valN_cons (b : UInt8) (l : List UInt8) : valN (b :: l) = b.toNat * 256 ^ l.length + valN l := by
  have h : ∀ (l : List UInt8) (a : Nat), l.foldl (fun n b => n * 256 + b.toNat) a = a * 256 ^ l.length + valN l := by
    intro l
    induction l with
    | nil => intro a; simp [valN]
    | cons c l ih =>
      intro a
      show l.foldl _ (a * 256 + c.toNat) = a * 256 ^ (l.length + 1) + l.foldl _ (0 * 256 + c.toNat)
      rw [ih, ih (0 * 256 + c.toNat), Nat.pow_succ]
      have e : a * (256 ^ l.length * 256) = a * 256 * 256 ^ l.length := by rw [Nat.mul_comm (256 ^ l.length), Nat.mul_assoc]
      rw [e, Nat.add_mul, Nat.zero_mul, Nat.zero_add]
      omega
  show l.foldl _ (0 * 256 + b.toNat) = _
  rw [h]
  simp
theorem ofNat_mod (a b : Nat) (h : a % 256 = b % 256) : UInt8.ofNat a = UInt8.ofNat b := by
  apply UInt8.toNat_inj.1
  rw [UInt8.toNat_ofNat', UInt8.toNat_ofNat']
  exact h
theorem big_mod (a n k : Nat) : ∀ j, j ≤ k → big (a * 256 ^ k + n) j = big n j
  | 0, _ => rfl
  | j + 1, h => by
    rw [big, big, big_mod a n k j (by omega)]
    congr 1
    apply ofNat_mod
    obtain ⟨d, rfl⟩ : ∃ d, k = j + 1 + d := ⟨k - (j + 1), by omega⟩
    have e : a * 256 ^ (j + 1 + d) + n = n + 256 ^ j * (a * 256 ^ d * 256) := by
      rw [Nat.pow_add, Nat.pow_succ]
      have : a * (256 ^ j * 256 * 256 ^ d) = 256 ^ j * (a * 256 ^ d * 256) := by
        simp only [Nat.mul_comm, Nat.mul_left_comm, Nat.mul_assoc]
      omega
    rw [e, Nat.add_mul_div_left _ _ (Nat.pow_pos (by omega))]
    omega
theorem big_valN : ∀ (l : List UInt8), big (valN l) l.length = l
  | [] => rfl
  | b :: l => by
    rw [List.length_cons, big, valN_cons, big_mod _ _ _ _ (Nat.le_refl _), big_valN l]
    congr 1
    have h := valN_lt l
    rw [Nat.add_comm, Nat.add_mul_div_right _ _ (Nat.pow_pos (by omega)), Nat.div_eq_of_lt h, Nat.zero_add]
    simp
theorem valN_big (n : Nat) : ∀ k, n < 256 ^ k → valN (big n k) = n := by
  have h : ∀ k, valN (big n k) = n % 256 ^ k := by
    intro k
    induction k with
    | zero => simp [big, valN, Nat.mod_one]
    | succ k ih =>
      rw [big, valN_cons, ih, big_length]
      have e : (UInt8.ofNat (n / 256 ^ k)).toNat = n / 256 ^ k % 256 := by rw [UInt8.toNat_ofNat']
      rw [e, Nat.pow_succ, Nat.mod_mul, Nat.mul_comm]
      omega
  intro k hk
  rw [h, Nat.mod_eq_of_lt hk]

theorem ext_list (s : ByteArray) (i j : Nat) : (s.extract i j).data.toList = (s.data.toList.take j).drop i := by
  rw [ByteArray.data_extract]
  simp [List.drop_take]
theorem ba_ext {s t : ByteArray} (h : s.data.toList = t.data.toList) : s = t := ByteArray.ext (Array.ext' h)
theorem size_list (s : ByteArray) : s.size = s.data.toList.length := (toList_size s).symm

theorem i64_range' (x : Int) : -9223372036854775808 ≤ IntKind.i64.wrap x ∧ IntKind.i64.wrap x ≤ 9223372036854775807 := by
  rw [IntKind.wrap_i64]; omega
theorem i64_id (x : Nat) (h : x < 65536) : IntKind.i64.wrap (x : Int) = (x : Int) := by rw [IntKind.wrap_i64]; omega
/-- What 'Get' says of a text is what a reader reads of it. -/
theorem got_of_get (k : Nat) (s : ByteArray) (hk : k ≤ 4) (hs : s.size ≤ 140737488355328) : match getB k s with
    | some (t, m) => got k s false = (t, s.extract m s.size, false) ∧ m ≤ s.size ∧ 0 < m ∧ t.k = k ∧ t.ok
    | none => got k s false = (⟨k, 0, nil⟩, nil, true) := by
  have tkl : ∀ n, s.size < n → tk s n = nil := fun n h => if_pos h
  have tkg : ∀ n, ¬ s.size < n → tk s n = s.extract 0 n := fun n h => if_neg h
  have rl : ∀ n, s.size < n → rest s n = nil := fun n h => if_pos h
  have rg : ∀ n, ¬ s.size < n → rest s n = s.extract n s.size := fun n h => if_neg h
  have bl : ∀ n, s.size < n → brk s false n = true := fun n h => if_pos h
  have bg : ∀ n, ¬ s.size < n → brk s false n = false := fun n h => if_neg h
  have numl : ∀ n, s.size < n → num s n = 0 := fun n h => by unfold num; rw [tkl n h]; rfl
  have numg : ∀ n, ¬ s.size < n → num s n = head s n := fun n h => by unfold num head; rw [tkg n h]
  have hnil : ByteArray.size ⟨#[]⟩ = 0 := rfl
  have hl1 : num s 1 < 256 := num_lt s 1 1 (Nat.le_refl _)
  have hl2 : num s 2 < 65536 := num_lt s 2 2 (Nat.le_refl _)
  rcases (show k = 0 ∨ k = 1 ∨ k = 2 ∨ k = 3 ∨ k = 4 by omega) with rfl | rfl | rfl | rfl | rfl
  · by_cases h : s.size < 1
    · simp [getB, sz, h, got, numl 1 h, rl 1 h, bl 1 h]
    · rw [numg 1 h] at hl1
      have hi := i64_id (head s 1) (by omega)
      simp [getB, sz, h, got, numg 1 h, rg 1 h, bg 1 h, hi, Th.ok, hnil]
      omega
  · by_cases h : s.size < 1
    · simp [getB, sz, h, got, numl 1 h, rl 1 h, bl 1 h]
    · by_cases h1 : 1 < head s 1
      · have e : (head s 1 == 1) = false := by simp; omega
        simp [getB, sz, h, h1, got, numg 1 h, e]
      · have hi := i64_id (head s 1) (by omega)
        have e : (if head s 1 = 1 then (1 : Int) else 0) = (head s 1 : Int) := by split <;> omega
        simp [getB, sz, h, h1, got, numg 1 h, rg 1 h, bg 1 h, hi, Th.ok, e, hnil]
        omega
  · by_cases h : s.size < 2
    · simp [getB, sz, h, got, numl 2 h, rl 2 h, bl 2 h]
    · rw [numg 2 h] at hl2
      have hi := i64_id (head s 2) (by omega)
      simp [getB, sz, h, got, numg 2 h, rg 2 h, bg 2 h, hi, Th.ok, hnil]
      omega
  · by_cases h : s.size < 8
    · simp [getB, sz, h, got, numl 8 h, rl 8 h, bl 8 h]
      rfl
    · have hr := i64_range' (head s 8 : Int)
      simp [getB, sz, h, got, numg 8 h, rg 8 h, bg 8 h, Th.ok, hr, hnil]
      omega
  · by_cases h : s.size < 2
    · simp [getB, sz, h, got, numl 2 h, rl 2 h, bl 2 h, tk_nil, rest_nil, brk_nil]
    · rw [numg 2 h] at hl2
      have hz : (s.extract 2 s.size).size = s.size - 2 := by rw [ByteArray.size_extract]; omega
      by_cases h4 : s.size < 2 + head s 2
      · have e1 : tk (s.extract 2 s.size) (head s 2) = nil := if_pos (by omega)
        have e2 : rest (s.extract 2 s.size) (head s 2) = nil := if_pos (by omega)
        have e3 : brk (s.extract 2 s.size) false (head s 2) = true := if_pos (by omega)
        simp [getB, sz, h, h4, got, numg 2 h, rg 2 h, bg 2 h, e1, e2, e3]
      · have e1 : tk (s.extract 2 s.size) (head s 2) = s.extract 2 (2 + head s 2) := by
          unfold tk
          rw [if_neg (by omega)]
          apply ba_ext
          simp only [ext_list]
          rw [List.drop_zero, List.drop_take, List.drop_take, List.take_take]
          congr 1
          omega
        have e2 : rest (s.extract 2 s.size) (head s 2) = s.extract (2 + head s 2) s.size := by
          unfold rest
          rw [if_neg (by omega), hz]
          apply ba_ext
          simp only [ext_list]
          have hz2 := toList_size s
          rw [List.take_of_length_le (l := s.data.toList) (by omega), List.take_of_length_le (by rw [List.length_drop]; omega), List.drop_drop]
        have e3 : brk (s.extract 2 s.size) false (head s 2) = false := if_neg (by omega)
        simp [getB, sz, h, h4, got, numg 2 h, rg 2 h, bg 2 h, e1, e2, e3, Th.ok]
        omega

/-- What is read of a text is put as it stood there. -/
theorem put_of_get (k : Nat) (s : ByteArray) (t : Th) (m : Nat) (hk : k ≤ 4) (h : getB k s = some (t, m)) : putB t = some (s.data.toList.take m) := by
  have hz2 := toList_size s
  have hb : ∀ n, n ≤ s.size → big (head s n) n = s.data.toList.take n := by
    intro n hn
    unfold head
    have e : (s.extract 0 n).data.toList = s.data.toList.take n := by rw [ext_list, List.drop_zero]
    rw [e]
    have h := big_valN (s.data.toList.take n)
    rw [List.length_take, Nat.min_eq_left (by omega)] at h
    exact h
  have hl : ∀ n, n ≤ s.size → head s n < 256 ^ n := fun n hn => head_lt s n hn
  unfold getB at h
  split at h
  · cases h
  rename_i h0
  split at h
  · cases h
  rename_i h1
  rcases (show k = 0 ∨ k = 1 ∨ k = 2 ∨ k = 3 ∨ k = 4 by omega) with rfl | rfl | rfl | rfl | rfl <;> simp only [sz] at h0 h
  · simp only [if_pos (show (0 : Nat) < 4 by omega), Option.some.injEq, Prod.mk.injEq] at h
    obtain ⟨rfl, rfl⟩ := h
    have h2 := hl 1 (by omega)
    have hi := i64_id (head s 1) (by omega)
    have hu : u64 ((head s 1 : Nat) : Int) = head s 1 := by unfold u64; omega
    have h3 := hb 1 (by omega)
    simp only [big, Nat.pow_zero, Nat.div_one] at h3
    simp only [putB, hi, hu]
    rw [← h3]
    rfl
  · simp only [if_pos (show (1 : Nat) < 4 by omega), Option.some.injEq, Prod.mk.injEq] at h
    obtain ⟨rfl, rfl⟩ := h
    have h2 := hl 1 (by omega)
    have hi := i64_id (head s 1) (by omega)
    have h3 := hb 1 (by omega)
    have h4 : ¬ 1 < head s 1 := fun e => h1 ⟨rfl, e⟩
    rw [← h3]
    simp only [putB, hi]
    by_cases e : head s 1 = 1
    · rw [e]; rfl
    · have e2 : head s 1 = 0 := by omega
      rw [e2]; rfl
  · simp only [if_pos (show (2 : Nat) < 4 by omega), Option.some.injEq, Prod.mk.injEq] at h
    obtain ⟨rfl, rfl⟩ := h
    have h2 : head s 2 < 65536 := hl 2 (by omega)
    have hi := i64_id (head s 2) (by omega)
    have hu : u64 ((head s 2 : Nat) : Int) = head s 2 := by unfold u64; omega
    rw [← hb 2 (by omega)]
    simp only [putB, hi, hu]
    simp
    omega
  · simp only [if_pos (show (3 : Nat) < 4 by omega), Option.some.injEq, Prod.mk.injEq] at h
    obtain ⟨rfl, rfl⟩ := h
    have h2 : head s 8 < 18446744073709551616 := hl 8 (by omega)
    have hu : u64 (IntKind.i64.wrap ((head s 8 : Nat) : Int)) = head s 8 := by rw [IntKind.wrap_i64]; unfold u64; omega
    rw [← hb 8 (by omega)]
    simp only [putB, hu]
    simp
  · simp only [if_neg (show ¬ (4 : Nat) < 4 by omega)] at h
    split at h
    · cases h
    rename_i h4
    simp only [Option.some.injEq, Prod.mk.injEq] at h
    obtain ⟨rfl, rfl⟩ := h
    have h2 : head s 2 < 65536 := hl 2 (by omega)
    have hz : (s.extract 2 (2 + head s 2)).size = head s 2 := by rw [ByteArray.size_extract]; omega
    simp only [putB, hz]
    rw [if_neg (by decide), if_neg (by decide), if_neg (by decide), if_neg (by decide), if_neg (by omega), ext_list, hb 2 (by omega), List.drop_take, List.take_add, Nat.add_sub_cancel_left]

theorem get_text_size (k : Nat) (s : ByteArray) (t : Th) (m : Nat) (h : getB k s = some (t, m)) : t.s.size ≤ s.size := by
  unfold getB at h
  split at h
  · cases h
  split at h
  · cases h
  split at h
  · simp only [Option.some.injEq, Prod.mk.injEq] at h
    rw [← h.1]
    exact Nat.zero_le _
  · split at h
    · cases h
    · simp only [Option.some.injEq, Prod.mk.injEq] at h
      rw [← h.1]
      show (s.extract 2 (2 + head s 2)).size ≤ _
      rw [ByteArray.size_extract]
      omega

/-- More behind a thing's bytes changes nothing. -/
theorem get_more (k : Nat) (s u : ByteArray) (t : Th) (m : Nat) (h : getB k s = some (t, m)) (hk : k ≤ 4) : getB k (s ++ u) = some (t, m) := by
  have hz : (s ++ u).size = s.size + u.size := ByteArray.size_append ..
  have hx : ∀ i j, j ≤ s.size → (s ++ u).extract i j = s.extract i j := by
    intro i j hj
    apply ba_ext
    simp only [ext_list]
    congr 1
    rw [ByteArray.data_append, Array.toList_append, List.take_append_of_le_length (by rw [toList_size]; exact hj)]
  have hh : ∀ n, n ≤ s.size → head (s ++ u) n = head s n := fun n hn => by unfold head; rw [hx 0 n hn]
  unfold getB at h ⊢
  split at h
  · cases h
  rename_i h0
  rw [if_neg (by omega)]
  split at h
  · cases h
  rename_i h1
  have hsz : 1 ≤ sz k := by unfold sz; split <;> omega
  rw [hh 1 (by omega), if_neg h1]
  split at h
  · rename_i h2
    rw [if_pos h2, hh (sz k) (by omega)]
    exact h
  · rename_i h2
    rw [if_neg h2]
    have h5 : sz k = 2 := by
      obtain rfl : k = 4 := by omega
      rfl
    rw [hh 2 (by omega)]
    split at h
    · cases h
    rename_i h4
    rw [if_neg (by omega), hx 2 (2 + head s 2) (by omega)]
    exact h

/-- What is put is read. -/
theorem get_of_put (t : Th) (l : List UInt8) (k : Nat) (hk : t.k = k) (hk4 : k ≤ 4) (h : putB t = some l) : ∃ z, getB k ⟨l.toArray⟩ = some (z, l.length) := by
  have hh : ∀ n, head ⟨l.toArray⟩ n = valN (l.take n) := by
    intro n
    unfold head
    rw [ext_list]
    simp
  have hz : ByteArray.size ⟨l.toArray⟩ = l.length := by show l.toArray.size = _; simp
  unfold putB at h
  unfold getB
  rw [hz, hh, hh, hh]
  rcases (show k = 0 ∨ k = 1 ∨ k = 2 ∨ k = 3 ∨ k = 4 by omega) with rfl | rfl | rfl | rfl | rfl <;> rw [hk] at h <;> simp only [sz]
  · rw [if_pos (by rfl)] at h
    injection h with h
    subst h
    exact ⟨_, rfl⟩
  · rw [if_neg (by decide), if_pos (by rfl)] at h
    split at h
    · injection h with h
      subst h
      exact ⟨_, rfl⟩
    · injection h with h
      subst h
      exact ⟨_, rfl⟩
  · rw [if_neg (by decide), if_neg (by decide), if_pos (by rfl)] at h
    split at h
    · cases h
    · injection h with h
      subst h
      rw [big_length]
      exact ⟨_, rfl⟩
  · rw [if_neg (by decide), if_neg (by decide), if_neg (by decide), if_pos (by rfl)] at h
    injection h with h
    subst h
    rw [big_length]
    exact ⟨_, rfl⟩
  · rw [if_neg (by decide), if_neg (by decide), if_neg (by decide), if_neg (by decide)] at h
    split at h
    · cases h
    · rename_i h65
      injection h with h
      subst h
      have hv : valN ((big t.s.size 2 ++ t.s.data.toList).take 2) = t.s.size := by
        rw [List.take_append_of_le_length (by rw [big_length]; omega), List.take_of_length_le (by rw [big_length]; omega)]
        exact valN_big _ 2 (by omega)
      have hlen : (big t.s.size 2 ++ t.s.data.toList).length = 2 + t.s.size := by rw [List.length_append, big_length, toList_size]
      rw [hv, hlen, if_neg (by omega), if_neg (by omega), if_neg (by omega), if_neg (by omega)]
      exact ⟨_, rfl⟩
end Go.Proofs.Ytbjjkbaigpophaa.Wire
