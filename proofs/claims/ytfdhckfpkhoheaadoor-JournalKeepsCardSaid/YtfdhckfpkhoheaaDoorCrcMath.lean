/-
  The plain mathematics of the check sum of layer 1: one step of the reflected division, that it is linear and loses nothing, that a half byte's table is four steps, and that texts which differ within four bytes side by side have different sums. Conditions: none.
-/
namespace Go.Proofs.YtfdhckfpkhoheaaDoor.Crc

/-- One step: the rest goes down by one place; a one that falls out takes the divisor along. -/
def st (c : BitVec 32) : BitVec 32 := (c >>> 1) ^^^ (if c.getLsbD 0 then 0xEDB88320#32 else 0#32)

theorem st_zero : st 0#32 = 0#32 := by decide

theorem st_xor (a b : BitVec 32) : st (a ^^^ b) = st a ^^^ st b := by
  have h1 : (a ^^^ b) >>> 1 = (a >>> 1) ^^^ (b >>> 1) := by
    apply BitVec.eq_of_getLsbD_eq
    intro i _
    simp
  unfold st
  rw [h1, BitVec.getLsbD_xor]
  cases a.getLsbD 0 <;> cases b.getLsbD 0 <;> simp
  · rw [BitVec.xor_assoc]
  · rw [BitVec.xor_assoc, BitVec.xor_assoc, BitVec.xor_comm (0xEDB88320#32)]
  · have e : a >>> 1 ^^^ 0xEDB88320#32 ^^^ (b >>> 1 ^^^ 0xEDB88320#32) = a >>> 1 ^^^ b >>> 1 ^^^ (0xEDB88320#32 ^^^ 0xEDB88320#32) := by
      ac_rfl
    rw [e]; simp

/-- What has a zero at its low end goes down, and no more. -/
theorem st_even (c : BitVec 32) (h : c.getLsbD 0 = false) : st c = c >>> 1 := by
  unfold st; rw [h]; simp

/-- Nothing but zero becomes zero. -/
theorem st_inj0 (c : BitVec 32) (h : st c = 0#32) : c = 0#32 := by
  by_cases h0 : c.getLsbD 0 = true
  · exfalso
    have h1 : (st c).getLsbD 31 = true := by
      unfold st; rw [h0]
      simp
    rw [h] at h1
    simp at h1
  · have h0' : c.getLsbD 0 = false := by simpa using h0
    rw [st_even c h0'] at h
    apply BitVec.eq_of_getLsbD_eq
    intro i hi
    cases i with
    | zero => simpa using h0'
    | succ i =>
      have := congrArg (fun x => x.getLsbD i) h
      simp [BitVec.getLsbD_ushiftRight] at this
      rw [Nat.add_comm i 1]
      simpa using this

/-- n steps. -/
def sts : Nat → BitVec 32 → BitVec 32
  | 0, c => c
  | n + 1, c => sts n (st c)

theorem sts_zero (n : Nat) : sts n 0#32 = 0#32 := by
  induction n with
  | zero => rfl
  | succ n ih => rw [sts, st_zero, ih]
theorem sts_xor (n : Nat) : ∀ a b : BitVec 32, sts n (a ^^^ b) = sts n a ^^^ sts n b := by
  induction n with
  | zero => intro a b; rfl
  | succ n ih => intro a b; rw [sts, st_xor, ih]; rfl
theorem sts_inj0 (n : Nat) : ∀ c : BitVec 32, sts n c = 0#32 → c = 0#32 := by
  induction n with
  | zero => intro c h; exact h
  | succ n ih => intro c h; exact st_inj0 c (ih _ h)
theorem sts_add (m n : Nat) : ∀ c : BitVec 32, sts (m + n) c = sts n (sts m c) := by
  induction m with
  | zero => intro c; rw [Nat.zero_add]; rfl
  | succ m ih => intro c; rw [Nat.add_right_comm, sts, ih]; rfl
theorem sts_inj (n : Nat) (a b : BitVec 32) (h : sts n a = sts n b) : a = b := by
  have : sts n (a ^^^ b) = 0#32 := by rw [sts_xor, h]; simp
  have := sts_inj0 n _ this
  exact BitVec.xor_eq_zero_iff.1 this
/-- What has n zeros at its low end goes down by n places. -/
theorem sts_low (n : Nat) : ∀ c : BitVec 32, (∀ i, i < n → c.getLsbD i = false) → sts n c = c >>> n := by
  induction n with
  | zero => intro c _; simp [sts]
  | succ n ih =>
    intro c h
    rw [sts, st_even c (h 0 (by omega)), ih]
    · rw [Nat.add_comm, BitVec.shiftRight_add]
    · intro i hi
      rw [BitVec.getLsbD_ushiftRight]
      exact h _ (by omega)

/-- The table of the half bytes. -/
def tab : List Int := [0, 498536548, 997073096, 651767980, 1994146192, 1802195444, 1303535960, 1342533948, 3988292384, 4027552580, 3604390888, 3412177804, 2607071920, 2262029012, 2685067896, 3183342108]
theorem tab_length : tab.length = 16 := rfl

theorem tab_sts : ∀ i : Fin 16, tab.getD i.val 0 = ((sts 4 (BitVec.ofNat 32 i.val)).toNat : Int) := by decide

theorem low_of (c : BitVec 32) : c &&& 15#32 = BitVec.ofNat 32 (c.toNat % 16) := by
  apply BitVec.eq_of_toNat_eq
  rw [BitVec.toNat_and, BitVec.toNat_ofNat, show 15 % 2 ^ 32 = 2 ^ 4 - 1 by decide, Nat.and_two_pow_sub_one_eq_mod, BitVec.toNat_ofNat]
  have := c.isLt
  omega

/-- Four steps are one look into the table. -/
theorem sts4_tab (c : BitVec 32) : sts 4 c = (c >>> 4) ^^^ sts 4 (c &&& 15#32) := by
  have hsplit : c = (c ^^^ (c &&& 15#32)) ^^^ (c &&& 15#32) := by
    rw [BitVec.xor_assoc]; simp
  have hlow : ∀ i, i < 4 → (c ^^^ (c &&& 15#32)).getLsbD i = false := by
    intro i hi
    have h15 : (15#32).getLsbD i = true := by
      have : i = 0 ∨ i = 1 ∨ i = 2 ∨ i = 3 := by omega
      rcases this with rfl | rfl | rfl | rfl <;> rfl
    rw [BitVec.getLsbD_xor, BitVec.getLsbD_and, h15]
    simp
  have h4 : (c ^^^ (c &&& 15#32)) >>> 4 = c >>> 4 := by
    apply BitVec.eq_of_getLsbD_eq
    intro i _
    rw [BitVec.getLsbD_ushiftRight, BitVec.getLsbD_ushiftRight, BitVec.getLsbD_xor, BitVec.getLsbD_and]
    have h15 : (15#32).getLsbD (4 + i) = false := by
      have h := Nat.pow_le_pow_right (n := 2) (by omega) (show 4 ≤ 4 + i by omega)
      exact Nat.testBit_lt_two_pow (Nat.lt_of_lt_of_le (show 15 < 2 ^ 4 by decide) h)
    rw [h15]; simp
  calc sts 4 c = sts 4 ((c ^^^ (c &&& 15#32)) ^^^ (c &&& 15#32)) := by rw [← hsplit]
    _ = sts 4 (c ^^^ (c &&& 15#32)) ^^^ sts 4 (c &&& 15#32) := sts_xor 4 _ _
    _ = (c >>> 4) ^^^ sts 4 (c &&& 15#32) := by rw [sts_low 4 _ hlow, h4]

/-- A byte as the low end of 32 bits. -/
def by32 (b : UInt8) : BitVec 32 := BitVec.ofNat 32 b.toNat
/-- One byte goes in. -/
def sb (c : BitVec 32) (b : UInt8) : BitVec 32 := sts 8 (c ^^^ by32 b)
/-- A text goes in. -/
def sl (c : BitVec 32) (l : List UInt8) : BitVec 32 := l.foldl sb c
theorem sl_nil (c : BitVec 32) : sl c [] = c := rfl
theorem sl_append (c : BitVec 32) (a b : List UInt8) : sl c (a ++ b) = sl (sl c a) b := List.foldl_append
theorem sl_snoc (c : BitVec 32) (a : List UInt8) (b : UInt8) : sl c (a ++ [b]) = sb (sl c a) b := by rw [sl_append]; rfl

/-- Two halves are a byte. -/
theorem halves (c : BitVec 32) (b : UInt8) : sts 4 (sts 4 (c ^^^ by32 b)) = sb c b := by
  unfold sb; rw [← sts_add 4 4]

/-- The document's own step: the low bit of the rest against a bit of the byte. -/
def bitOf (b : UInt8) (k : Nat) : BitVec 32 := (by32 b >>> k) &&& 1#32
def stb (c bit : BitVec 32) : BitVec 32 := if (c &&& 1#32) ≠ bit then (c >>> 1) ^^^ 0xEDB88320#32 else c >>> 1
def rn (c : BitVec 32) (b : UInt8) : Nat → BitVec 32
  | 0 => c
  | k + 1 => stb (rn c b k) (bitOf b k)
theorem and1 (c : BitVec 32) : c &&& 1#32 = if c.getLsbD 0 then 1#32 else 0#32 := by
  apply BitVec.eq_of_getLsbD_eq
  intro i hi
  rw [BitVec.getLsbD_and]
  cases i with
  | zero => rcases Bool.eq_false_or_eq_true (c.getLsbD 0) with h | h <;> rw [h] <;> rfl
  | succ i =>
    have h1 : (1#32).getLsbD (i + 1) = false := by
      have : (1 : Nat) < 2 ^ (i + 1) := Nat.lt_of_lt_of_le (by decide : 1 < 2 ^ 1) (Nat.pow_le_pow_right (by omega) (by omega))
      exact Nat.testBit_lt_two_pow this
    rcases Bool.eq_false_or_eq_true (c.getLsbD 0) with h | h <;> rw [h, h1] <;> simp
theorem stb_st (c d : BitVec 32) : stb c (d &&& 1#32) = st (c ^^^ (d &&& 1#32)) := by
  have hs : (c ^^^ (d &&& 1#32)) >>> 1 = c >>> 1 := by
    apply BitVec.eq_of_getLsbD_eq
    intro i _
    have h1 : (1#32).getLsbD (1 + i) = false := by
      have : (1 : Nat) < 2 ^ (1 + i) := Nat.lt_of_lt_of_le (by decide : 1 < 2 ^ 1) (Nat.pow_le_pow_right (by omega) (by omega))
      exact Nat.testBit_lt_two_pow this
    rw [BitVec.getLsbD_ushiftRight, BitVec.getLsbD_ushiftRight, BitVec.getLsbD_xor, BitVec.getLsbD_and, h1]
    simp
  unfold stb st
  rw [hs, and1 c, and1 d, BitVec.getLsbD_xor]
  cases c.getLsbD 0 <;> cases d.getLsbD 0 <;> simp
theorem sts_succ (n : Nat) (c : BitVec 32) : sts (n + 1) c = st (sts n c) := sts_add n 1 c
theorem rn_sts (c : BitVec 32) (b : UInt8) (k : Nat) : rn c b k ^^^ (by32 b >>> k) = sts k (c ^^^ by32 b) := by
  induction k with
  | zero => simp [rn, sts]
  | succ k ih =>
    rw [sts_succ, ← ih, rn, bitOf, stb_st]
    have e : rn c b k ^^^ by32 b >>> k = (rn c b k ^^^ ((by32 b >>> k) &&& 1#32)) ^^^ ((by32 b >>> k) ^^^ ((by32 b >>> k) &&& 1#32)) := by
      generalize (by32 b >>> k) &&& 1#32 = u
      have : rn c b k ^^^ u ^^^ (by32 b >>> k ^^^ u) = rn c b k ^^^ by32 b >>> k ^^^ (u ^^^ u) := by ac_rfl
      rw [this]; simp
    rw [(congrArg st e).trans (st_xor _ _)]
    congr 1
    rw [st_even]
    · rw [BitVec.shiftRight_add]
      apply BitVec.eq_of_getLsbD_eq
      intro i _
      have h1 : (1#32).getLsbD (1 + i) = false := by
        have : (1 : Nat) < 2 ^ (1 + i) := Nat.lt_of_lt_of_le (by decide : 1 < 2 ^ 1) (Nat.pow_le_pow_right (by omega) (by omega))
        exact Nat.testBit_lt_two_pow this
      simp only [BitVec.getLsbD_ushiftRight, BitVec.getLsbD_xor, BitVec.getLsbD_and, h1, Bool.and_false, Bool.xor_false]
    · rw [BitVec.getLsbD_xor, BitVec.getLsbD_and, show (1#32).getLsbD 0 = true from rfl]
      simp
theorem rn_byte (c : BitVec 32) (b : UInt8) : rn c b 8 = sb c b := by
  have h := rn_sts c b 8
  have h0 : by32 b >>> 8 = 0#32 := by
    apply BitVec.eq_of_toNat_eq
    rw [BitVec.toNat_ushiftRight, Nat.shiftRight_eq_div_pow]
    unfold by32
    rw [BitVec.toNat_ofNat]
    have := b.toNat_lt
    have e : (0#32).toNat = 0 := rfl
    rw [e]
    omega
  rw [h0, BitVec.xor_zero] at h
  exact h

/-- The sum of texts, from a sum on. -/
def more (sum : BitVec 32) (l : List UInt8) : BitVec 32 := ~~~ sl (~~~ sum) l
theorem more_append (c : BitVec 32) (a b : List UInt8) : more c (a ++ b) = more (more c a) b := by
  unfold more; rw [sl_append, BitVec.not_not]
theorem more_nil (c : BitVec 32) : more c [] = c := by unfold more; rw [sl_nil, BitVec.not_not]

end Go.Proofs.YtfdhckfpkhoheaaDoor.Crc
