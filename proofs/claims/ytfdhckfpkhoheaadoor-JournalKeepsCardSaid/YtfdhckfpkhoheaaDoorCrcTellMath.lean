/-
  The plain mathematics of CrcTells: bytes of which up to four side by side are turned have the same sum just if none is turned. Conditions: none.
-/
import Derived.Test.YtfdhckfpkhoheaaDoorCrcMath
namespace Go.Proofs.YtfdhckfpkhoheaaDoor.Crc

/-- v has no one at place n or above. -/
def Hi (v : BitVec 32) (n : Nat) : Prop := ∀ i, n ≤ i → v.getLsbD i = false
theorem hi_zero (n : Nat) : Hi 0#32 n := fun i _ => by simp
theorem hi_byte (b : UInt8) : Hi (by32 b) 8 := fun i hi => by
  have h : b.toNat < 2 ^ i := Nat.lt_of_lt_of_le b.toNat_lt (Nat.pow_le_pow_right (by omega) hi)
  unfold by32
  rw [BitVec.getLsbD_ofNat, Nat.testBit_lt_two_pow h]
  simp
theorem hi_xor {a b : BitVec 32} {n : Nat} (ha : Hi a n) (hb : Hi b n) : Hi (a ^^^ b) n := fun i hi => by
  rw [BitVec.getLsbD_xor, ha i hi, hb i hi]; rfl
theorem hi_mono {a : BitVec 32} {m n : Nat} (h : Hi a m) (hn : m ≤ n) : Hi a n := fun i hi => h i (by omega)
theorem hi_shl {a : BitVec 32} {n : Nat} (h : Hi a n) : Hi (a <<< 8) (n + 8) := fun i hi => by
  rw [BitVec.getLsbD_shiftLeft]
  by_cases h8 : i < 8
  · simp [h8]
  · rw [h (i - 8) (by omega)]; simp

/-- Bytes as one number, the first one lowest. -/
def pk : List UInt8 → BitVec 32
  | [] => 0#32
  | x :: xs => by32 x ^^^ (pk xs <<< 8)
theorem hi_pk (xs : List UInt8) : Hi (pk xs) (8 * xs.length) := by
  induction xs with
  | nil => exact hi_zero _
  | cons x xs ih =>
    rw [List.length_cons]
    exact hi_xor (hi_mono (hi_byte x) (by omega)) (hi_mono (hi_shl ih) (by omega))
theorem sts8_shl {v : BitVec 32} (h : Hi v 24) : sts 8 (v <<< 8) = v := by
  rw [sts_low]
  · apply BitVec.eq_of_getLsbD_eq
    intro i hi
    rw [BitVec.getLsbD_ushiftRight, BitVec.getLsbD_shiftLeft]
    by_cases h24 : i < 24
    · have e : 8 + i - 8 = i := by omega
      rw [e]
      simp
      omega
    · rw [h i (by omega)]
      have : ¬ 8 + i < 32 := by omega
      simp [this]
  · intro i hi
    rw [BitVec.getLsbD_shiftLeft]
    simp [hi]
theorem sl_pk (xs : List UInt8) : ∀ c : BitVec 32, xs.length ≤ 4 → sl c xs = sts (8 * xs.length) (c ^^^ pk xs) := by
  induction xs with
  | nil => intro c _; simp [sl, sts, pk]
  | cons x xs ih =>
    intro c hl
    rw [List.length_cons] at hl
    have h24 : Hi (pk xs) 24 := hi_mono (hi_pk xs) (by omega)
    show sl (sb c x) xs = _
    rw [ih _ (by omega)]
    have e : sb c x ^^^ pk xs = sts 8 (c ^^^ pk (x :: xs)) := by
      have e1 : sb c x ^^^ pk xs = sts 8 (c ^^^ by32 x) ^^^ sts 8 (pk xs <<< 8) := by rw [sts8_shl h24]; rfl
      rw [e1, ← sts_xor, BitVec.xor_assoc]
      rfl
    rw [e, ← sts_add, List.length_cons, Nat.mul_add, Nat.add_comm]
theorem pk_zero (xs : List UInt8) : xs.length ≤ 4 → pk xs = 0#32 → ∀ x ∈ xs, x = 0 := by
  induction xs with
  | nil => intro _ _ x hx; cases hx
  | cons y ys ih =>
    intro hl h x hx
    rw [List.length_cons] at hl
    have h24 : Hi (pk ys) 24 := hi_mono (hi_pk ys) (by omega)
    have he : by32 y = pk ys <<< 8 := BitVec.xor_eq_zero_iff.1 h
    have hy : by32 y = 0#32 := by
      apply BitVec.eq_of_getLsbD_eq
      intro i _
      by_cases h8 : i < 8
      · rw [he, BitVec.getLsbD_shiftLeft]; simp [h8]
      · rw [hi_byte y i (by omega)]; simp
    have hp : pk ys = 0#32 := by
      have := sts8_shl h24
      rw [← he, hy, sts_zero] at this
      exact this.symm
    rcases List.mem_cons.1 hx with rfl | hx
    · have h0 : (by32 x).toNat = 0 := by rw [hy]; rfl
      unfold by32 at h0
      rw [BitVec.toNat_ofNat] at h0
      have := x.toNat_lt
      have hz : x.toNat = 0 := by omega
      exact UInt8.toNat_inj.1 hz
    · exact ih (by omega) hp x hx
theorem pk_of_zero (xs : List UInt8) : (∀ x ∈ xs, x = 0) → pk xs = 0#32 := by
  induction xs with
  | nil => intro _; rfl
  | cons y ys ih =>
    intro h
    rw [pk, ih fun x hx => h x (List.mem_cons_of_mem _ hx), h y (List.mem_cons_self ..)]
    decide

theorem by32_xor (a b : UInt8) : by32 (a ^^^ b) = by32 a ^^^ by32 b := by
  unfold by32
  apply BitVec.eq_of_toNat_eq
  rw [BitVec.toNat_xor, BitVec.toNat_ofNat, BitVec.toNat_ofNat, BitVec.toNat_ofNat, UInt8.toNat_xor]
  have h1 := a.toNat_lt
  have h2 := b.toNat_lt
  have h3 : a.toNat ^^^ b.toNat < 2 ^ 8 := Nat.xor_lt_two_pow h1 h2
  rw [Nat.mod_eq_of_lt (by omega), Nat.mod_eq_of_lt (by omega), Nat.mod_eq_of_lt (by omega)]
theorem sl_xor (xs : List UInt8) : ∀ (ws : List UInt8) (c d : BitVec 32), ws.length = xs.length → sl (c ^^^ d) (List.zipWith (· ^^^ ·) ws xs) = sl c ws ^^^ sl d xs := by
  induction xs with
  | nil => intro ws c d h; obtain rfl : ws = [] := List.eq_nil_of_length_eq_zero h; rfl
  | cons x xs ih =>
    intro ws c d h
    match ws, h with
    | v :: ws, h =>
      rw [List.zipWith_cons_cons]
      show sl (sb (c ^^^ d) (v ^^^ x)) _ = sl (sb c v) ws ^^^ sl (sb d x) xs
      have e : sb (c ^^^ d) (v ^^^ x) = sb c v ^^^ sb d x := by
        unfold sb
        rw [← sts_xor, by32_xor]
        congr 1
        ac_rfl
      rw [e]
      exact ih ws _ _ (by simpa using h)
theorem sl_inj (l : List UInt8) : ∀ a b : BitVec 32, sl a l = sl b l → a = b := by
  induction l with
  | nil => intro a b h; exact h
  | cons x l ih =>
    intro a b h
    have h1 := ih _ _ h
    unfold sb at h1
    have h2 := sts_inj 8 _ _ h1
    have h3 := congrArg (· ^^^ by32 x) h2
    simp only [BitVec.xor_assoc, BitVec.xor_self, BitVec.xor_zero] at h3
    exact h3

/-- Bytes of which those from 'at' on are turned by xs. -/
def turned (l : List UInt8) (at_ : Nat) (xs : List UInt8) : List UInt8 := l.take at_ ++ List.zipWith (· ^^^ ·) ((l.drop at_).take xs.length) xs ++ l.drop (at_ + xs.length)
theorem turned_more (c : BitVec 32) (l : List UInt8) (at_ : Nat) (xs : List UInt8) (h : at_ + xs.length ≤ l.length) (h4 : xs.length ≤ 4) :
    more c (turned l at_ xs) = more c l ↔ ∀ x ∈ xs, x = 0 := by
  have hl : l = l.take at_ ++ (l.drop at_).take xs.length ++ l.drop (at_ + xs.length) := by
    rw [List.append_assoc, ← List.drop_drop, List.take_append_drop, List.take_append_drop]
  have hw : ((l.drop at_).take xs.length).length = xs.length := by
    rw [List.length_take, List.length_drop]; omega
  have e1 : sl (~~~c) (turned l at_ xs) = sl (sl (sl (~~~c) (l.take at_)) ((l.drop at_).take xs.length) ^^^ sl 0#32 xs) (l.drop (at_ + xs.length)) := by
    unfold turned
    rw [sl_append, sl_append, ← sl_xor xs _ _ _ hw, BitVec.xor_zero]
  have e2 : sl (~~~c) l = sl (sl (sl (~~~c) (l.take at_)) ((l.drop at_).take xs.length)) (l.drop (at_ + xs.length)) := by
    rw [← sl_append, ← sl_append, ← List.append_assoc, ← hl]
  have e3 : more c (turned l at_ xs) = more c l ↔ sl 0#32 xs = 0#32 := by
    unfold more
    rw [e1, e2]
    constructor
    · intro h
      have h1 := sl_inj _ _ _ (BitVec.not_inj.1 h)
      have h2 := congrArg (sl (sl (~~~c) (l.take at_)) ((l.drop at_).take xs.length) ^^^ ·) h1
      simp only [← BitVec.xor_assoc, BitVec.xor_self, BitVec.zero_xor] at h2
      exact h2
    · intro h
      rw [h, BitVec.xor_zero]
  rw [e3, sl_pk xs 0#32 h4, BitVec.zero_xor]
  constructor
  · intro h
    exact pk_zero xs h4 (sts_inj0 _ _ h)
  · intro h
    rw [pk_of_zero xs h, sts_zero]

end Go.Proofs.YtfdhckfpkhoheaaDoor.Crc
