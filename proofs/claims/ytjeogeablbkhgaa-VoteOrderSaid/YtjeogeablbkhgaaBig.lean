/-
  A number's bytes, the highest first, as the document's own answer of layer 2 lays them (Big): for layer 2, and for those that use it. Conditions: none.
-/
import Derived.Test.YtjeogeablbkhgaaMem
import Derived.Test.YtjeogeablbkhgaaRows
import Derived.OpenShut
import Derived.WalkLawsBesides
import Derived.WalkSpells
import Derived.Handy
import Derived.Lib.Hide
import Derived.Deep.OwnRows
namespace Go.Proofs.Ytjeogeablbkhgaa.Wire
open Go.RowKit Go.Proofs.Ytjeogeablbkhgaa.Mem

/-- A number's k lowest bytes, the highest first. -/
def big (n : Nat) : Nat → List UInt8
  | 0 => []
  | k + 1 => UInt8.ofNat (n / 256 ^ k) :: big n k
theorem big_length (n k : Nat) : (big n k).length = k := by
  induction k with
  | zero => rfl
  | succ k ih => rw [big, List.length_cons, ih]

theorem infoByte : (Try.prog.info? 5).map (fun i => (i.zero, i.size, i.bytes)) = some (some (.int .u8 0), 1, 1) := by kernel_rfl

theorem byte_of (n k : Nat) : ((n / 256 ^ k : Nat) : Int) % 256 = ((UInt8.ofNat (n / 256 ^ k)).toNat : Int) := by
  have e : (UInt8.ofNat (n / 256 ^ k)).toNat = n / 256 ^ k % 256 := by rw [UInt8.toNat_ofNat']
  rw [e]; rfl

theorem set_zero (j : Nat) (a x : Value) (l : List Value) : (List.replicate (j + 1) a ++ l).set j x = List.replicate j a ++ x :: l := by
  rw [List.replicate_succ', List.append_assoc, List.set_append_right _ _ (by simp)]
  simp

/-- Bytes as a number, the highest first. -/
def valN (l : List UInt8) : Nat := l.foldl (fun n b => n * 256 + b.toNat) 0
theorem valN_snoc (l : List UInt8) (b : UInt8) : valN (l ++ [b]) = valN l * 256 + b.toNat := by unfold valN; rw [List.foldl_append]; rfl
theorem valN_lt (l : List UInt8) : valN l < 256 ^ l.length := by
  have h : ∀ (r : List UInt8), valN r.reverse < 256 ^ r.length := by
    intro r
    induction r with
    | nil => simp [valN]
    | cons b r ih =>
      rw [List.reverse_cons, valN_snoc, List.length_cons, Nat.pow_succ]
      have := b.toNat_lt
      omega
  have := h l.reverse
  simpa using this
theorem valN_small (l : List UInt8) (k : Nat) (h : l.length ≤ k) : valN l < 256 ^ k := Nat.lt_of_lt_of_le (valN_lt l) (Nat.pow_le_pow_right (by omega) h)
theorem valN_cons (b : UInt8) (l : List UInt8) : valN (b :: l) = b.toNat * 256 ^ l.length + valN l := by
  have h : ∀ (l : List UInt8) (a : Nat), l.foldl (fun n b => n * 256 + b.toNat) a = a * 256 ^ l.length + valN l := by
    intro l
    induction l with
    | nil => intro a; simp [valN]
    | cons c l ih =>
      intro a
      show l.foldl _ (a * 256 + c.toNat) = a * 256 ^ (l.length + 1) + l.foldl _ (0 * 256 + c.toNat)
      rw [ih, ih (0 * 256 + c.toNat), Nat.pow_succ]
      have e : a * (256 ^ l.length * 256) = a * 256 * 256 ^ l.length := by rw [Nat.mul_comm (256 ^ l.length), Nat.mul_assoc]
      rw [e, Nat.add_mul, Nat.zero_mul, Nat.zero_add]
      omega
  show l.foldl _ (0 * 256 + b.toNat) = _
  rw [h]
  simp
theorem ofNat_mod (a b : Nat) (h : a % 256 = b % 256) : UInt8.ofNat a = UInt8.ofNat b := by
  apply UInt8.toNat_inj.1
  rw [UInt8.toNat_ofNat', UInt8.toNat_ofNat']
  exact h
theorem big_mod (a n k : Nat) : ∀ j, j ≤ k → big (a * 256 ^ k + n) j = big n j
  | 0, _ => rfl
  | j + 1, h => by
    rw [big, big, big_mod a n k j (by omega)]
    congr 1
    apply ofNat_mod
    obtain ⟨d, rfl⟩ : ∃ d, k = j + 1 + d := ⟨k - (j + 1), by omega⟩
    have e : a * 256 ^ (j + 1 + d) + n = n + 256 ^ j * (a * 256 ^ d * 256) := by
      rw [Nat.pow_add, Nat.pow_succ]
      have : a * (256 ^ j * 256 * 256 ^ d) = 256 ^ j * (a * 256 ^ d * 256) := by
        simp only [Nat.mul_comm, Nat.mul_left_comm, Nat.mul_assoc]
      omega
    rw [e, Nat.add_mul_div_left _ _ (Nat.pow_pos (by omega))]
    omega
theorem big_valN : ∀ (l : List UInt8), big (valN l) l.length = l
  | [] => rfl
  | b :: l => by
    rw [List.length_cons, big, valN_cons, big_mod _ _ _ _ (Nat.le_refl _), big_valN l]
    congr 1
    have h := valN_lt l
    rw [Nat.add_comm, Nat.add_mul_div_right _ _ (Nat.pow_pos (by omega)), Nat.div_eq_of_lt h, Nat.zero_add]
    simp
theorem valN_big (n : Nat) : ∀ k, n < 256 ^ k → valN (big n k) = n := by
  have h : ∀ k, valN (big n k) = n % 256 ^ k := by
    intro k
    induction k with
    | zero => simp [big, valN, Nat.mod_one]
    | succ k ih =>
      rw [big, valN_cons, ih, big_length]
      have e : (UInt8.ofNat (n / 256 ^ k)).toNat = n / 256 ^ k % 256 := by rw [UInt8.toNat_ofNat']
      rw [e, Nat.pow_succ, Nat.mod_mul, Nat.mul_comm]
      omega
  intro k hk
  rw [h, Nat.mod_eq_of_lt hk]

theorem ext_list (s : ByteArray) (i j : Nat) : (s.extract i j).data.toList = (s.data.toList.take j).drop i := by
  rw [ByteArray.data_extract]
  simp [List.drop_take]
theorem ba_ext {s t : ByteArray} (h : s.data.toList = t.data.toList) : s = t := ByteArray.ext (Array.ext' h)
theorem size_list (s : ByteArray) : s.size = s.data.toList.length := (toList_size s).symm
/-- A number's 64 bits. -/
def u64 (n : Int) : Nat := (n % 18446744073709551616).toNat
theorem u64_lt (n : Int) : u64 n < 18446744073709551616 := by unfold u64; omega
theorem u64_cast (n : Int) : ((u64 n : Nat) : Int) = n % 18446744073709551616 := by unfold u64; omega

theorem byte_u64 (n : Int) : n % 256 = ((UInt8.ofNat (u64 n)).toNat : Int) := by
  have e : (UInt8.ofNat (u64 n)).toNat = u64 n % 256 := by rw [UInt8.toNat_ofNat']
  rw [e]
  unfold u64
  omega

theorem take_snoc (s : ByteArray) (k : Nat) (h : k < s.size) : s.data.toList.take (k + 1) = s.data.toList.take k ++ [s[k]] := by
  rw [List.take_succ_eq_append_getElem (by simpa using h)]; rfl

end Go.Proofs.Ytjeogeablbkhgaa.Wire
