/-
  Layer 2: bytes that were put are read again, and what was read is what was put. Conditions: none.
-/
import Derived.Test.YtifcpglifcjdjaaWr
import Derived.Test.YtifcpglifcjdjaaRd
namespace Go.Proofs.Ytifcpglifcjdjaa.Wire
set_option maxRecDepth 100000
open Go.RowKit Go.Proofs.Ytifcpglifcjdjaa.Mem

def I64 (n : Int) : Prop := -9223372036854775808 ≤ n ∧ n ≤ 9223372036854775807
def bs (l : List UInt8) : ByteArray := ⟨l.toArray⟩
theorem bs_size (l : List UInt8) : (bs l).size = l.length := by unfold bs; show l.toArray.size = _; simp
theorem bs_list (l : List UInt8) : (bs l).data.toList = l := by unfold bs; simp
theorem bs_app (l m : List UInt8) : bs l ++ bs m = bs (l ++ m) := bytes_app l (bs m) |>.trans (by rw [bs_list]; rfl)
theorem bs_left (l m : List UInt8) : (bs (l ++ m)).extract 0 l.length = bs l := ba_ext (by rw [ext_list, bs_list, bs_list]; simp)
theorem bs_right (l m : List UInt8) : (bs (l ++ m)).extract l.length (bs (l ++ m)).size = bs m := ba_ext (by rw [ext_list, bs_list, bs_list, bs_size, List.take_of_length_le (Nat.le_refl _)]; simp)
theorem tk_bs {n : Nat} (l m : List UInt8) (h : l.length = n) : tk (bs (l ++ m)) n = bs l := by
  subst h
  unfold tk
  rw [if_neg (by rw [bs_size, List.length_append]; omega), bs_left]
theorem rest_bs {n : Nat} (l m : List UInt8) (h : l.length = n) : rest (bs (l ++ m)) n = bs m := by
  subst h
  unfold rest
  rw [if_neg (by rw [bs_size, List.length_append]; omega), bs_right]
theorem brk_bs {n : Nat} (l m : List UInt8) (b : Bool) (h : l.length = n) : brk (bs (l ++ m)) b n = b := by
  subst h
  unfold brk
  rw [if_neg (by rw [bs_size, List.length_append]; omega)]
theorem num_bs {n : Nat} (l m : List UInt8) (h : l.length = n) : num (bs (l ++ m)) n = valN l := by unfold num; rw [tk_bs l m h, bs_list]
theorem num_big (k n : Nat) (m : List UInt8) (h : k < 256 ^ n) : num (bs (big k n ++ m)) n = k := by rw [num_bs _ _ (big_length k n), valN_big k n h]
theorem wrap_u64 {n : Int} (h : I64 n) : IntKind.i64.wrap (u64 n : Nat) = n := by
  rw [u64_cast, IntKind.wrap_i64]
  unfold I64 at h
  omega
theorem num_u64 {n : Int} (h : I64 n) (m : List UInt8) : IntKind.i64.wrap (num (bs (big (u64 n) 8 ++ m)) 8 : Nat) = n := by
  rw [num_big _ _ _ (Nat.lt_of_lt_of_eq (u64_lt n) (by decide)), wrap_u64 h]
/-- Bytes that are there: the first n of them, and the rest. -/
theorem tk_rest {s : ByteArray} {n : Nat} (h : n ≤ s.size) : s = bs ((tk s n).data.toList ++ (rest s n).data.toList) := by
  unfold tk rest
  rw [if_neg (by omega), if_neg (by omega)]
  apply ba_ext
  rw [bs_list, ext_list, ext_list, List.drop_zero, List.take_of_length_le (show s.data.toList.length ≤ s.size by rw [toList_size]; exact Nat.le_refl _)]
  exact (List.take_append_drop n _).symm
theorem brk_true (s : ByteArray) (n : Nat) : brk s true n = true := by unfold brk; split <;> rfl
theorem brk_false {s : ByteArray} {b : Bool} {n : Nat} (h : brk s b n = false) : n ≤ s.size ∧ b = false := by
  unfold brk at h
  split at h
  · cases h
  · exact ⟨by omega, h⟩
theorem tk_len {s : ByteArray} {n : Nat} (h : n ≤ s.size) : (tk s n).data.toList.length = n := by
  rw [toList_size]
  unfold tk
  rw [if_neg (by omega), ByteArray.size_extract]
  omega
/-- A number that was read has just these bytes. -/
theorem num_put {s : ByteArray} {n : Nat} (h : n ≤ s.size) : s = bs (big (num s n) n ++ (rest s n).data.toList) := by
  have e : big (num s n) n = (tk s n).data.toList := by
    unfold num
    have := big_valN (tk s n).data.toList
    rwa [tk_len h] at this
  rw [e]
  exact tk_rest h
theorem u64_wrap {m : Nat} (h : m < 18446744073709551616) : u64 (IntKind.i64.wrap (m : Int)) = m := by
  have e := u64_cast (IntKind.i64.wrap (m : Int))
  rw [IntKind.wrap_i64] at e ⊢
  omega
theorem num_lt8 (s : ByteArray) : num s 8 < 18446744073709551616 := Nat.lt_of_lt_of_eq (num_lt s 8 8 (Nat.le_refl _)) (by decide)
theorem num_put8 {s : ByteArray} (h : 8 ≤ s.size) : s = bs (nums [IntKind.i64.wrap (num s 8 : Nat)] ++ (rest s 8).data.toList) := by
  have e : nums [IntKind.i64.wrap (num s 8 : Nat)] = big (num s 8) 8 := by
    unfold nums
    simp only [List.flatMap_cons, List.flatMap_nil, List.append_nil]
    rw [u64_wrap (num_lt8 s)]
  rw [e]
  exact num_put h
theorem bs_eq (s : ByteArray) : bs s.data.toList = s := ba_ext (by rw [bs_list])
theorem put_next {s t : ByteArray} {l : List UInt8} (h : s = bs (l ++ t.data.toList)) {m : List UInt8} {t' : ByteArray} (h' : t = bs (m ++ t'.data.toList)) : s = bs ((l ++ m) ++ t'.data.toList) := by
  rw [h, h', bs_list, List.append_assoc]
end Go.Proofs.Ytifcpglifcjdjaa.Wire
