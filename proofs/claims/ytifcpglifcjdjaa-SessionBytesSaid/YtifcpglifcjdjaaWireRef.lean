/-
  What the document's own answers of layer 2 (wire) come to: numbers as bytes, things as bytes, and back. Conditions: none.
-/
import Derived.Test.YtifcpglifcjdjaaBig
import Derived.Test.YtifcpglifcjdjaaRows
import Derived.Test.YtifcpglifcjdjaaReg
import Derived.OpenShut
import Derived.WalkLawsBesides
import Derived.WalkSpells
import Derived.Handy
import Derived.Lib.Hide
import Derived.Deep.OwnRows
import Derived.Deep.RegionWith
namespace Go.Proofs.Ytifcpglifcjdjaa.Wire
open Go.RowKit Go.Proofs.Ytifcpglifcjdjaa.Mem

/-- A thing: its kind, its number, its text. -/
structure Th where
  k : Int
  n : Int
  s : ByteArray
def Th.val (t : Th) : Value := .agg #[.int .i64 t.k, .int .i64 t.n, .string t.s]
def Th.ok (t : Th) : Prop := (-9223372036854775808 ≤ t.k ∧ t.k ≤ 9223372036854775807) ∧ (-9223372036854775808 ≤ t.n ∧ t.n ≤ 9223372036854775807) ∧ t.s.size ≤ 140737488355328
def th0 : Th := ⟨0, 0, ⟨#[]⟩⟩
/-- A thing's bytes; none: it can't be put. -/
def putB (t : Th) : Option (List UInt8) :=
  if t.k = 0 then some [UInt8.ofNat (u64 t.n)]
  else if t.k = 1 then (if t.n = 1 then some (big 1 1) else some (big 0 1))
  else if t.k = 2 then (if t.n < 0 ∨ 65535 < t.n then none else some (big (u64 t.n) 2))
  else if t.k = 3 then some (big (u64 t.n) 8)
  else if 65535 < t.s.size then none else some (big t.s.size 2 ++ t.s.data.toList)

/-- What Put answers. -/
def putV (t : Th) : Value := match putB t with
  | some l => .tuple #[.string ⟨l.toArray⟩, .bool true]
  | none => .tuple #[.string ⟨#[]⟩, .bool false]

/-- What is good of each value of the last statement of Put. -/
def good (s : ByteArray) (g : Nat) : Nat → Value → World → Prop
  | 0, v, _ => v = .pointer (some ⟨g, 2, none⟩)
  | 1, v, _ => v = .string s
  | 2, v, _ => v = .int .i64 (s.size : Int)
  | 3, v, _ => v = .int .u64 (s.size : Int)
  | 4, v, _ => v = .string ⟨(big s.size 2).toArray⟩
  | 5, v, _ => v = .pointer (some ⟨g, 2, none⟩)
  | 6, v, _ => v = .string s
  | 7, v, _ => v = .string ⟨(big s.size 2 ++ s.data.toList).toArray⟩
  | 8, v, _ => v = .string ⟨(big s.size 2 ++ s.data.toList).toArray⟩
  | _, v, _ => v = .bool true
theorem good_any {s : ByteArray} {g j : Nat} {v : Value} {w w' : World} (h : good s g j v w) : good s g j v w' := by
  match j, h with
  | 0, h | 1, h | 2, h | 3, h | 4, h | 5, h | 6, h | 7, h | 8, h => exact h
  | _ + 9, h => exact h

set_option maxHeartbeats 1000000 in
theorem value_any (s : ByteArray) (w : World) (hs : s.size ≤ 8) :
    Calls Try.prog 66 #[.string s] w fun e w' => e = .returned (.int .u64 (valN s.data.toList : Nat)) ∧ w = w' := by
  go_enter Try.func66, Try.ntmps66
  go_wp2
  go_loop [3, 4] (fun n i => ∃ k : Nat, k ≤ s.size ∧ i = .int .i64 k ∧ n = .int .u64 (valN (s.data.toList.take k) : Nat)) (fun _ i => s.size - (intOf i).toNat)
  case atStart => exact ⟨0, Nat.zero_le _, rfl, rfl⟩
  case round =>
    obtain ⟨k, hk, rfl, rfl⟩ := hrel
    by_cases hlt : k < s.size
    · have H1 := Lib.hid (take_snoc s k hlt)
      have hv : valN (s.data.toList.take k) < 72057594037927936 := by
        have h := valN_small (s.data.toList.take k) 7 (by rw [List.length_take]; omega)
        have e : 256 ^ 7 = 72057594037927936 := by decide
        omega
      have hb := s[k].toNat_lt
      generalize hm : valN (s.data.toList.take k) = m at hv
      have HM := Lib.hid hm
      clear hm
      go_wp2
      go_round
      case rel => exact ⟨k + 1, by omega, by go_num, by rw [H1.out, valN_snoc, HM.out]; go_num⟩
      case measure => simp [intOf]; omega
    · go_wp2
      go_ret
      exact ⟨ret_int (by rw [List.take_of_length_le (by simp; omega)]), rfl⟩
end Go.Proofs.Ytifcpglifcjdjaa.Wire
