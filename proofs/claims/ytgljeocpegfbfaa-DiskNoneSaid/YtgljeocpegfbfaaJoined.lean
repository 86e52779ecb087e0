/-
  What the document's own answer of layer 1 makes of texts: Joined. Conditions: none.
-/
import Derived.Test.YtgljeocpegfbfaaCat
import Derived.WalkKit
import Derived.ProofKit
import Derived.WalkLawsBesides
import Derived.WalkSpells
import Derived.Handy
import Derived.Lib.Hide
namespace Go.Proofs.Ytgljeocpegfbfaa.Mem
open Go.RowKit

set_option maxHeartbeats 400000 in
theorem joined_any (A : Option Addr) (ss : List ByteArray) (cap : Nat) (w : World) (hs : Strs w A ss) (hl : (cat ss).length ≤ 100000000) (hn : ss.length ≤ 100000) :
    Calls Try.prog 13 #[.slice A ss.length cap] w fun e w' => e = .returned (.string ⟨(cat ss).toArray⟩) ∧ w = w' := by
  go_enter Try.func13, Try.ntmps13
  go_wp2
  go_loop [3, 4] (fun s i => ∃ k : Nat, k ≤ ss.length ∧ i = .int .i64 k ∧ s = .string ⟨(cat (ss.take k)).toArray⟩) (fun _ i => ss.length - (intOf i).toNat)
  case atStart => exact ⟨0, Nat.zero_le _, rfl, rfl⟩
  case round =>
    obtain ⟨k, hk, rfl, rfl⟩ := hrel
    by_cases hlt : k < ss.length
    · obtain ⟨ad, rfl, hc, hz⟩ := hs k hlt
      have HT := Lib.hid (cat_take ss k hlt)
      generalize ss[k] = s at hc hz HT
      have hcl : (cat (ss.take (k + 1))).length ≤ (cat ss).length := cat_take_le ss _
      rw [HT.out, List.length_append] at hcl
      have hsz : s.data.toList.length = s.size := Array.length_toList
      have hb : (cat (ss.take k)).length + s.size ≤ 100000000 := by omega
      clear hcl hsz
      go_wp2_with fail
      go_round
      case rel => exact ⟨k + 1, by omega, by go_num, by rw [HT.out, bytes_app]⟩
      case measure => simp [intOf]; omega
    · go_wp2
      go_ret
      exact ⟨ret_val (by rw [List.take_of_length_le (by omega)]; rfl), rfl⟩
end Go.Proofs.Ytgljeocpegfbfaa.Mem
