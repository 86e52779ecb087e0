/-
  What layer 3's laws share: long, awake. Conditions: the table of half bytes holds what its initialiser lays.
-/
import Derived.Test.YtcbmbajlmcoldaaDoorFrameCode
import Derived.Test.YtcbmbajlmcoldaaDoorTurn
namespace Go.Proofs.YtcbmbajlmcoldaaDoor.Frame
open Go.RowKit Go.Proofs.YtcbmbajlmcoldaaDoor.Mem Go.Proofs.YtcbmbajlmcoldaaDoor.Crc Go.Proofs.YtcbmbajlmcoldaaDoor.Wire

set_option maxHeartbeats 400000 in
theorem long_no (A : Option Addr) (ss : List ByteArray) (cap : Nat) (w : World) (hs : Strs w A ss) (hl : (cat ss).length ≤ 9000) (hn : ss.length ≤ 40) :
    Calls Tryd.prog 8 #[.slice A ss.length cap] w fun e w' => e = .returned (.bool false) ∧ w = w' := by
  go_enter Tryd.func8, Tryd.ntmps8
  go_wp2
  go_loop [3, 11] (fun n i => ∃ k : Nat, k ≤ ss.length ∧ i = .int .i64 k ∧ n = .int .i64 ((cat (ss.take k)).length : Nat)) (fun _ i => ss.length - (intOf i).toNat)
  case atStart => exact ⟨0, Nat.zero_le _, rfl, rfl⟩
  case round =>
    obtain ⟨k, hk, rfl, rfl⟩ := hrel
    by_cases hlt : k < ss.length
    · obtain ⟨ad, rfl, hc, hz⟩ := hs k hlt
      have HT := Lib.hid (cat_take ss k hlt)
      generalize ss[k] = s at hc hz HT
      have hcl : (cat (ss.take (k + 1))).length ≤ (cat ss).length := cat_take_le ss _
      rw [HT.out, List.length_append] at hcl
      have hsz : s.data.toList.length = s.size := Array.length_toList
      have hb : (cat (ss.take k)).length + s.size ≤ 9000 := by omega
      clear hcl hsz
      go_wp2
      go_round
      case rel => exact ⟨k + 1, by omega, by go_num, by rw [HT.out, List.length_append, Array.length_toList, Int.natCast_add]; rfl⟩
      case measure => simp [intOf]; omega
    · go_wp2
      go_ret
      exact ⟨rfl, rfl⟩
set_option maxHeartbeats 400000 in
theorem long_yes (A : Option Addr) (ss : List ByteArray) (cap : Nat) (w : World) (hs : Strs w A ss) (hm : ss.length ≤ maxLen) (h : 40 < ss.length ∨ 9000 < (cat ss).length) :
    Calls Tryd.prog 8 #[.slice A ss.length cap] w fun e w' => e = .returned (.bool true) ∧ w = w' := by
  unfold maxLen at hm
  by_cases h40 : 40 < ss.length
  · clear h
    go_enter Tryd.func8, Tryd.ntmps8
    go_wp2
    go_ret
    exact ⟨rfl, rfl⟩
  · have h3 : 9000 < (cat ss).length := by omega
    clear h
    go_enter Tryd.func8, Tryd.ntmps8
    go_wp2
    go_loop [3, 11] (fun n i => ∃ k : Nat, k ≤ ss.length ∧ i = .int .i64 k ∧ n = .int .i64 ((cat (ss.take k)).length : Nat) ∧ (cat (ss.take k)).length ≤ 9000) (fun _ i => ss.length - (intOf i).toNat)
    case atStart => exact ⟨0, Nat.zero_le _, rfl, rfl, by simp [cat]⟩
    case round =>
      obtain ⟨k, hk, rfl, rfl, hle⟩ := hrel
      by_cases hlt : k < ss.length
      · obtain ⟨ad, rfl, hc, hz⟩ := hs k hlt
        have HT := Lib.hid (cat_take ss k hlt)
        generalize ss[k] = s at hc hz HT
        by_cases hb : (cat (ss.take k)).length + s.size ≤ 9000
        · go_wp2
          go_round
          case rel => exact ⟨k + 1, by omega, by go_num, by rw [HT.out, List.length_append, Array.length_toList, Int.natCast_add]; rfl, by rw [HT.out, List.length_append, Array.length_toList]; exact hb⟩
          case measure => simp [intOf]; omega
        · go_wp2
          go_ret
          exact ⟨rfl, rfl⟩
      · exfalso
        rw [List.take_of_length_le (by omega)] at hle
        omega

theorem frm_empty : frm [] = [0, 0, 255, 18, 217, 65] := by decide +kernel
theorem awake_any (C : Does) (w : World) (hT : Tab w) :
    Calls Tryd.prog 7 #[] w fun e w' => e = .returned (.bool true) ∧ Below w.heap.size w w' := by
  have h := C.seals none [] 0 w (strs_nil w none) (by decide) (by decide) ⟨fun _ => rfl, Nat.le_refl _⟩ hT
  have HE := Lib.hid (show sealE (cat []) = .tuple #[.string ⟨#[0, 0, 255, 18, 217, 65]⟩, .int .i64 0] by unfold sealE; rw [cat_nil, frm_empty]; rfl)
  have HS := Lib.hid h
  clear h
  go_enter Tryd.func7, Tryd.ntmps7
  go_wp2_with fail
  refine HS.out.mono ?_
  rintro e w1 ⟨rfl, hb⟩
  rw [HE.out]
  go_wp2_with fail
  go_returns
  exact ⟨rfl, hb⟩
/-- One payload's frame, the text lying in a new block of its own. -/
theorem seal_one (C : Does) (s : ByteArray) (w : World) (T : TypeId) (hs : s.size ≤ 140737488355328) (hT : Tab w) :
    Calls Tryd.prog 10 #[.slice (some ⟨w.heap.size, 0, none⟩) 1 1] (w.alloc (.cells #[.string s] T)) fun e w' => e = .returned (sealE s.data.toList) ∧ Below w.heap.size w w' := by
  have hb := below_alloc w (.cells #[.string s] T)
  have h := C.seals (some ⟨w.heap.size, 0, none⟩) [s] 1 _ (strs_one w s T (by omega)) (by simp) (by rw [cat_one, toList_size]; exact hs) ⟨(fun h => by cases h), Nat.le_refl _⟩ (hT.later hb)
  rw [cat_one] at h
  refine h.mono ?_
  rintro e w' ⟨rfl, hb2⟩
  exact ⟨rfl, hb.trans (hb2.mono hb.size)⟩
end Go.Proofs.YtcbmbajlmcoldaaDoor.Frame
