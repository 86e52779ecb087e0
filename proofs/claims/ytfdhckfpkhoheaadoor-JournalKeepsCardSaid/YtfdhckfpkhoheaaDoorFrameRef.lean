/-
  What the document's own answers of layer 3 (frame) come to: Seal, Open, All, Same. Conditions: none.
-/
import Derived.Test.YtfdhckfpkhoheaaDoorFrameMath
import Derived.Test.YtfdhckfpkhoheaaDoorSum
import Derived.Test.YtfdhckfpkhoheaaDoorTexts
namespace Go.Proofs.YtfdhckfpkhoheaaDoor.Frame
open Go.RowKit Go.Proofs.YtfdhckfpkhoheaaDoor.Mem Go.Proofs.YtfdhckfpkhoheaaDoor.Crc Go.Proofs.YtfdhckfpkhoheaaDoor.Wire

theorem le4_take (c : BitVec 32) (k : Nat) (h : k < 4) : (le4 c).take (k + 1) = (le4 c).take k ++ [UInt8.ofNat (c.toNat / 256 ^ k)] := by
  rcases (show k = 0 ∨ k = 1 ∨ k = 2 ∨ k = 3 by omega) with rfl | rfl | rfl | rfl <;> simp [le4]
theorem byte_mod (n : Nat) : ((n : Int) % 256) = ((UInt8.ofNat n).toNat : Int) := by
  have e : (UInt8.ofNat n).toNat = n % 256 := by rw [UInt8.toNat_ofNat']
  rw [e]; rfl

/-- What Seal answers. -/
def sealV (p : ByteArray) : Value := if 4096 < p.size then .tuple #[.string ⟨#[]⟩, .bool false] else .tuple #[.string ⟨(frm p.data.toList).toArray⟩, .bool true]

/-- What Open answers. -/
def openV (s : ByteArray) : Value := if err s.data.toList = 0 then .tuple #[.string ⟨(payload s.data.toList).toArray⟩, .int .i64 (6 + flen s.data.toList : Nat), .int .i64 0] else .tuple #[.string ⟨#[]⟩, .int .i64 0, .int .i64 (err s.data.toList)]
theorem flen_at (s : ByteArray) (h : 2 ≤ s.size) : flen s.data.toList = s[0].toNat * 256 + s[1].toNat := by
  have e : s.data.toList.take 2 = [s[0], s[1]] := by
    have h2 : 2 ≤ s.data.toList.length := by rw [toList_size]; exact h
    have h3 : s.data.toList = s.data.toList[0] :: s.data.toList[1] :: s.data.toList.drop 2 := by
      rw [← List.drop_eq_getElem_cons, ← List.drop_eq_getElem_cons, List.drop_zero]
    rw [h3]
    rfl
  unfold flen
  rw [e, valN_cons, valN_cons]
  simp [valN]
theorem frm_payload (l : List UInt8) (h1 : 6 ≤ l.length) (h3 : 6 + flen l ≤ l.length) : frm (payload l) = l.take (2 + flen l) ++ le4 (more 0#32 (l.take (2 + flen l))) ∧ l.take (6 + flen l) = l.take (2 + flen l) ++ (l.drop (2 + flen l)).take 4 ∧ (payload l).length = flen l := by
  have hp : (payload l).length = flen l := by
    unfold payload
    rw [List.length_take, List.length_drop]
    omega
  have hb : big (flen l) 2 = l.take 2 := by
    have h := big_valN (l.take 2)
    rw [List.length_take, Nat.min_eq_left (by omega)] at h
    exact h
  have ht : l.take (2 + flen l) = big (payload l).length 2 ++ payload l := by
    rw [hp, hb]
    unfold payload
    rw [List.take_add]
  refine ⟨?_, ?_, hp⟩
  · unfold frm
    rw [← ht]
  · rw [show 6 + flen l = 2 + flen l + 4 by omega, List.take_add]

/-- Payloads as texts. -/
def texts (ps : List (List UInt8)) : List ByteArray := ps.map fun p => ⟨p.toArray⟩
theorem texts_app (a b : List (List UInt8)) : texts (a ++ b) = texts a ++ texts b := List.map_append
theorem texts_length (a : List (List UInt8)) : (texts a).length = a.length := List.length_map _

theorem texts_small (ps : List (List UInt8)) (h : ∀ p ∈ ps, p.length ≤ 4096) : ∀ s ∈ texts ps, s.size ≤ 140737488355328 := by
  intro s hs
  obtain ⟨p, hp, rfl⟩ := List.mem_map.1 hs
  have := h p hp
  show p.toArray.size ≤ _
  rw [List.size_toArray]
  omega

set_option maxHeartbeats 1000000 in
theorem same_yes (A B : Option Addr) (ss : List ByteArray) (c d : Nat) (w : World) (ha : Strs w A ss) (hb : Strs w B ss) (hl : ss.length ≤ 1000000000) :
    Calls Tryd.prog 13 #[.slice A ss.length c, .slice B ss.length d] w fun e w' => e = .returned (.bool true) ∧ Below w.heap.size w w' := by
  go_enter Tryd.func13, Tryd.ntmps13
  go_wp2_with fail
  go_loopw [5] (fun i wr => ∃ k : Nat, k ≤ ss.length ∧ i = .int .i64 (k : Int) ∧ Below w.heap.size w wr) (fun i _ => ss.length - (intOf i).toNat)
  case atStart => exact ⟨0, Nat.zero_le _, rfl, Below.refl _ _⟩
  case round =>
    obtain ⟨k, hk, rfl, hbr⟩ := hrel
    by_cases hlt : k < ss.length
    · obtain ⟨ad, rfl, hc, _⟩ := ha k hlt
      obtain ⟨bd, rfl, hd, _⟩ := hb k hlt
      have c0 := (hbr.cell (block_of_cell hc)).trans hc
      have c1 := (hbr.cell (block_of_cell hd)).trans hd
      have HBR := Lib.hid hbr
      clear hbr hc hd
      generalize ss[k] = t at *
      go_wp2_with fail
      go_region
      go_wp2_with fail
      go_roundw
      case rel => exact ⟨k + 1, by omega, by go_num, HBR.out.drew⟩
      case measure => simp [intOf]; omega
    · go_wp2_with fail
      go_returns
      exact ⟨rfl, hbr⟩
end Go.Proofs.YtfdhckfpkhoheaaDoor.Frame
