/-
  What the document's own answer of layer 3 says of two lists: whether they are alike. Conditions: none.
-/
import Derived.Test.YtfdhckfpkhoheaaDoorCat
import Derived.Test.YtfdhckfpkhoheaaDoorRows
import Derived.WalkKit
import Derived.ProofKit
import Derived.WalkLawsBesides
import Derived.WalkSpells
import Derived.Handy
import Derived.Lib.Hide
namespace Go.Proofs.YtfdhckfpkhoheaaDoor.Mem
open Go.RowKit

theorem Strs.take {w : World} {A : Option Addr} {ss : List ByteArray} (h : Strs w A ss) (n : Nat) : Strs w A (ss.take n) := by
  intro k hk
  rw [List.length_take] at hk
  have h1 := h k (by omega)
  rw [List.getElem_take]
  exact h1
set_option maxHeartbeats 1000000 in
theorem same_any (A B : Option Addr) (ss ts : List ByteArray) (c d : Nat) (w : World) (ha : Strs w A ss) (hb : Strs w B ts) (hl : ss.length ≤ 1000000000) :
    Calls Tryd.prog 13 #[.slice A ss.length c, .slice B ts.length d] w fun e w' => e = .returned (.bool (decide (ss = ts))) ∧ Below w.heap.size w w' := by
  by_cases hlen : ss.length = ts.length
  · have HL := Lib.hid hlen
    rw [← hlen]
    clear hlen
    go_enter Tryd.func13, Tryd.ntmps13
    go_wp2_with fail
    go_loopw [5] (fun i wr => ∃ k : Nat, k ≤ ss.length ∧ i = .int .i64 (k : Int) ∧ ss.take k = ts.take k ∧ Below w.heap.size w wr) (fun i _ => ss.length - (intOf i).toNat)
    case atStart => exact ⟨0, Nat.zero_le _, rfl, rfl, Below.refl _ _⟩
    case round =>
      obtain ⟨k, hk, rfl, hpre, hbr⟩ := hrel
      by_cases hlt : k < ss.length
      · have hlt2 : k < ts.length := by rw [← HL.out]; exact hlt
        obtain ⟨ad, rfl, hc, _⟩ := ha k hlt
        obtain ⟨bd, rfl, hd, _⟩ := hb k hlt2
        have c0 := (hbr.cell (block_of_cell hc)).trans hc
        have c1 := (hbr.cell (block_of_cell hd)).trans hd
        have HBR := Lib.hid hbr
        have HP := Lib.hid hpre
        have HN1 : Hid (ss.take (k + 1) = ss.take k ++ [ss[k]]) := Lib.hid (by rw [List.take_add_one, List.getElem?_eq_getElem hlt]; rfl)
        have HN2 : Hid (ts.take (k + 1) = ts.take k ++ [ts[k]]) := Lib.hid (by rw [List.take_add_one, List.getElem?_eq_getElem hlt2]; rfl)
        clear hbr hc hd hpre
        by_cases he : ss[k] = ts[k]
        · rw [← he] at c1 HN2
          generalize ss[k] = t at *
          clear he
          go_wp2_with fail
          go_region
          go_wp2_with fail
          go_roundw
          case rel => exact ⟨k + 1, by omega, by go_num, by rw [HN1.out, HN2.out, HP.out], HBR.out.drew⟩
          case measure => simp [intOf]; omega
        · have hst := str_ne he
          have HF : Hid (decide (ss = ts) = false) := Lib.hid (decide_eq_false fun e => he (by subst e; rfl))
          generalize ss[k] = s at *
          generalize ts[k] = t at *
          clear he
          go_wp2_with fail
          go_region
          go_wp2_with fail
          go_returns
          exact ⟨by rw [HF.out]; rfl, HBR.out.drew⟩
      · have hks : k = ss.length := by omega
        have HF : Hid (decide (ss = ts) = true) := Lib.hid (decide_eq_true (by
          rw [hks, List.take_length, HL.out, List.take_length] at hpre
          exact hpre))
        clear hpre hks
        go_wp2_with fail
        go_returns
        exact ⟨by rw [HF.out]; rfl, hbr⟩
  · have HF : Hid (decide (ss = ts) = false) := Lib.hid (decide_eq_false fun e => hlen (by rw [e]))
    go_enter Tryd.func13, Tryd.ntmps13
    go_wp2_with fail
    go_returns
    exact ⟨by rw [HF.out]; rfl, Below.refl _ _⟩
end Go.Proofs.YtfdhckfpkhoheaaDoor.Mem
