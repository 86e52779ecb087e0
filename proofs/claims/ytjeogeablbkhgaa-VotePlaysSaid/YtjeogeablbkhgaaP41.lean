/-
  Layer 6: whether two lists are alike, by the document's own answers.
  Conditions: none.
-/
import Derived.Test.YtjeogeablbkhgaaP11
namespace Go.Proofs.Ytjeogeablbkhgaa.Item
open Go.RowKit Go.Proofs.Ytjeogeablbkhgaa.Mem
set_option maxHeartbeats 1000000 in
theorem sameItems_any (A B : Option Addr) (l m : List It) (c d : Nat) (w : World) (ha : Items w A l) (hb : Items w B m) (hl : l.length ≤ 1000000) :
  Calls Try.prog 23 #[.slice A l.length c, .slice B m.length d] w fun e w' => e = .returned (.bool (decide (l = m))) ∧ Below w.heap.size w w' := by
 by_cases hlen : l.length = m.length
 ·have HL := Lib.hid hlen
  rw [← hlen]
  clear hlen
  go_enter Try.func23, Try.ntmps23
  go_wp2_with fail
  go_loopw [5] (fun i wr => ∃ k : Nat, k ≤ l.length ∧ i = .int .i64 (k : Int) ∧ l.take k = m.take k ∧ Below w.heap.size w wr) (fun i _ => l.length - (intOf i).toNat)
  case atStart => exact ⟨0, Nat.zero_le _, rfl, rfl, Below.refl _ _⟩
  case round =>
   obtain ⟨k, hk, rfl, hpre, hbr⟩ := hrel
   by_cases hlt : k < l.length
   ·have hlt2 : k < m.length := by rw [← HL.out]; exact hlt
    obtain ⟨b1, o1, rfl, hi1⟩ := ha k hlt
    obtain ⟨b2, o2, rfl, hi2⟩ := hb k hlt2
    have hj1 := hi1.below hbr hi1.lt
    have hj2 := hi2.below hbr hi2.lt
    have c0 := hj1.cell
    have c1 := hj1.version
    have c2 := hj1.value
    have c3 := hj1.write
    have c4 := hj1.new
    have d0 := hj2.cell
    have d1 := hj2.version
    have d2 := hj2.value
    have d3 := hj2.write
    have d4 := hj2.new
    have HBR := Lib.hid hbr
    have HP := Lib.hid hpre
    have HN1 : Hid (l.take (k + 1) = l.take k ++ [l[k]]) := Lib.hid (by rw [List.take_add_one, List.getElem?_eq_getElem hlt]; rfl)
    have HN2 : Hid (m.take (k + 1) = m.take k ++ [m[k]]) := Lib.hid (by rw [List.take_add_one, List.getElem?_eq_getElem hlt2]; rfl)
    have HNE : Hid (l[k] ≠ m[k] → decide (l = m) = false) := Lib.hid fun h => decide_eq_false fun e => h (by subst e; rfl)
    clear hbr hi1 hi2 hj1 hj2 hpre ha hb
    generalize l[k] = x at *
    generalize m[k] = y at *
    obtain ⟨x0, x1, x2, x3, x4⟩ := x
    obtain ⟨y0, y1, y2, y3, y4⟩ := y
    simp only at c0 c1 c2 c3 c4 d0 d1 d2 d3 d4
    by_cases e0 : x0 = y0
    ·subst e0
     by_cases e1 : x1 = y1
     ·subst e1
      by_cases e2 : x2 = y2
      ·subst e2
       by_cases e3 : x3 = y3
       ·subst e3
        by_cases e4 : x4 = y4
        ·subst e4
         go_wp2_with fail
         go_region
         go_wp2_with fail
         go_roundw
         case rel => exact ⟨k + 1, by omega, by go_num, by rw [HN1.out, HN2.out, HP.out], HBR.out.drew⟩
         case measure => simp [intOf]; omega
        ·have HF := Lib.hid (HNE.out (fun h => e4 (congrArg It.new h)))
         have hx : (x4 == y4) = false := by simpa using e4
         go_wp2_with fail
         go_region
         go_wp2_with fail
         go_returns
         exact ⟨ret_bool HF.out, HBR.out.drew⟩
       ·have HF := Lib.hid (HNE.out (fun h => e3 (congrArg It.write h)))
        have hx : (x3 == y3) = false := by simpa using e3
        go_wp2_with fail
        go_region
        go_wp2_with fail
        go_returns
        exact ⟨ret_bool HF.out, HBR.out.drew⟩
      ·have HF := Lib.hid (HNE.out (fun h => e2 (congrArg It.value h)))
       have hx : (x2 == y2) = false := by simpa using e2
       go_wp2_with fail
       go_region
       go_wp2_with fail
       go_returns
       exact ⟨ret_bool HF.out, HBR.out.drew⟩
     ·have HF := Lib.hid (HNE.out (fun h => e1 (congrArg It.version h)))
      have hx : (x1 == y1) = false := by simpa using e1
      go_wp2_with fail
      go_region
      go_wp2_with fail
      go_returns
      exact ⟨ret_bool HF.out, HBR.out.drew⟩
    ·have HF := Lib.hid (HNE.out (fun h => e0 (congrArg It.cell h)))
     have hx : (x0 == y0) = false := by simpa using e0
     go_wp2_with fail
     go_region
     go_wp2_with fail
     go_returns
     exact ⟨ret_bool HF.out, HBR.out.drew⟩
   ·have hks : k = l.length := by omega
    have HF : Hid (decide (l = m) = true) := Lib.hid (decide_eq_true (by
     rw [hks, List.take_length, HL.out, List.take_length] at hpre
     exact hpre))
    have HBR := Lib.hid hbr
    clear hpre hks hbr
    go_wp2_with fail
    go_returns
    exact ⟨ret_bool HF.out, HBR.out⟩
 ·have HF : Hid (decide (l = m) = false) := Lib.hid (decide_eq_false fun e => hlen (by rw [e]))
  go_enter Try.func23, Try.ntmps23
  go_wp2_with fail
  go_returns
  exact ⟨ret_bool HF.out, Below.refl _ _⟩
set_option maxHeartbeats 400000 in
theorem sameNodes_any (A B : Option Addr) (l m : List Int) (c d : Nat) (w : World) (ha : Nums w A l) (hb : Nums w B m) (hl : l.length ≤ 1000000) :
  Calls Try.prog 21 #[.slice A l.length c, .slice B m.length d] w fun e w' => e = .returned (.bool (decide (l = m))) ∧ Below w.heap.size w w' := by
 by_cases hlen : l.length = m.length
 ·have HL := Lib.hid hlen
  rw [← hlen]
  clear hlen
  go_enter Try.func21, Try.ntmps21
  go_wp2_with fail
  go_loopw [5] (fun i wr => ∃ k : Nat, k ≤ l.length ∧ i = .int .i64 (k : Int) ∧ l.take k = m.take k ∧ Below w.heap.size w wr) (fun i _ => l.length - (intOf i).toNat)
  case atStart => exact ⟨0, Nat.zero_le _, rfl, rfl, Below.refl _ _⟩
  case round =>
   obtain ⟨k, hk, rfl, hpre, hbr⟩ := hrel
   by_cases hlt : k < l.length
   ·have hlt2 : k < m.length := by rw [← HL.out]; exact hlt
    obtain ⟨b1, o1, rfl, hi1⟩ := ha k hlt
    obtain ⟨b2, o2, rfl, hi2⟩ := hb k hlt2
    have c0 := (hbr.cell (block_of_cell hi1)).trans hi1
    have d0 := (hbr.cell (block_of_cell hi2)).trans hi2
    have HBR := Lib.hid hbr
    have HP := Lib.hid hpre
    have HN1 : Hid (l.take (k + 1) = l.take k ++ [l[k]]) := Lib.hid (by rw [List.take_add_one, List.getElem?_eq_getElem hlt]; rfl)
    have HN2 : Hid (m.take (k + 1) = m.take k ++ [m[k]]) := Lib.hid (by rw [List.take_add_one, List.getElem?_eq_getElem hlt2]; rfl)
    have HNE : Hid (l[k] ≠ m[k] → decide (l = m) = false) := Lib.hid fun h => decide_eq_false fun e => h (by subst e; rfl)
    clear hbr hi1 hi2 hpre ha hb
    generalize l[k] = x0 at *
    generalize m[k] = y0 at *
    by_cases e0 : x0 = y0
    ·subst e0
     go_wp2_with fail
     go_region
     go_wp2_with fail
     go_roundw
     case rel => exact ⟨k + 1, by omega, by go_num, by rw [HN1.out, HN2.out, HP.out], HBR.out.drew⟩
     case measure => simp [intOf]; omega
    ·have HF := Lib.hid (HNE.out e0)
     have hx : (x0 == y0) = false := by simpa using e0
     have hx2 : (x0 != y0) = true := by simpa using e0
     go_wp2_with fail
     go_region
     go_wp2_with fail
     go_returns
     exact ⟨ret_bool HF.out, HBR.out.drew⟩
   ·have hks : k = l.length := by omega
    have HF : Hid (decide (l = m) = true) := Lib.hid (decide_eq_true (by
     rw [hks, List.take_length, HL.out, List.take_length] at hpre
     exact hpre))
    have HBR := Lib.hid hbr
    clear hpre hks hbr
    go_wp2_with fail
    go_returns
    exact ⟨ret_bool HF.out, HBR.out⟩
 ·have HF : Hid (decide (l = m) = false) := Lib.hid (decide_eq_false fun e => hlen (by rw [e]))
  go_enter Try.func21, Try.ntmps21
  go_wp2_with fail
  go_returns
  exact ⟨ret_bool HF.out, Below.refl _ _⟩
end Go.Proofs.Ytjeogeablbkhgaa.Item
