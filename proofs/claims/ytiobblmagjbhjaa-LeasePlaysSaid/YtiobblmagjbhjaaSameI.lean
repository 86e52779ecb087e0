/-
  Two lists of numbers held against one another (the document's Same of layer 15). Conditions: none.
-/
import Derived.Test.YtiobblmagjbhjaaInts
import Derived.BigRegion
namespace Go.Proofs.Ytiobblmagjbhjaa.Mem
set_option maxRecDepth 100000
open Go.RowKit Go.Deep

set_option maxHeartbeats 1000000 in
theorem Same_any (A B : Option Addr) (ss ts : List Int) (c d : Nat) (w : World) (ha : IRow w A ss) (hb : IRow w B ts) (hl : ss.length ≤ 1000) :
    Calls Try.prog 12 #[.slice A ss.length c, .slice B ts.length d] w fun e w' => e = .returned (.bool (decide (ss = ts))) ∧ Below w.heap.size w w' := by
  obtain ⟨n, hn⟩ : ∃ n, ss.length = n := ⟨_, rfl⟩
  obtain ⟨m, hm⟩ : ∃ m, ts.length = m := ⟨_, rfl⟩
  obtain ⟨v, hv⟩ : ∃ v, decide (ss = ts) = v := ⟨_, rfl⟩
  rw [hn] at hl
  rw [hn, hm, hv]
  have HA := Lib.hid ha
  have HB := Lib.hid hb
  have HN := Lib.hid hn
  have HM := Lib.hid hm
  have HV := Lib.hid hv
  clear ha hb hn hm hv
  by_cases hnm : n = m
  · subst hnm
    go_enter Try.func12, Try.ntmps12
    go_wp2_with fail
    go_loopw [5] (fun i wr => ∃ k : Nat, k ≤ n ∧ i = .int .i64 (k : Int) ∧ Hid (ss.take k = ts.take k) ∧ Hid (Below w.heap.size w wr)) (fun i _ => n - (intOf i).toNat)
    case atStart => exact ⟨0, Nat.zero_le _, rfl, Lib.hid rfl, Lib.hid (Below.refl _ _)⟩
    case round =>
      obtain ⟨k, hk, rfl, HT, HBE⟩ := hrel
      by_cases hlt : k < n
      · have hk1 : k < ss.length := by rw [HN.out]; exact hlt
        have hk2 : k < ts.length := by rw [HM.out]; exact hlt
        obtain ⟨g1, o1, rfl, c1⟩ := HA.out.later HBE.out k hk1
        obtain ⟨g2, o2, rfl, c2⟩ := HB.out.later HBE.out k hk2
        obtain ⟨x, hx⟩ : ∃ x, ss[k] = x := ⟨_, rfl⟩
        obtain ⟨y, hy⟩ : ∃ y, ts[k] = y := ⟨_, rfl⟩
        rw [hx] at c1
        rw [hy] at c2
        by_cases he : x = y
        · subst he
          have HT2 : Hid (ss.take (k + 1) = ts.take (k + 1)) := Lib.hid (by
            rw [List.take_add_one, List.take_add_one, HT.out, List.getElem?_eq_getElem hk1, List.getElem?_eq_getElem hk2, hx, hy])
          clear hx hy hk1 hk2 HT
          go_upto_region 6 with (fail)
          go_region
          have HB2 := Lib.hid HBE.out.drew
          go_wp2_with fail
          go_roundw
          case rel => exact ⟨k + 1, by omega, by go_num, HT2, HB2⟩
          case measure => simp [intOf]; omega
        · obtain rfl : v = false := by
            rw [← HV.out]
            refine decide_eq_false fun e => he ?_
            subst e
            rw [← hx, ← hy]
          have e1 : (x == y) = false := by simpa using he
          clear hx hy hk1 hk2 HT he
          go_upto_region 6 with (fail)
          go_region
          have HB2 := Lib.hid HBE.out.drew
          go_wp2_with fail
          go_returns
          exact ⟨rfl, HB2.out⟩
      · obtain rfl : k = n := by omega
        obtain rfl : v = true := by
          rw [← HV.out]
          refine decide_eq_true ?_
          have := HT.out
          rw [List.take_of_length_le (by rw [HN.out]; exact Nat.le_refl _), List.take_of_length_le (by rw [HM.out]; exact Nat.le_refl _)] at this
          exact this
        go_wp2_with fail
        go_returns
        exact ⟨rfl, HBE.out⟩
  · obtain rfl : v = false := by
      rw [← HV.out]
      exact decide_eq_false fun e => hnm (by rw [← HN.out, ← HM.out, e])
    have e1 : ((n : Int) == (m : Int)) = false := by simp; omega
    go_enter Try.func12, Try.ntmps12
    go_wp2_with fail
    go_returns
    exact ⟨rfl, Below.refl _ _⟩
end Go.Proofs.Ytiobblmagjbhjaa.Mem
