/-
  Layer 15, the document's answers: Edge, Same. Conditions: none.
-/
import Derived.Test.YtbchgnlfkcgklaaSpn2
import Derived.BigRegion
namespace Go.Proofs.Ytbchgnlfkcgklaa.Spn
set_option maxRecDepth 100000
open Go.RowKit Go.Deep Go.Proofs.Ytbchgnlfkcgklaa.Mem

def edgeI (a b m : Int) : Bool := decide (1 ≤ a ∧ 1 ≤ b ∧ a ≤ m ∧ b ≤ m ∧ m ≤ 16) && edgeB a.toNat b.toNat
set_option maxHeartbeats 2000000 in
theorem Edge_any (a b m : Int) (w : World) : Calls Try.prog 8 #[.int .i64 a, .int .i64 b, .int .i64 m] w fun e w' => e = .returned (.bool (edgeI a b m)) ∧ w' = w := by
  obtain ⟨v, hv⟩ : ∃ v, edgeI a b m = v := ⟨_, rfl⟩
  rw [hv]
  have HV := Lib.hid hv
  clear hv
  by_cases hbad : a < 1 ∨ b < 1 ∨ m < a ∨ m < b ∨ 16 < m
  · obtain rfl : v = false := by rw [← HV.out]; unfold edgeI; rw [decide_eq_false (by omega), Bool.false_and]
    clear HV
    by_cases h1 : a < 1
    · clear hbad
      go_enter Try.func8, Try.ntmps8
      go_wp2_with fail
      go_returns
      exact ⟨rfl, rfl⟩
    by_cases h2 : b < 1
    · clear hbad
      go_enter Try.func8, Try.ntmps8
      go_wp2_with fail
      go_returns
      exact ⟨rfl, rfl⟩
    by_cases h3 : m < a
    · clear hbad
      go_enter Try.func8, Try.ntmps8
      go_wp2_with fail
      go_returns
      exact ⟨rfl, rfl⟩
    by_cases h4 : m < b
    · clear hbad
      go_enter Try.func8, Try.ntmps8
      go_wp2_with fail
      go_returns
      exact ⟨rfl, rfl⟩
    have h5 : 16 < m := by omega
    clear hbad
    go_enter Try.func8, Try.ntmps8
    go_wp2_with fail
    go_returns
    exact ⟨rfl, rfl⟩
  · have h1 : ¬ a < 1 := fun e => hbad (Or.inl e)
    have h2 : ¬ b < 1 := fun e => hbad (Or.inr (Or.inl e))
    have h3 : ¬ m < a := fun e => hbad (Or.inr (Or.inr (Or.inl e)))
    have h4 : ¬ m < b := fun e => hbad (Or.inr (Or.inr (Or.inr (Or.inl e))))
    have h5 : ¬ 16 < m := fun e => hbad (Or.inr (Or.inr (Or.inr (Or.inr e))))
    have HE : Hid (v = ((decide (1 < a) && decide (a / 2 = b)) || (decide (1 < b) && decide (b / 2 = a)))) := Lib.hid (by
      rw [← HV.out]
      unfold edgeI edgeB
      rw [decide_eq_true (by omega), Bool.true_and]
      congr 1
      · rw [show decide (1 < a.toNat) = decide (1 < a) from decide_eq_decide.2 (by omega)]
        congr 1
        rw [Bool.eq_iff_iff, beq_iff_eq, decide_eq_true_eq]
        omega
      · rw [show decide (1 < b.toNat) = decide (1 < b) from decide_eq_decide.2 (by omega)]
        congr 1
        rw [Bool.eq_iff_iff, beq_iff_eq, decide_eq_true_eq]
        omega)
    have hqa : a.tdiv 2 = a / 2 := Int.tdiv_eq_ediv_of_nonneg (by omega)
    have hqb : b.tdiv 2 = b / 2 := Int.tdiv_eq_ediv_of_nonneg (by omega)
    have HQ := Lib.hid (And.intro hqa hqb)
    clear hbad HV hqa hqb
    by_cases k1 : 1 < a <;> by_cases k2 : 1 < b <;> by_cases k3 : a / 2 = b <;> by_cases k4 : b / 2 = a
    all_goals
    · go_enter Try.func8, Try.ntmps8
      go_wp2_with fail
      all_goals
      · go_returns
        exact ⟨ret_val (by rw [HE.out]; by_cases z1 : 1 < a <;> simp [z1, k2, k3, k4, HQ.out.2] <;> omega), rfl⟩
set_option maxHeartbeats 1000000 in
theorem Same_any (A B : Option Addr) (ss ts : List Int) (c d : Nat) (w : World) (ha : IRow w A ss) (hb : IRow w B ts) (hl : ss.length ≤ 1000) :
    Calls Try.prog 11 #[.slice A ss.length c, .slice B ts.length d] w fun e w' => e = .returned (.bool (decide (ss = ts))) ∧ Below w.heap.size w w' := by
  obtain ⟨n, hn⟩ : ∃ n, ss.length = n := ⟨_, rfl⟩
  obtain ⟨m, hm⟩ : ∃ m, ts.length = m := ⟨_, rfl⟩
  obtain ⟨v, hv⟩ : ∃ v, decide (ss = ts) = v := ⟨_, rfl⟩
  rw [hn] at hl
  rw [hn, hm, hv]
  have HA := Lib.hid ha
  have HB := Lib.hid hb
  have HN := Lib.hid hn
  have HM := Lib.hid hm
  have HV := Lib.hid hv
  clear ha hb hn hm hv
  by_cases hnm : n = m
  · subst hnm
    go_enter Try.func11, Try.ntmps11
    go_wp2_with fail
    go_loopw [5] (fun i wr => ∃ k : Nat, k ≤ n ∧ i = .int .i64 (k : Int) ∧ Hid (ss.take k = ts.take k) ∧ Hid (Below w.heap.size w wr)) (fun i _ => n - (intOf i).toNat)
    case atStart => exact ⟨0, Nat.zero_le _, rfl, Lib.hid rfl, Lib.hid (Below.refl _ _)⟩
    case round =>
      obtain ⟨k, hk, rfl, HT, HBE⟩ := hrel
      by_cases hlt : k < n
      · have hk1 : k < ss.length := by rw [HN.out]; exact hlt
        have hk2 : k < ts.length := by rw [HM.out]; exact hlt
        obtain ⟨g1, o1, rfl, c1⟩ := HA.out.later HBE.out k hk1
        obtain ⟨g2, o2, rfl, c2⟩ := HB.out.later HBE.out k hk2
        obtain ⟨x, hx⟩ : ∃ x, ss[k] = x := ⟨_, rfl⟩
        obtain ⟨y, hy⟩ : ∃ y, ts[k] = y := ⟨_, rfl⟩
        rw [hx] at c1
        rw [hy] at c2
        by_cases he : x = y
        · subst he
          have HT2 : Hid (ss.take (k + 1) = ts.take (k + 1)) := Lib.hid (by
            rw [List.take_add_one, List.take_add_one, HT.out, List.getElem?_eq_getElem hk1, List.getElem?_eq_getElem hk2, hx, hy])
          clear hx hy hk1 hk2 HT
          go_upto_region 6 with (fail)
          go_region
          have HB2 := Lib.hid HBE.out.drew
          go_wp2_with fail
          go_roundw
          case rel => exact ⟨k + 1, by omega, by go_num, HT2, HB2⟩
          case measure => simp [intOf]; omega
        · obtain rfl : v = false := by
            rw [← HV.out]
            refine decide_eq_false fun e => he ?_
            subst e
            rw [← hx, ← hy]
          have e1 : (x == y) = false := by simpa using he
          clear hx hy hk1 hk2 HT he
          go_upto_region 6 with (fail)
          go_region
          have HB2 := Lib.hid HBE.out.drew
          go_wp2_with fail
          go_returns
          exact ⟨rfl, HB2.out⟩
      · obtain rfl : k = n := by omega
        obtain rfl : v = true := by
          rw [← HV.out]
          refine decide_eq_true ?_
          have := HT.out
          rw [List.take_of_length_le (by rw [HN.out]; exact Nat.le_refl _), List.take_of_length_le (by rw [HM.out]; exact Nat.le_refl _)] at this
          exact this
        go_wp2_with fail
        go_returns
        exact ⟨rfl, HBE.out⟩
  · obtain rfl : v = false := by
      rw [← HV.out]
      exact decide_eq_false fun e => hnm (by rw [← HN.out, ← HM.out, e])
    have e1 : ((n : Int) == (m : Int)) = false := by simp; omega
    go_enter Try.func11, Try.ntmps11
    go_wp2_with fail
    go_returns
    exact ⟨rfl, Below.refl _ _⟩
end Go.Proofs.Ytbchgnlfkcgklaa.Spn
