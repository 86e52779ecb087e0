/-
  Layer 15: has, Parent, Depth, Children, Neighbours. Conditions: none.
-/
import Derived.Test.YteieehlllfnmcaaSpnM
import Derived.Test.YteieehlllfnmcaaIntCat
namespace Go.Proofs.Yteieehlllfnmcaa.Spn
set_option maxRecDepth 100000
open Go.RowKit Go.Deep Go.Proofs.Yteieehlllfnmcaa.Mem

def parI (n : Int) : Int := if n < 1 then 0 else n / 2
def hasB (n m : Int) : Bool := decide (1 ≤ n ∧ n ≤ m ∧ m ≤ 16)
theorem Parent_any (n : Int) (hn : n ≤ 9223372036854775807) (w : World) : Calls Try.prog 32 #[.int .i64 n] w fun e w' => e = .returned (.int .i64 (parI n)) ∧ w' = w := by
  obtain ⟨v, hv⟩ : ∃ v, parI n = v := ⟨_, rfl⟩
  rw [hv]
  by_cases h : n < 1
  · obtain rfl : v = 0 := by rw [← hv]; exact if_pos h
    clear hv
    go_enter Try.func32, Try.ntmps32
    go_wp2_with fail
    go_returns
    exact ⟨rfl, rfl⟩
  · have hq : wrap64 (n.tdiv 2) = v := by
      rw [← hv, parI, if_neg h, Int.tdiv_eq_ediv_of_nonneg (by omega), IntWalk.wrap64_in _ ⟨by omega, by omega⟩]
    clear hv hn
    go_enter Try.func32, Try.ntmps32
    go_wp2_with fail
    go_returns
    exact ⟨rfl, rfl⟩
theorem has_any (n m : Int) (w : World) : Calls Try.prog 31 #[.int .i64 n, .int .i64 m] w fun e w' => e = .returned (.bool (hasB n m)) ∧ w' = w := by
  obtain ⟨v, hv⟩ : ∃ v, hasB n m = v := ⟨_, rfl⟩
  rw [hv]
  have HV := Lib.hid hv
  clear hv
  by_cases h1 : 1 ≤ n
  · have e1 : decide (n ≥ 1) = true := decide_eq_true h1
    by_cases h2 : n ≤ m
    · have e2 : decide (n ≤ m) = true := decide_eq_true h2
      have HE : Hid (v = decide (m ≤ 16)) := Lib.hid (by rw [← HV.out]; unfold hasB; exact decide_eq_decide.2 (by omega))
      clear HV h1 h2
      go_enter Try.func31, Try.ntmps31
      go_wp2_with fail
      go_returns
      exact ⟨ret_val (by rw [HE.out]; rfl), rfl⟩
    · have e2 : decide (n ≤ m) = false := decide_eq_false h2
      obtain rfl : v = false := by rw [← HV.out]; exact decide_eq_false (by omega)
      clear HV h1 h2
      go_enter Try.func31, Try.ntmps31
      go_wp2_with fail
      go_returns
      exact ⟨rfl, rfl⟩
  · have e1 : decide (n ≥ 1) = false := decide_eq_false h1
    obtain rfl : v = false := by rw [← HV.out]; exact decide_eq_false (by omega)
    clear HV h1
    go_enter Try.func31, Try.ntmps31
    go_wp2_with fail
    go_returns
    exact ⟨rfl, rfl⟩
/-- How many steps up there are from a node's parent, if that is p. -/
def stepsN (p : Int) : Nat := if p < 1 then 0 else Nat.log2 p.toNat + 1
theorem stepsN_par {p : Int} (h : 0 < p) : stepsN p = stepsN (parI p) + 1 := by
  unfold stepsN parI
  rw [if_neg (by omega), if_neg (show ¬ p < 1 by omega)]
  by_cases h1 : p = 1
  · subst h1; rfl
  · rw [if_neg (by omega)]
    have h3 : (p / 2).toNat = p.toNat / 2 := by omega
    rw [h3, Nat.log2_def p.toNat, if_pos (by omega)]
def depI (n : Int) : Nat := if n < 1 then 0 else Nat.log2 n.toNat
theorem depI_par (n : Int) : depI n = stepsN (parI n) := by
  unfold depI stepsN parI
  by_cases h : n < 1
  · simp [h]
  · rw [if_neg h, if_neg h]
    by_cases h1 : n = 1
    · subst h1; rfl
    · rw [if_neg (by omega)]
      have h3 : (n / 2).toNat = n.toNat / 2 := by omega
      rw [h3, Nat.log2_def n.toNat, if_pos (by omega)]
def childI (n m : Int) : List Nat := if hasB n m then childL n.toNat m.toNat else []
theorem has_nat {n m : Int} (h : hasB n m = true) : ∃ a b : Nat, n = (a : Int) ∧ m = (b : Int) ∧ 1 ≤ a ∧ a ≤ b ∧ b ≤ 16 := by
  have := of_decide_eq_true h
  exact ⟨n.toNat, m.toNat, by omega, by omega, by omega, by omega, by omega⟩
theorem Children_any (n m : Int) (w : World) : Calls Try.prog 33 #[.int .i64 n, .int .i64 m] w fun e w' => ∃ v, e = .returned v ∧ NR w.heap.size w' v (childI n m) ∧ Below w.heap.size w w' := by
  have HH := Lib.hid (has_any n m w)
  unfold childI
  cases hb : hasB n m with
  | false =>
    rw [hb] at HH
    rw [if_neg Bool.false_ne_true]
    clear hb
    go_enter Try.func33, Try.ntmps33
    go_wp2_with fail
    refine HH.out.mono ?_
    rintro e w1 ⟨rfl, rfl⟩
    go_wp2_with fail
    go_returns
    exact ⟨_, rfl, OwnG.nil _ _ _ _ _, Below.refl _ _⟩
  | true =>
    rw [hb] at HH
    rw [if_pos rfl]
    obtain ⟨a, b, rfl, rfl, h1, h2, h3⟩ := has_nat hb
    simp only [Int.toNat_natCast]
    obtain ⟨mn, hmn⟩ : ∃ q, min (2 * a + 1) b = q := ⟨_, rfl⟩
    obtain ⟨t, ht⟩ : ∃ t, min (2 * a + 1) b + 1 - 2 * a = t := ⟨_, rfl⟩
    have HC : Hid (childL a b = List.range' (2 * a) t) := Lib.hid (by unfold childL; rw [ht])
    rw [hmn] at ht
    have hm1 : mn ≤ 16 := by omega
    have HMN : Hid (min (2 * (a : Int) + 1) (b : Int) = (mn : Int)) := Lib.hid (by omega)
    have ht2 : t ≤ 16 := by omega
    have HT := Lib.hid ht
    clear hb ht hmn
    go_enter Try.func33, Try.ntmps33
    go_wp2_with fail
    refine HH.out.mono ?_
    rintro e w1 ⟨rfl, rfl⟩
    clear HH
    go_wp2_with fail
    go_loopw [5, 6] (fun l c wr => ∃ (k : Nat) (A : Option Addr) (ac : Nat), k ≤ t ∧ l = .slice A k ac ∧ c = .int .i64 ((2 * a + k : Nat) : Int) ∧ Hid (NR w1.heap.size wr (.slice A k ac) (List.range' (2 * a) k)) ∧ Hid (Below w1.heap.size w1 wr)) (fun _ c _ => 2 * a + t - (intOf c).toNat)
    case atStart => exact ⟨0, none, 0, Nat.zero_le _, rfl, by go_num, Lib.hid (OwnG.nil _ _ _ _ _), Lib.hid (Below.refl _ _)⟩
    case round =>
      obtain ⟨k, A, ac, hk, rfl, rfl, HR, HB⟩ := hrel
      by_cases hlt : k < t
      · obtain ⟨A2, n2, c2, w2, hrun, hrow, ho, hg⟩ := HR.out.iapp (2 * a + k) HB.out.size (by rw [List.length_range']; omega)
        have hrg : List.range' (2 * a) k ++ [2 * a + k] = List.range' (2 * a) (k + 1) := by rw [List.range'_concat]; simp
        rw [hrg] at hrow
        have hn2 := (OwnG.irow hrow).1
        rw [List.length_range'] at hn2
        subst hn2
        have HB2 := Lib.hid (HB.out.trans (ho.below HB.out.size fun i e => (HR.out.lt (by rw [own_blk]; exact e.symm)).1))
        have HR2 := Lib.hid hrow
        have hv : ((2 * a + k : Nat) : Int) = 2 * (a : Int) + k := by omega
        rw [hv] at hrun
        have HRUN := Lib.hid hrun
        have hkm : 2 * (a : Int) + k ≤ mn := by have := HT.out; omega
        have hmb := HMN.out
        clear hrun hrow hrg ho hg hv HR HB
        by_cases hbm : (b : Int) < 2 * a + 1
        all_goals
        · have hk9 : 2 * (a : Int) + k ≤ b := by omega
          have hk8 : 2 * (a : Int) + k ≤ 2 * a + 1 := by omega
          clear hmb hkm
          go_wp2_with (at_builtin
                       refine Lib.wpList_append_run _ rfl (.tmp 22) (.tmp 24) 24 24 rfl (.slice A k ac) (.slice (some ⟨wr.heap.size, 0, none⟩) 1 1) rfl rfl _ _ HRUN.out ?_)
          go_roundw
          case rel => exact ⟨k + 1, A2, c2, by omega, rfl, by go_num, HR2, HB2⟩
          case measure => simp [intOf]; omega
      · obtain rfl : k = t := by omega
        have hmb := HMN.out
        have hkm : ¬ 2 * (a : Int) + k ≤ mn := by have := HT.out; omega
        by_cases hbm : (b : Int) < 2 * a + 1
        all_goals
        · first
            | (have hk9 : ¬ 2 * (a : Int) + k ≤ b := by omega)
            | (have hk8 : ¬ 2 * (a : Int) + k ≤ 2 * a + 1 := by omega)
          clear hmb hkm
          go_wp2_with fail
          go_returns
          exact ⟨_, rfl, by rw [HC.out]; exact HR.out, HB.out⟩
end Go.Proofs.Yteieehlllfnmcaa.Spn
