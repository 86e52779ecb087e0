/-
  Layer 18: has, Of, Held of a table of leases. Conditions: none.
-/
import Derived.Test.YtiobblmagjbhjaaLeaAt
namespace Go.Proofs.Ytiobblmagjbhjaa.Lea
set_option maxRecDepth 100000
open Go.RowKit Go.Deep Go.Proofs.Ytiobblmagjbhjaa.Mem

section
variable {B tb g : Nat} {w w1 : World} {T : List Sv}
theorem Has_any (h : Tb B w tb g T) {L : Option Addr} {l : List Int} {lc : Nat} (hr : IRow w L l) (hn : l.length ≤ 1000) :
    Calls Try.prog 21 #[.pointer (some ⟨tb, 0, none⟩), .slice L l.length lc] w fun e w' => e = .returned (.bool (hasT T.length l)) ∧ w' = w := by
  have c0 := h.box.cell (j := 0) rfl
  obtain ⟨m, hm⟩ : ∃ m, T.length = m := ⟨_, rfl⟩
  obtain ⟨n, hnn⟩ : ∃ n, l.length = n := ⟨_, rfl⟩
  obtain ⟨ans, hans⟩ : ∃ b, hasT m l = b := ⟨_, rfl⟩
  rw [hm] at c0 ⊢
  rw [hnn] at hn ⊢
  rw [hans]
  have HN := Lib.hid hnn
  have HA := Lib.hid hans
  have HR := Lib.hid hr
  clear h hm hnn hans hr
  go_enter Try.func21, Try.ntmps21
  go_wp2_with fail
  go_loopw [6, 11] (fun _ i wr => ∃ k : Nat, k ≤ n ∧ i = .int .i64 (k : Int) ∧ Hid (hasT m (l.take k) = true) ∧ wr = w) (fun _ i _ => n - (intOf i).toNat)
  case atStart => exact ⟨0, Nat.zero_le _, rfl, Lib.hid rfl, rfl⟩
  case round =>
    obtain ⟨k, hk, rfl, HX, rfl⟩ := hrel
    by_cases hlt : k < n
    · have hkl : k < l.length := by rw [HN.out]; exact hlt
      obtain ⟨b, off, rfl, hc⟩ := HR.out k hkl
      obtain ⟨y, hy⟩ : ∃ y, l[k] = y := ⟨_, rfl⟩
      rw [hy] at hc
      have HT : Hid (l.take (k + 1) = l.take k ++ [y]) := Lib.hid (by rw [List.take_add_one, List.getElem?_eq_getElem hkl, hy]; rfl)
      have HM : Hid (y ∈ l) := Lib.hid (by rw [← hy]; exact List.getElem_mem hkl)
      clear hy hkl
      by_cases h0 : y < 0
      · have e1 : decide (y < 0) = true := decide_eq_true h0
        have HF : Hid (ans = false) := Lib.hid (by
          rw [← HA.out]
          unfold hasT
          rw [List.all_eq_false]
          exact ⟨y, HM.out, by unfold inT; rw [decide_eq_false (by omega)]; simp⟩)
        clear h0
        go_wp2_with fail
        go_returns
        exact ⟨ret_val (congrArg Value.bool HF.out.symm), rfl⟩
      · have e1 : decide (y < 0) = false := decide_eq_false h0
        by_cases h1 : y ≥ (m : Int)
        · have e2 : decide (y ≥ (m : Int)) = true := decide_eq_true h1
          have HF : Hid (ans = false) := Lib.hid (by
            rw [← HA.out]
            unfold hasT
            rw [List.all_eq_false]
            exact ⟨y, HM.out, by unfold inT; rw [decide_eq_false (p := y < (m : Int)) (by omega)]; simp⟩)
          clear h0 h1
          go_wp2_with fail
          go_returns
          exact ⟨ret_val (congrArg Value.bool HF.out.symm), rfl⟩
        · have e2 : decide (y ≥ (m : Int)) = false := decide_eq_false h1
          have HX2 : Hid (hasT m (l.take (k + 1)) = true) := Lib.hid (by
            have h3 := HX.out
            rw [HT.out]
            unfold hasT at h3 ⊢
            rw [List.all_append, h3, List.all_cons]
            unfold inT
            rw [decide_eq_true (by omega), decide_eq_true (by omega)]
            rfl)
          clear h0 h1 HX
          go_wp2_with fail
          go_roundw
          case rel => exact ⟨k + 1, by omega, by go_num, HX2, by trivial⟩
          case measure => simp [intOf]; omega
    · obtain rfl : k = n := by omega
      have HF : Hid (ans = true) := Lib.hid (by
        have h3 := HX.out
        rw [List.take_of_length_le (Nat.le_of_eq HN.out)] at h3
        rw [← HA.out]
        exact h3)
      go_wp2_with fail
      go_returns
      exact ⟨ret_val (congrArg Value.bool HF.out.symm), rfl⟩
theorem Has_nil (v : Value) (w : World) : Calls Try.prog 21 #[.pointer none, v] w fun e w' => e = .returned (.bool false) ∧ w' = w := by
  go_enter Try.func21, Try.ntmps21
  go_wp2_with fail
  go_returns
  exact ⟨rfl, rfl⟩
/-- A slot's hold, and whether there is one. -/
def ofV (s : Sv) : Value := .tuple #[.agg #[.int .i64 s.tid.node, .int .i64 s.tid.epoch, .int .i64 s.tid.seq, .int .i64 s.til], .bool s.held]
set_option maxHeartbeats 1000000 in
theorem Of_any (h : Tb B w tb g T) (c : Int) :
    Calls Try.prog 19 #[.pointer (some ⟨tb, 0, none⟩), .int .i64 c] w fun e w' => e = .returned (ofV (ofT T c)) ∧ Below w.heap.size w w' := by
  obtain ⟨wa, hwa⟩ : ∃ W, W = w.alloc (.cells #[.int .i64 0, .int .i64 0, .int .i64 0, .int .i64 0] 48) := ⟨_, rfl⟩
  have hba : Below w.heap.size w wa := by rw [hwa]; exact below_alloc _ _
  have hca : Cells wa w.heap.size 48 [.int .i64 0, .int .i64 0, .int .i64 0, .int .i64 0] := by rw [hwa]; exact cells_new _ _ _ _ rfl
  obtain ⟨wb, hwb⟩ : ∃ W, W = wa.alloc (.cells #[.int .i64 c] 3) := ⟨_, rfl⟩
  have hbb : Below wa.heap.size wa wb := by rw [hwb]; exact below_alloc _ _
  have hcb : Cells wb wa.heap.size 3 [.int .i64 c] := by rw [hwb]; exact cells_new _ _ _ _ rfl
  have hbw : Below w.heap.size w wb := hba.trans (hbb.mono hba.size)
  have hir : IRow wb (some ⟨wa.heap.size, 0, none⟩) [c] := fun k hk => by
    obtain rfl : k = 0 := by simpa using hk
    exact ⟨_, _, rfl, hcb.cell (j := 0) rfl⟩
  have HC := Lib.hid (Has_any (h.later hbw) (l := [c]) (lc := 1) hir (by simp))
  have hcc := hca.later hbb
  have z0 := hcc.cell (j := 0) rfl
  have z1 := hcc.cell (j := 1) rfl
  have z2 := hcc.cell (j := 2) rfl
  have z3 := hcc.cell (j := 3) rfl
  have f0 := hcc.frozen (j := 0) (by simp)
  have f1 := hcc.frozen (j := 1) (by simp)
  have f2 := hcc.frozen (j := 2) (by simp)
  have f3 := hcc.frozen (j := 3) (by simp)
  have HCC := Lib.hid hcc
  have HBW := Lib.hid hbw
  have HH := Lib.hid (h.later hbw)
  have hone : hasT T.length [c] = inT T.length c := by simp [hasT]
  rw [hone] at HC
  cases hi : inT T.length c with
  | false =>
    rw [hi] at HC
    rw [ofT_out hi]
    have HF := (((hcc.set_ 0 (.int .i64 0)).set_ 1 (.int .i64 0)).set_ 2 (.int .i64 0)).set_ 3 (.int .i64 0)
    clear h hba hca hbb hcb hbw hir hcc hone hi
    go_enter Try.func19, Try.ntmps19
    go_upto_region 1 with (fail)
    rw [← hwa]
    clear hwa
    go_wp2_with fail
    rw [← hwb]
    clear hwb
    refine (show Calls Try.prog 21 #[.pointer (some ⟨tb, 0, none⟩), .slice (some ⟨wa.heap.size, 0, none⟩) 1 1] _ _ from HC.out).mono ?_
    rintro e w2 ⟨rfl, hw2⟩
    rw [hw2]
    clear hw2 HC
    go_wp2_with fail
    refine bodyPost_ret (v := ofV sv0) ?_ rfl ?_
    · exact (ret_cell_tmp (p := 4) (q := 5) (ty := 48) (by rfl) _ HF _ (by rfl) Try.underlying48 rfl (by kernel_rfl)).trans (by rfl)
    · exact ⟨rfl, (((HBW.out.setCell (Nat.le_refl _) _).setCell (Nat.le_refl _) _).setCell (Nat.le_refl _) _).setCell (Nat.le_refl _) _⟩
  | true =>
    rw [hi] at HC
    obtain ⟨k, rfl, hk⟩ := inT_nat hi
    rw [ofT_nat hk]
    have hel := (h.later hbw).elem hk
    obtain ⟨s, hs⟩ : ∃ s, T[k] = s := ⟨_, rfl⟩
    rw [hs] at hel ⊢
    have c0 := (h.later hbw).box.cell (j := 0) rfl
    obtain ⟨m, hm⟩ : ∃ m, T.length = m := ⟨_, rfl⟩
    rw [hm] at c0 hk
    have x0 : wb.cell? ⟨g, k * 5, none⟩ = _ := hel.cell (j := 0) rfl
    have x1 := hel.cell (j := 1) rfl
    have x2 := hel.cell (j := 2) rfl
    have x3 := hel.cell (j := 3) rfl
    have x4 := hel.cell (j := 4) rfl
    obtain ⟨⟨sn, se, sq⟩, st, sh⟩ := s
    dsimp only at x0 x1 x2 x3 x4
    obtain ⟨wc, hwc⟩ : ∃ W, W = wb.alloc (.cells #[.int .i64 sn, .int .i64 se, .int .i64 sq, .int .i64 st, .bool sh] 66) := ⟨_, rfl⟩
    have hbc : Below wb.heap.size wb wc := by rw [hwc]; exact below_alloc _ _
    have hcs : Cells wc wb.heap.size 66 [.int .i64 sn, .int .i64 se, .int .i64 sq, .int .i64 st, .bool sh] := by rw [hwc]; exact cells_new _ _ _ _ rfl
    have HCS := Lib.hid hcs
    have HC2 := Lib.hid (hcc.later hbc)
    have HBC := Lib.hid (hbw.trans (hbc.mono hbw.size))
    clear h hba hca hbb hcb hbw hir hcc hone hi hel hs hm hbc hcs
    go_enter Try.func19, Try.ntmps19
    go_upto_region 1 with (fail)
    rw [← hwa]
    clear hwa
    go_wp2_with fail
    rw [← hwb]
    clear hwb
    refine (show Calls Try.prog 21 #[.pointer (some ⟨tb, 0, none⟩), .slice (some ⟨wa.heap.size, 0, none⟩) 1 1] _ _ from HC.out).mono ?_
    rintro e w2 ⟨rfl, hw2⟩
    rw [hw2]
    clear hw2 HC w2 z0 z1 z2 z3 f0 f1 f2 f3
    go_upto_region 4 with (fail)
    rw [← hwc]
    clear hwc x0 x1 x2 x3 x4 c0
    have y0 := HCS.out.cell (j := 0) rfl
    have y1 := HCS.out.cell (j := 1) rfl
    have y2 := HCS.out.cell (j := 2) rfl
    have y3 := HCS.out.cell (j := 3) rfl
    have y4 := HCS.out.cell (j := 4) rfl
    have z0 := HC2.out.cell (j := 0) rfl
    have z1 := HC2.out.cell (j := 1) rfl
    have z2 := HC2.out.cell (j := 2) rfl
    have z3 := HC2.out.cell (j := 3) rfl
    have f0 := HC2.out.frozen (j := 0) (by simp)
    have f1 := HC2.out.frozen (j := 1) (by simp)
    have f2 := HC2.out.frozen (j := 2) (by simp)
    have f3 := HC2.out.frozen (j := 3) (by simp)
    have HF := ((((HC2.out.later (Below.refl _ _).drew).set_ 0 (.int .i64 sn)).set_ 1 (.int .i64 se)).set_ 2 (.int .i64 sq)).set_ 3 (.int .i64 st)
    go_region
    go_wp2_with fail
    refine bodyPost_ret (v := ofV ⟨⟨sn, se, sq⟩, st, sh⟩) ?_ rfl ?_
    · exact (ret_cell_tmp (p := 4) (q := 5) (ty := 48) (by rfl) _ HF _ (by rfl) Try.underlying48 rfl (by kernel_rfl)).trans (by rfl)
    · exact ⟨rfl, (((((HBC.out.trans ((Below.refl _ _).drew.mono HBC.out.size))).setCell (Nat.le_refl _) _).setCell (Nat.le_refl _) _).setCell (Nat.le_refl _) _).setCell (Nat.le_refl _) _⟩
end
end Go.Proofs.Ytiobblmagjbhjaa.Lea
