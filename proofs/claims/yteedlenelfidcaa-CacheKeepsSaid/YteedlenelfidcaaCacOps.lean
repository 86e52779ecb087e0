/-
  Layer 17, the code's cache: Peek, Get, Stale. Conditions: none.
-/
import Derived.Test.YteedlenelfidcaaCacTake
namespace Go.Proofs.Yteedlenelfidcaa.Cac
set_option maxRecDepth 100000
open Go.RowKit Go.Deep Go.Proofs.Yteedlenelfidcaa.Mem

/-- What is found, put again, is the one used last. -/
theorem put_again {R : Cc} {c : Int} {x : En} (h : findE c R.l = some x) : putE R x = (true, useE R c) := by
  have hc := (find_some h).2
  unfold putE useE
  rw [hc, h]
  dsimp only
  rw [if_neg (by omega)]
theorem putsE_count : ∀ (l : List En) (R : Cc), 0 ≤ (putsE R l).1 ∧ (putsE R l).1 ≤ l.length
  | [], R => ⟨Int.le_refl _, Int.le_refl _⟩
  | e :: l, R => by
    have h := putsE_count l (putE R e).2
    show 0 ≤ b1 _ + _ ∧ b1 _ + _ ≤ _
    rw [List.length_cons]
    unfold b1
    cases (putE R e).1 <;> simp <;> omega
theorem dropsE_count : ∀ (l : List Int) (R : Cc), 0 ≤ (dropsE R l).1 ∧ (dropsE R l).1 ≤ l.length
  | [], R => ⟨Int.le_refl _, Int.le_refl _⟩
  | e :: l, R => by
    have h := dropsE_count l (dropE R e).2
    show 0 ≤ b1 _ + _ ∧ b1 _ + _ ≤ _
    rw [List.length_cons]
    unfold b1
    cases (dropE R e).1 <;> simp <;> omega
theorem sl_only {S : Nat → Prop} {w w' : World} {A : Option Addr} {sz : Nat} {vs : List (List Value)} (h : Sl w A sz vs) (ho : Only S w w') (hn : ∀ k, blk A = some k → ¬ S k) : Sl w' A sz vs := fun k hk => by
  obtain ⟨b, off, e, hr⟩ := h k hk
  exact ⟨b, off, e, range_only hr ho (hn b (by rw [e]; rfl))⟩
section
variable {B rb ac : Nat} {w : World} {R : Cc} {A : Option Addr}
set_option maxHeartbeats 1000000 in
theorem Peek_any (h : CcAt B w rb R A ac) (c : Int) : Calls Try.prog 14 #[.pointer (some ⟨rb, 0, none⟩), .int .i64 c] w fun x w' => x = .returned (.tuple #[(getD0 c R.l).v, .bool (hasE c R.l)]) ∧ Below w.heap.size w w' := by
  obtain ⟨wa, hwa⟩ : ∃ W, W = w.alloc (.cells #[.int .i64 0, .int .i64 0, .int .i64 0, .int .i64 0] 38) := ⟨_, rfl⟩
  have hba : Below w.heap.size w wa := by rw [hwa]; exact below_alloc _ _
  have hca : Cells wa w.heap.size 38 [.int .i64 0, .int .i64 0, .int .i64 0, .int .i64 0] := by rw [hwa]; exact cells_new _ _ _ _ rfl
  have hra := h.later hba
  have HC := Lib.hid (Place_any hra c)
  have HB := Lib.hid hba
  have HRA := Lib.hid hra
  have HCA := Lib.hid hca
  unfold getD0 hasE
  rcases atE_spec c R.l 0 with ⟨h1, h2, h3, h4⟩ | ⟨ii, hii, h1, h2, h3, h4⟩
  · rw [h1] at HC
    rw [h2]
    show Calls _ _ _ _ fun x w' => x = .returned (.tuple #[.agg #[.int .i64 0, .int .i64 0, .int .i64 0, .int .i64 0], .bool false]) ∧ _
    clear h hba hca hra h1 h2 h3 h4
    go_enter Try.func14, Try.ntmps14
    go_upto_region 1 with (fail)
    rw [← hwa]
    clear hwa
    go_wp2_with fail
    refine HC.out.mono ?_
    rintro x wq ⟨rfl, hbq⟩
    have hcq := HCA.out.later hbq
    have z0 := hcq.cell (j := 0) rfl
    have z1 := hcq.cell (j := 1) rfl
    have z2 := hcq.cell (j := 2) rfl
    have z3 := hcq.cell (j := 3) rfl
    have f0 := hcq.frozen (j := 0) (by simp)
    have f1 := hcq.frozen (j := 1) (by simp)
    have f2 := hcq.frozen (j := 2) (by simp)
    have f3 := hcq.frozen (j := 3) (by simp)
    have HBQ := Lib.hid (HB.out.trans (hbq.mono HB.out.size))
    have HF := (((hcq.set_ 0 (.int .i64 0)).set_ 1 (.int .i64 0)).set_ 2 (.int .i64 0)).set_ 3 (.int .i64 0)
    clear hbq hcq
    go_wp2_with fail
    refine bodyPost_ret (v := .tuple #[.agg #[.int .i64 0, .int .i64 0, .int .i64 0, .int .i64 0], .bool false]) ?_ rfl ?_
    · exact (ret_cell_tmp (p := 4) (q := 5) (ty := 38) (by rfl) _ HF _ (by rfl) Try.underlying38 rfl (by kernel_rfl)).trans (by rfl)
    · exact ⟨rfl, (((HBQ.out.setCell (Nat.le_refl _) _).setCell (Nat.le_refl _) _).setCell (Nat.le_refl _) _).setCell (Nat.le_refl _) _⟩
  · rw [Nat.zero_add] at h1
    rw [h1] at HC
    rw [h2]
    obtain ⟨g, rfl, hrg, hzz⟩ := hra.at hii
    obtain ⟨e, he⟩ : ∃ t, R.l[ii] = t := ⟨_, rfl⟩
    rw [he] at hrg ⊢
    obtain ⟨n, hn⟩ : ∃ n, R.l.length = n := ⟨_, rfl⟩
    have hin : ii < n := by omega
    have HN := Lib.hid hn
    have HRG := Lib.hid hrg
    clear h hba hca hra h1 h2 h3 h4 hii hrg hzz he hn
    show Calls _ _ _ _ fun x w' => x = .returned (.tuple #[.agg #[.int .i64 e.cell, .int .i64 e.ver, .int .i64 e.val, .int .i64 e.frm], .bool true]) ∧ _
    go_enter Try.func14, Try.ntmps14
    go_upto_region 1 with (fail)
    rw [← hwa]
    clear hwa
    go_wp2_with fail
    refine HC.out.mono ?_
    rintro x wq ⟨rfl, hbq⟩
    have hcq := HCA.out.later hbq
    have z0 := hcq.cell (j := 0) rfl
    have z1 := hcq.cell (j := 1) rfl
    have z2 := hcq.cell (j := 2) rfl
    have z3 := hcq.cell (j := 3) rfl
    have f0 := hcq.frozen (j := 0) (by simp)
    have f1 := hcq.frozen (j := 1) (by simp)
    have f2 := hcq.frozen (j := 2) (by simp)
    have f3 := hcq.frozen (j := 3) (by simp)
    have hrq := range_later HRG.out hbq
    have x0 := hrq 0 _ rfl
    rw [Nat.add_zero] at x0
    have x1 := hrq 1 _ rfl
    have x2 := hrq 2 _ rfl
    have x3 := hrq 3 _ rfl
    have c1 := (HRA.out.later hbq).cel.cell (j := 1) rfl
    rw [HN.out] at c1
    have HBQ := Lib.hid (HB.out.trans (hbq.mono HB.out.size))
    have HF := (((hcq.set_ 0 (.int .i64 e.cell)).set_ 1 (.int .i64 e.ver)).set_ 2 (.int .i64 e.val)).set_ 3 (.int .i64 e.frm)
    clear hbq hcq hrq
    go_wp2_with fail
    refine bodyPost_ret (v := .tuple #[.agg #[.int .i64 e.cell, .int .i64 e.ver, .int .i64 e.val, .int .i64 e.frm], .bool true]) ?_ rfl ?_
    · exact (ret_cell_tmp (p := 4) (q := 5) (ty := 38) (by rfl) _ HF _ (by rfl) Try.underlying38 rfl (by kernel_rfl)).trans (by rfl)
    · exact ⟨rfl, (((HBQ.out.setCell (Nat.le_refl _) _).setCell (Nat.le_refl _) _).setCell (Nat.le_refl _) _).setCell (Nat.le_refl _) _⟩
theorem Peek_nil (c : Int) : Calls Try.prog 14 #[.pointer none, .int .i64 c] w fun x w' => x = .returned (.tuple #[en0.v, .bool false]) ∧ Below w.heap.size w w' := by
  obtain ⟨wa, hwa⟩ : ∃ W, W = w.alloc (.cells #[.int .i64 0, .int .i64 0, .int .i64 0, .int .i64 0] 38) := ⟨_, rfl⟩
  have hba : Below w.heap.size w wa := by rw [hwa]; exact below_alloc _ _
  have hca : Cells wa w.heap.size 38 [.int .i64 0, .int .i64 0, .int .i64 0, .int .i64 0] := by rw [hwa]; exact cells_new _ _ _ _ rfl
  have HC := Lib.hid (Place_nil wa c)
  have HB := Lib.hid hba
  have HCA := Lib.hid hca
  clear hba hca
  go_enter Try.func14, Try.ntmps14
  go_upto_region 1 with (fail)
  rw [← hwa]
  clear hwa
  go_wp2_with fail
  refine HC.out.mono ?_
  rintro x wq ⟨rfl, hbq⟩
  have hcq := HCA.out.later hbq
  have z0 := hcq.cell (j := 0) rfl
  have z1 := hcq.cell (j := 1) rfl
  have z2 := hcq.cell (j := 2) rfl
  have z3 := hcq.cell (j := 3) rfl
  have f0 := hcq.frozen (j := 0) (by simp)
  have f1 := hcq.frozen (j := 1) (by simp)
  have f2 := hcq.frozen (j := 2) (by simp)
  have f3 := hcq.frozen (j := 3) (by simp)
  have HBQ := Lib.hid (HB.out.trans (hbq.mono HB.out.size))
  have HF := (((hcq.set_ 0 (.int .i64 0)).set_ 1 (.int .i64 0)).set_ 2 (.int .i64 0)).set_ 3 (.int .i64 0)
  clear hbq hcq
  go_wp2_with fail
  refine bodyPost_ret (v := .tuple #[.agg #[.int .i64 0, .int .i64 0, .int .i64 0, .int .i64 0], .bool false]) ?_ rfl ?_
  · exact (ret_cell_tmp (p := 4) (q := 5) (ty := 38) (by rfl) _ HF _ (by rfl) Try.underlying38 rfl (by kernel_rfl)).trans (by rfl)
  · exact ⟨rfl, (((HBQ.out.setCell (Nat.le_refl _) _).setCell (Nat.le_refl _) _).setCell (Nat.le_refl _) _).setCell (Nat.le_refl _) _⟩
set_option maxHeartbeats 1000000 in
theorem Stale_any (h : CcAt B w rb R A ac) (c v : Int) : Calls Try.prog 17 #[.pointer (some ⟨rb, 0, none⟩), .int .i64 c, .int .i64 v] w fun x w' => x = .returned (.bool (staleE R c v).1) ∧ CcStep B rb A w (staleE R c v).2 w' := by
  have HC := Lib.hid (Place_any h c)
  have HH := Lib.hid h
  unfold staleE getD0 hasE
  rcases atE_spec c R.l 0 with ⟨h1, h2, h3, h4⟩ | ⟨ii, hii, h1, h2, h3, h4⟩
  · rw [h1] at HC
    rw [h2, if_neg (fun e => by cases e.1)]
    clear h h1 h2 h3 h4
    go_enter Try.func17, Try.ntmps17
    go_wp2_with fail
    refine HC.out.mono ?_
    rintro x wq ⟨rfl, hbq⟩
    have HBQ := Lib.hid hbq
    clear hbq
    go_wp2_with fail
    go_returns
    exact ⟨rfl, CxStep.same HH.out HBQ.out⟩
  · rw [Nat.zero_add] at h1
    rw [h1] at HC
    rw [h2, h3]
    have HRM : Hid (∀ wi, Below w.heap.size w wi → Calls Try.prog 25 #[.pointer (some ⟨rb, 0, none⟩), .int .i64 (ii : Int)] wi fun x w' => x = .returned (.tuple #[]) ∧ CcStep B rb A wi { R with l := R.l.take ii ++ R.l.drop (ii + 1) } w') := Lib.hid fun wi hb => Remove_any (h.later hb) hii
    obtain ⟨g, rfl, hrg, hzz⟩ := h.at hii
    obtain ⟨e, he⟩ : ∃ t, R.l[ii] = t := ⟨_, rfl⟩
    rw [he] at hrg ⊢
    obtain ⟨n, hn⟩ : ∃ n, R.l.length = n := ⟨_, rfl⟩
    have hin : ii < n := by omega
    have HN := Lib.hid hn
    have HRG := Lib.hid hrg
    by_cases hv : e.ver < v
    · rw [if_pos ⟨rfl, hv⟩]
      have e1 : decide (e.ver ≥ v) = false := by simp; omega
      clear h h1 h2 h3 h4 hii hrg hzz he hn hv
      go_enter Try.func17, Try.ntmps17
      go_wp2_with fail
      refine HC.out.mono ?_
      rintro x wq ⟨rfl, hbq⟩
      have hrq := range_later HRG.out hbq
      have x1 := hrq 1 _ rfl
      have c1 := (HH.out.later hbq).cel.cell (j := 1) rfl
      rw [HN.out] at c1
      have HBQ := Lib.hid hbq
      clear hbq hrq
      go_wp2_with fail
      refine (HRM.out _ HBQ.out).mono ?_
      rintro x we ⟨rfl, hst⟩
      have HS := Lib.hid (CxStep.before HBQ.out hst)
      clear hst c1 x1
      go_wp2_with fail
      go_returns
      exact ⟨rfl, HS.out⟩
    · rw [if_neg (fun q => hv q.2)]
      have e1 : decide (e.ver ≥ v) = true := by simp; omega
      clear h h1 h2 h3 h4 hii hrg hzz he hn hv
      go_enter Try.func17, Try.ntmps17
      go_wp2_with fail
      refine HC.out.mono ?_
      rintro x wq ⟨rfl, hbq⟩
      have hrq := range_later HRG.out hbq
      have x1 := hrq 1 _ rfl
      have c1 := (HH.out.later hbq).cel.cell (j := 1) rfl
      rw [HN.out] at c1
      have HBQ := Lib.hid hbq
      clear hbq hrq
      go_wp2_with fail
      go_returns
      exact ⟨rfl, CxStep.same HH.out HBQ.out⟩
theorem Stale_nil (c v : Int) : Calls Try.prog 17 #[.pointer none, .int .i64 c, .int .i64 v] w fun x w' => x = .returned (.bool false) ∧ Below w.heap.size w w' := by
  have HC := Lib.hid (Place_nil w c)
  go_enter Try.func17, Try.ntmps17
  go_wp2_with fail
  refine HC.out.mono ?_
  rintro x wq ⟨rfl, hbq⟩
  go_wp2_with fail
  go_returns
  exact ⟨rfl, hbq⟩
end
end Go.Proofs.Yteedlenelfidcaa.Cac
