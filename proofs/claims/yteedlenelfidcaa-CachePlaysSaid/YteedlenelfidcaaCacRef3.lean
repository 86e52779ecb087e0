/-
  Layer 17, the document's cache: Get, Same. Conditions: none.
-/
import Derived.Test.YteedlenelfidcaaCacRef
import Derived.Laws.StructEq
namespace Go.Proofs.Yteedlenelfidcaa.Cac
set_option maxRecDepth 100000
open Go.RowKit Go.Deep Go.Proofs.Yteedlenelfidcaa.Mem

set_option maxHeartbeats 4000000 in
theorem RGet_any {B rb ac : Nat} {w : World} {R : Cc} {A : Option Addr} (h : CrAt B w rb R A ac) (c : Int) (hB : B ≤ w.heap.size) : Calls Try.prog 13 #[.pointer (some ⟨rb, 0, none⟩), .int .i64 c] w fun x w' => x = .returned (.tuple #[(getD0 c R.l).v, .bool (hasE c R.l)]) ∧ CrStep B rb A w (useE R c) w' := by
  obtain ⟨wa, hwa⟩ : ∃ W, W = w.alloc (.cells #[.int .i64 0, .int .i64 0, .int .i64 0, .int .i64 0] 40) := ⟨_, rfl⟩
  have hba : Below w.heap.size w wa := by rw [hwa]; exact below_alloc _ _
  have hca : Cells wa w.heap.size 40 [.int .i64 0, .int .i64 0, .int .i64 0, .int .i64 0] := by rw [hwa]; exact cells_new _ _ _ _ rfl
  have hra := h.later hba
  have HC := Lib.hid (RAt_any hra c)
  have HB := Lib.hid hba
  have HRA := Lib.hid hra
  have HH := Lib.hid h
  have HCA := Lib.hid hca
  have HBW0 := Lib.hid hB
  unfold useE getD0 hasE
  rcases atE_spec c R.l 0 with ⟨h1, h2, h3, h4⟩ | ⟨ii, hii, h1, h2, h3, h4⟩
  · rw [h1] at HC
    rw [h2]
    dsimp only
    have z0 := hca.cell (j := 0) rfl
    have z1 := hca.cell (j := 1) rfl
    have z2 := hca.cell (j := 2) rfl
    have z3 := hca.cell (j := 3) rfl
    have f0 := hca.frozen (j := 0) (by simp)
    have f1 := hca.frozen (j := 1) (by simp)
    have f2 := hca.frozen (j := 2) (by simp)
    have f3 := hca.frozen (j := 3) (by simp)
    clear h hba hca hra h1 h2 h3 h4 hB
    go_enter Try.func13, Try.ntmps13
    go_upto_region 1 with (fail)
    rw [← hwa]
    clear hwa
    go_wp2_with fail
    refine HC.out.mono ?_
    rintro x wq ⟨rfl, hwq⟩
    rw [hwq]
    clear hwq wq
    have HF := (((HCA.out.set_ 0 (.int .i64 0)).set_ 1 (.int .i64 0)).set_ 2 (.int .i64 0)).set_ 3 (.int .i64 0)
    go_wp2_with fail
    refine bodyPost_ret (v := .tuple #[.agg #[.int .i64 0, .int .i64 0, .int .i64 0, .int .i64 0], .bool false]) ?_ rfl ?_
    · exact (ret_cell_tmp (p := 4) (q := 5) (ty := 40) (by rfl) _ HF _ (by rfl) Try.underlying40 rfl (by kernel_rfl)).trans (by rfl)
    · exact ⟨rfl, CxStep.same HH.out ((((HB.out.setCell (Nat.le_refl _) _).setCell (Nat.le_refl _) _).setCell (Nat.le_refl _) _).setCell (Nat.le_refl _) _)⟩
  · rw [Nat.zero_add] at h1
    rw [h1] at HC
    rw [h2]
    dsimp only
    obtain ⟨g, rfl, hrg, hzz⟩ := hra.at hii
    obtain ⟨e, he⟩ : ∃ t, R.l[ii] = t := ⟨_, rfl⟩
    rw [he] at hrg ⊢
    have x0 := hrg 0 _ rfl
    rw [Nat.add_zero] at x0
    have x1 := hrg 1 _ rfl
    have x2 := hrg 2 _ rfl
    have x3 := hrg 3 _ rfl
    have c1 := hra.cel.cell (j := 1) rfl
    obtain ⟨n, hn⟩ : ∃ n, R.l.length = n := ⟨_, rfl⟩
    rw [hn] at c1
    have hin : ii < n := by omega
    obtain ⟨wb, hwb⟩ : ∃ W, W = wa.alloc (.cells #[.int .i64 e.cell, .int .i64 e.ver, .int .i64 e.val, .int .i64 e.frm] 40) := ⟨_, rfl⟩
    have hbb : Below wa.heap.size wa wb := by rw [hwb]; exact below_alloc _ _
    have hcb : Cells wb wa.heap.size 40 e.vals := by rw [hwb]; exact cells_new _ _ _ _ rfl
    have hrb := hra.later hbb
    have HD : Hid (Calls Try.prog 16 #[.pointer (some ⟨rb, 0, none⟩), .int .i64 c] wb fun x w' => x = .returned (.bool (hasE c R.l)) ∧ CrStep B rb (some ⟨g, 0, none⟩) wb (dropE R c).2 w') := Lib.hid (RDrop_any hrb c (Nat.le_trans hB (Nat.le_trans hba.size hbb.size)))
    have hhas : hasE c R.l = true := by unfold hasE; rw [h2]; rfl
    obtain ⟨R1, hR1⟩ : ∃ R1 : Cc, R1 = (dropE R c).2 := ⟨_, rfl⟩
    rw [hhas, ← hR1] at HD
    have HFL : Hid ((R1.l ++ [e]).length ≤ 16) := Lib.hid (by rw [hR1]; have := h.len; have := (del_len c R.l).2 hhas; show (delE c R.l ++ [e]).length ≤ 16; simp; omega)
    have HEQ : Hid (({ R1 with l := R1.l ++ [e] } : Cc) = { R with l := delE c R.l ++ [e] }) := Lib.hid (by rw [hR1]; rfl)
    have HBB := Lib.hid (hba.trans (hbb.mono hba.size))
    have HCB := Lib.hid hcb
    have HCA2 := Lib.hid (hca.later hbb)
    have HRB := Lib.hid hrb
    have HFT : Hid (∀ j, cfoot rb (some ⟨g, 0, none⟩) j → j ≠ wa.heap.size ∧ j ≠ w.heap.size) := Lib.hid (fun j q => ⟨fun q2 => by have := (hra.lt q).2; omega, fun q2 => by have := (h.lt q).2; omega⟩)
    have HLTA := Lib.hid hca.lt
    clear h hba hca hra hbb hcb hrb h1 h2 h3 h4 hB hii hrg hzz he hn hhas hR1
    show Calls _ _ _ _ fun x w' => x = .returned (.tuple #[.agg #[.int .i64 e.cell, .int .i64 e.ver, .int .i64 e.val, .int .i64 e.frm], .bool true]) ∧ _
    go_enter Try.func13, Try.ntmps13
    go_upto_region 1 with (fail)
    rw [← hwa]
    clear hwa
    go_wp2_with fail
    refine HC.out.mono ?_
    rintro x wq ⟨rfl, hwq⟩
    rw [hwq]
    clear hwq wq
    go_upto_region 5 with (fail)
    rw [← hwb]
    clear hwb c1 x0 x1 x2 x3
    go_wp2_with fail
    refine HD.out.mono ?_
    rintro x we ⟨rfl, hst⟩
    obtain ⟨A1, ac1, hr1, ho1, hg1⟩ := hst
    have HKB : Hid (∀ wi, Below we.heap.size we wi → Cells wi wa.heap.size 40 e.vals) := Lib.hid fun wi hb => (cells_only HCB.out ho1 fun q => (HFT.out _ q).1 rfl).later hb
    have HCE := Lib.hid (cells_only HCA2.out ho1 fun q => (HFT.out _ q).2 rfl)
    have HR := Lib.hid hr1
    have HO1 := Lib.hid ho1
    have HG1 := Lib.hid hg1
    have HBW := Lib.hid (Nat.le_trans (Nat.le_trans HBW0.out HBB.out.size) ho1.size)
    obtain ⟨n1, hn1⟩ : ∃ X, R1.l.length = X := ⟨_, rfl⟩
    have HN1 := Lib.hid hn1
    obtain ⟨kb, hkb⟩ : ∃ X, wa.heap.size = X := ⟨_, rfl⟩
    rw [hkb] at HKB HFT HLTA ⊢
    clear hr1 ho1 hg1 hn1
    go_upto_region 6 with (fail)
    refine Reg.region_inv (by kernel_rfl) (fun i => ([some (.pointer (some ⟨rb, 0, none⟩)), some (.pointer (some ⟨rb, 0, none⟩)), some (.pointer (some ⟨rb, 0, none⟩)), some (.pointer (some ⟨rb, 1, none⟩)), some (.slice A1 n1 ac1), some (.agg #[.int .i64 e.cell, .int .i64 e.ver, .int .i64 e.val, .int .i64 e.frm]), none, none, some (.pointer (some ⟨rb, 0, none⟩)), some (.pointer (some ⟨rb, 1, none⟩)), none] : List (Option Value)).getD i none) (fun D V W => (D 7 = false → Below we.heap.size we W ∧ (D 6 = true → ∃ g, (V 6) = Value.slice (some ⟨g, 0, none⟩) 1 1 ∧ Cells W g 40 e.vals)) ∧ (D 7 = true → D 10 = false → PendE 40 B we A1 (R1.l ++ [e]) (V 7) W) ∧ (D 10 = true → CrStep B rb A1 we { R1 with l := (R1.l ++ [e]) } W)) (fun V => [(some 24, V 0), (some 25, V 1), (some 26, V 2), (some 27, V 3), (some 28, V 4), (some 29, V 5), (some 30, V 6), (some 31, V 7), (some 32, V 8), (some 33, V 9), (none, V 10)]) (by kernel_rfl) (by kernel_rfl) (fun V => rfl) ?_ ?_ ?_
    · intro V
      exact ⟨fun _ => ⟨(Below.refl _ _).drew, fun e => by cases e⟩, fun e => (by cases e), fun e => (by cases e)⟩
    · intro i o ho
      have hi : i < 11 := (Array.getElem?_eq_some_iff.1 ho).1
      rcases i with _ | _ | _ | _ | _ | _ | _ | _ | _ | _ | _ | i
      rotate_right
      · omega
      all_goals obtain rfl := Option.some.inj ho
      all_goals intro D V ρ wi hE hI hDi hT hF hs hd hk
      · have e0 : ρ (.tmp 0) = .pointer (some ⟨rb, 0, none⟩) := hs 0; clear hT hF hk
        exact Reg.Gives.value (v := .pointer (some ⟨rb, 0, none⟩)) (w' := wi) (by go_simp) ⟨fun x h => Option.some.inj h, hI⟩
      · have e0 : ρ (.tmp 0) = .pointer (some ⟨rb, 0, none⟩) := hs 0; clear hT hF hk
        exact Reg.Gives.value (v := .pointer (some ⟨rb, 0, none⟩)) (w' := wi) (by go_simp) ⟨fun x h => Option.some.inj h, hI⟩
      · have e25 : ρ (.tmp 25) = .pointer (some ⟨rb, 0, none⟩) := (hd 1 25).trans (hk 1 _ rfl); clear hT hF hk
        exact Reg.Gives.value (v := .pointer (some ⟨rb, 0, none⟩)) (w' := wi) (by go_simp) ⟨fun x h => Option.some.inj h, hI⟩
      · have e26 : ρ (.tmp 26) = .pointer (some ⟨rb, 0, none⟩) := (hd 2 26).trans (hk 2 _ rfl); clear hT hF hk
        exact Reg.Gives.value (v := .pointer (some ⟨rb, 1, none⟩)) (w' := wi) (by go_simp) ⟨fun x h => Option.some.inj h, hI⟩
      · have e27 : ρ (.tmp 27) = .pointer (some ⟨rb, 1, none⟩) := (hd 3 27).trans (hk 3 _ rfl); have hD7 : D 7 = false := hF 1 7; clear hT hF; have hL : Below we.heap.size we wi := (hI.1 hD7).1; have x0 := (HR.out.later hL).cel.cell (j := 1) rfl
        rw [HN1.out] at x0
        exact Reg.Gives.value (v := .slice A1 n1 ac1) (w' := wi) (by go_simp) ⟨fun x h => Option.some.inj h, hI⟩
      · have e7 : ρ (.tmp 7) = .pointer (some ⟨kb, 0, none⟩) := hs 7; have hD7 : D 7 = false := hF 2 7; clear hT hF; have hL : Below we.heap.size we wi := (hI.1 hD7).1; have hq := HKB.out wi hL; have q0 := hq.cell (j := 0) rfl; have q1 := hq.cell (j := 1) rfl; have q2 := hq.cell (j := 2) rfl; have q3 := hq.cell (j := 3) rfl
        exact Reg.Gives.value (v := .agg #[.int .i64 e.cell, .int .i64 e.ver, .int .i64 e.val, .int .i64 e.frm]) (w' := wi) (by go_simp) ⟨fun x h => Option.some.inj h, hI⟩
      · have e29 : ρ (.tmp 29) = .agg #[.int .i64 e.cell, .int .i64 e.ver, .int .i64 e.val, .int .i64 e.frm] := (hd 5 29).trans (hk 5 _ rfl); have hD7 : D 7 = false := hF 1 7; have hD10 : D 10 = false := hF 1 10; clear hT hF; have h1 := hI.1 hD7; have hal := below_alloc wi (.cells #[.int .i64 e.cell, .int .i64 e.ver, .int .i64 e.val, .int .i64 e.frm] 40)
        exact Reg.Gives.value (v := .slice (some ⟨wi.heap.size, 0, none⟩) 1 1) (w' := wi.alloc (.cells #[.int .i64 e.cell, .int .i64 e.ver, .int .i64 e.val, .int .i64 e.frm] 40)) (by go_simp) ⟨fun x h => (by cases h), by show (D 7 = false → Below we.heap.size we (wi.alloc (.cells #[.int .i64 e.cell, .int .i64 e.ver, .int .i64 e.val, .int .i64 e.frm] 40)) ∧ (true = true → ∃ g, (Value.slice (some ⟨wi.heap.size, 0, none⟩) 1 1) = Value.slice (some ⟨g, 0, none⟩) 1 1 ∧ Cells (wi.alloc (.cells #[.int .i64 e.cell, .int .i64 e.ver, .int .i64 e.val, .int .i64 e.frm] 40)) g 40 e.vals)) ∧ (D 7 = true → D 10 = false → PendE 40 B we A1 (R1.l ++ [e]) (V 7) (wi.alloc (.cells #[.int .i64 e.cell, .int .i64 e.ver, .int .i64 e.val, .int .i64 e.frm] 40))) ∧ (D 10 = true → CrStep B rb A1 we { R1 with l := (R1.l ++ [e]) } (wi.alloc (.cells #[.int .i64 e.cell, .int .i64 e.ver, .int .i64 e.val, .int .i64 e.frm] 40))); exact ⟨fun _ => ⟨h1.1.trans (hal.mono h1.1.size), fun _ => ⟨_, rfl, cells_new _ _ _ _ rfl⟩⟩, fun e => (by rw [hD7] at e; cases e), fun e => (by rw [hD10] at e; cases e)⟩⟩
      · have e28 : ρ (.tmp 28) = .slice A1 n1 ac1 := (hd 4 28).trans (hk 4 _ rfl); have e30 : ρ (.tmp 30) = V 6 := hd 6 30; have hD6 : D 6 = true := hT 1 6; have hD7 : D 7 = false := hDi; have hD10 : D 10 = false := hF 1 10; clear hT hF; have h1 := hI.1 hD7; obtain ⟨g2, hv2, hcs⟩ := h1.2 hD6
        rw [hv2] at e30
        obtain ⟨v2, w2, hrun, hpd⟩ := HR.out.grow el_re HBW.out h1.1 hcs
        rw [HN1.out] at hrun
        exact Reg.Gives.value (v := v2) (w' := w2) (Reg.exec_append rfl e28 e30 hrun) ⟨fun x h => (by cases h), by show (true = false → Below we.heap.size we w2 ∧ (D 6 = true → ∃ g, (V 6) = Value.slice (some ⟨g, 0, none⟩) 1 1 ∧ Cells w2 g 40 e.vals)) ∧ (true = true → D 10 = false → PendE 40 B we A1 (R1.l ++ [e]) (v2) w2) ∧ (D 10 = true → CrStep B rb A1 we { R1 with l := (R1.l ++ [e]) } w2); exact ⟨fun e => (by cases e), fun _ _ => hpd, fun e => (by rw [hD10] at e; cases e)⟩⟩
      · have e24 : ρ (.tmp 24) = .pointer (some ⟨rb, 0, none⟩) := (hd 0 24).trans (hk 0 _ rfl); clear hT hF hk
        exact Reg.Gives.value (v := .pointer (some ⟨rb, 0, none⟩)) (w' := wi) (by go_simp) ⟨fun x h => Option.some.inj h, hI⟩
      · have e32 : ρ (.tmp 32) = .pointer (some ⟨rb, 0, none⟩) := (hd 8 32).trans (hk 8 _ rfl); clear hT hF hk
        exact Reg.Gives.value (v := .pointer (some ⟨rb, 1, none⟩)) (w' := wi) (by go_simp) ⟨fun x h => Option.some.inj h, hI⟩
      · have e33 : ρ (.tmp 33) = .pointer (some ⟨rb, 1, none⟩) := (hd 9 33).trans (hk 9 _ rfl); have e31 : ρ (.tmp 31) = V 7 := hd 7 31; have hD7 : D 7 = true := hT 1 7; have hD10 : D 10 = false := hDi; clear hT hF; have h2 := hI.2.1 hD7 hD10; obtain ⟨⟨u9, x1⟩, x2, hfin⟩ := h2.put HR.out HFL.out; obtain ⟨A2, c2, hv2, _⟩ := h2; obtain ⟨n3, hn3⟩ : ∃ n3, (R1.l ++ [e]).length = n3 := ⟨_, rfl⟩
        rw [hn3] at hv2
        rw [hv2] at hfin
        have e9 := e31
        rw [hv2] at e9
        clear e31
        exact Reg.Gives.skip (w' := wi.setCell ⟨rb, 1, none⟩ (.slice A2 n3 c2)) (by go_simp) ⟨fun x h => (by cases h), by show (D 7 = false → Below we.heap.size we (wi.setCell ⟨rb, 1, none⟩ (.slice A2 n3 c2)) ∧ (D 6 = true → ∃ g, (V 6) = Value.slice (some ⟨g, 0, none⟩) 1 1 ∧ Cells (wi.setCell ⟨rb, 1, none⟩ (.slice A2 n3 c2)) g 40 e.vals)) ∧ (D 7 = true → true = false → PendE 40 B we A1 (R1.l ++ [e]) (V 7) (wi.setCell ⟨rb, 1, none⟩ (.slice A2 n3 c2))) ∧ (true = true → CrStep B rb A1 we { R1 with l := (R1.l ++ [e]) } (wi.setCell ⟨rb, 1, none⟩ (.slice A2 n3 c2))); exact ⟨fun e => (by rw [hD7] at e; cases e), fun _ e => (by cases e), fun _ => hfin⟩⟩
    · intro V wf hk hI
      simp only [Reg.putsO, List.foldl_cons, List.foldl_nil, Act.put, List.setIfInBounds_toArray, List.set_cons_succ, List.set_cons_zero]
      replace hI : ((fun _ => true) 7 = false → Below we.heap.size we wf ∧ ((fun _ => true) 6 = true → ∃ g, (V 6) = Value.slice (some ⟨g, 0, none⟩) 1 1 ∧ Cells wf g 40 e.vals)) ∧ ((fun _ => true) 7 = true → (fun _ => true) 10 = false → PendE 40 B we A1 (R1.l ++ [e]) (V 7) wf) ∧ ((fun _ => true) 10 = true → CrStep B rb A1 we { R1 with l := (R1.l ++ [e]) } wf) := hI
      clear hk
      have hst := CxStep.next HO1.out HG1.out (hI.2.2 rfl)
      clear hI
      obtain ⟨A2, ac2, hr2, ho2, hg2⟩ := hst
      have hcf := cells_only HCA2.out ho2 fun q => (HFT.out _ q).2 rfl
      have hce := cells_only HCB.out ho2 fun q => (HFT.out _ q).1 hkb
      rw [hkb] at hce
      have y0 := hce.cell (j := 0) rfl
      have y1 := hce.cell (j := 1) rfl
      have y2 := hce.cell (j := 2) rfl
      have y3 := hce.cell (j := 3) rfl
      have z0 := hcf.cell (j := 0) rfl
      have z1 := hcf.cell (j := 1) rfl
      have z2 := hcf.cell (j := 2) rfl
      have z3 := hcf.cell (j := 3) rfl
      have f0 := hcf.frozen (j := 0) (by simp)
      have f1 := hcf.frozen (j := 1) (by simp)
      have f2 := hcf.frozen (j := 2) (by simp)
      have f3 := hcf.frozen (j := 3) (by simp)
      have HF := (((hcf.set_ 0 (.int .i64 e.cell)).set_ 1 (.int .i64 e.ver)).set_ 2 (.int .i64 e.val)).set_ 3 (.int .i64 e.frm)
      have HS : Hid (CrStep B rb (some ⟨g, 0, none⟩) wb { R1 with l := R1.l ++ [e] } wf) := Lib.hid ⟨A2, ac2, hr2, ho2, hg2⟩
      have HLT2 : Hid (w.heap.size < wf.heap.size) := Lib.hid hcf.lt
      clear hr2 ho2 hg2 hcf hce
      go_wp2_with fail
      refine bodyPost_ret (v := .tuple #[.agg #[.int .i64 e.cell, .int .i64 e.ver, .int .i64 e.val, .int .i64 e.frm], .bool true]) ?_ rfl ?_
      · exact (ret_cell_tmp (p := 4) (q := 5) (ty := 40) (by rfl) _ HF _ (by rfl) Try.underlying40 rfl (by kernel_rfl)).trans (by rfl)
      · refine ⟨rfl, ?_⟩
        rw [← HEQ.out]
        exact CxStep.aside HH.out HBB.out HS.out (Nat.le_refl _) (by have := HCA2.out.lt; exact this) (only_set4 _ _ _ _ _ _)
theorem en_cmp (T : TypeId) (hT : Try.prog.underlying T = some (.struct (Try.prog.fieldsOf T))) (hT2 : Try.prog.stoodInHeld T = false)
    (hf : ∃ f0 f1 f2 f3 : Field, (Try.prog.fieldsOf T).toList = [f0, f1, f2, f3] ∧ f0.type = 3 ∧ f1.type = 3 ∧ f2.type = 3 ∧ f3.type = 3 ∧ f0.offset = 0 ∧ f1.offset = 1 ∧ f2.offset = 2 ∧ f3.offset = 3 ∧ f0.name ≠ "_" ∧ f1.name ≠ "_" ∧ f2.name ≠ "_" ∧ f3.name ≠ "_")
    (p q : En) (w : World) : (Op.equalIn 10000 T p.v q.v).run Try.prog w = .ok (decide (p = q)) w := by
  obtain ⟨pa, pb, pc, pd⟩ := p
  obtain ⟨qa, qb, qc, qd⟩ := q
  unfold En.v
  dsimp only
  rw [run_equalIn_agg w _ _ _ _ hT hT2]
  obtain ⟨f0, f1, f2, f3, hf, t0, t1, t2, t3, o0, o1, o2, o3, n0, n1, n2, n3⟩ := hf
  rw [hf]
  have hu := Try.underlying3
  have hans : decide ((⟨pa, pb, pc, pd⟩ : En) = ⟨qa, qb, qc, qd⟩) = (decide (pa = qa) && (decide (pb = qb) && (decide (pc = qc) && decide (pd = qd)))) := by
    simp only [En.mk.injEq]
    by_cases h1 : pa = qa <;> by_cases h2 : pb = qb <;> by_cases h3 : pc = qc <;> by_cases h4 : pd = qd <;> simp [h1, h2, h3, h4]
  rw [hans]
  by_cases ha : pa = qa
  · by_cases hb : pb = qb
    · by_cases hc : pc = qc
      · simp [Op.eqFields, n0, n1, n2, n3, t0, t1, t2, t3, o0, o1, o2, o3, go_sem, hu, ha, hb, hc]
        by_cases hd : pd = qd <;> simp [hd]
      · simp [Op.eqFields, n0, n1, n2, t0, t1, t2, o0, o1, o2, go_sem, hu, ha, hb, hc]
    · simp [Op.eqFields, n0, n1, t0, t1, o0, o1, go_sem, hu, ha, hb]
  · simp [Op.eqFields, n0, t0, o0, go_sem, hu, ha]
theorem en_neqr (p q : En) (w : World) : (binOp .neq 40 p.v q.v).run Try.prog w = .ok (.bool (!decide (p = q))) w := by
  have h := en_cmp 40 (by kernel_rfl) (by kernel_rfl) ⟨_, _, _, _, rfl, rfl, rfl, rfl, rfl, rfl, rfl, rfl, rfl, by decide, by decide, by decide, by decide⟩ p q w
  show (binOp .neq 40 (.agg _) (.agg _)).run Try.prog w = _
  rw [run_neq_struct]
  unfold En.v at h
  rw [h]
  rfl
set_option maxHeartbeats 1000000 in
theorem RSame_any (A A2 : Option Addr) (l : List En) (c c2 : Nat) (w : World) (h : Sl w A 4 (l.map En.vals)) (h2 : Sl w A2 4 (l.map En.vals)) (hl : l.length ≤ 1000) :
    Calls Try.prog 20 #[.slice A l.length c, .slice A2 l.length c2] w fun e w' => e = .returned (.bool true) ∧ Below w.heap.size w w' := by
  have HA := Lib.hid h
  have HA2 := Lib.hid h2
  obtain ⟨n, hn⟩ : ∃ n, l.length = n := ⟨_, rfl⟩
  have HN := Lib.hid hn
  rw [hn] at hl ⊢
  clear h h2 hn
  go_enter Try.func20, Try.ntmps20
  go_wp2_with fail
  go_loopw [5] (fun i wr => ∃ ii : Nat, ii ≤ n ∧ i = .int .i64 (ii : Int) ∧ Hid (Below w.heap.size w wr)) (fun i _ => n - (intOf i).toNat)
  case atStart => exact ⟨0, Nat.zero_le _, rfl, Lib.hid (Below.refl _ _)⟩
  case round =>
    obtain ⟨ii, hii, rfl, HB⟩ := hrel
    by_cases hlt : ii < n
    · have hil : ii < l.length := by rw [HN.out]; exact hlt
      obtain ⟨t, ht⟩ : ∃ t, l[ii] = t := ⟨_, rfl⟩
      obtain ⟨g, off, rfl, hr⟩ := (HA.out.later HB.out) ii (by rw [List.length_map]; exact hil)
      obtain ⟨g2, off2, rfl, hr2⟩ := (HA2.out.later HB.out) ii (by rw [List.length_map]; exact hil)
      rw [List.getElem_map, ht] at hr hr2
      have x0 := hr 0 _ rfl
      rw [Nat.add_zero] at x0
      have x1 := hr 1 _ rfl
      have x2 := hr 2 _ rfl
      have x3 := hr 3 _ rfl
      have y0 := hr2 0 _ rfl
      rw [Nat.add_zero] at y0
      have y1 := hr2 1 _ rfl
      have y2 := hr2 2 _ rfl
      have y3 := hr2 3 _ rfl
      have heq : ∀ W, (binOp .neq 40 (.agg #[.int .i64 t.cell, .int .i64 t.ver, .int .i64 t.val, .int .i64 t.frm]) (.agg #[.int .i64 t.cell, .int .i64 t.ver, .int .i64 t.val, .int .i64 t.frm])).run Try.prog W = .ok (.bool false) W := fun W => by
        have h1 := en_neqr t t W
        rw [decide_eq_true rfl] at h1
        exact h1
      clear hr hr2 ht hil
      go_wp2_with fail
      go_region
      go_wp2_with fail
      go_roundw
      case rel => exact ⟨ii + 1, by omega, by go_num, Lib.hid (HB.out.trans ((Below.refl _ _).drew.mono HB.out.size))⟩
      case measure => simp [intOf]; omega
    · obtain rfl : ii = n := by omega
      go_wp2_with fail
      go_returns
      exact ⟨rfl, HB.out⟩
end Go.Proofs.Yteedlenelfidcaa.Cac
