/-
  Layer 17, the code's cache: take. Conditions: none.
-/
import Derived.Test.YteedlenelfidcaaCacCode
namespace Go.Proofs.Yteedlenelfidcaa.Cac
set_option maxRecDepth 100000
open Go.RowKit Go.Deep Go.Proofs.Yteedlenelfidcaa.Mem

set_option maxHeartbeats 4000000 in
theorem Take_any {B rb ac : Nat} {w : World} {R : Cc} {A : Option Addr} (h : CcAt B w rb R A ac) (e : En) (hB : B ≤ w.heap.size) (hk : Cok R) : Calls Try.prog 23 #[.pointer (some ⟨rb, 0, none⟩), e.v] w fun x w' => x = .returned (.bool (putE R e).1) ∧ CcStep B rb A w (putE R e).2 w' := by
  obtain ⟨wa, hwa⟩ : ∃ W, W = w.alloc (.cells #[.int .i64 e.cell, .int .i64 e.ver, .int .i64 e.val, .int .i64 e.frm] 38) := ⟨_, rfl⟩
  have hba : Below w.heap.size w wa := by rw [hwa]; exact below_alloc _ _
  have hca : Cells wa w.heap.size 38 e.vals := by rw [hwa]; exact cells_new _ _ _ _ rfl
  have y0 := hca.cell (j := 0) rfl
  have hra := h.later hba
  have HC := Lib.hid (Place_any hra e.cell)
  have HB := Lib.hid hba
  have HRA := Lib.hid hra
  have HH := Lib.hid h
  have HCA := Lib.hid hca
  have HBW0 := Lib.hid hB
  have HFT : Hid (∀ j, cfoot rb A j → j ≠ w.heap.size) := Lib.hid (fun j q q2 => by have := (h.lt q).2; omega)
  have d0 := hra.cel.cell (j := 0) rfl
  obtain ⟨n, hn⟩ : ∃ n, R.l.length = n := ⟨_, rfl⟩
  have HN := Lib.hid hn
  have e0 : (R.room == 0) = false := by have := hk.lo; simp; omega
  unfold En.v putE
  rcases atE_spec e.cell R.l 0 with ⟨h1, h2, h3, h4⟩ | ⟨ii, hii, h1, h2, h3, h4⟩
  · rw [h1] at HC
    rw [h2]
    dsimp only
    by_cases hfull : (R.l.length : Int) = R.room
    · rw [if_pos hfull]
      have hpos : 0 < R.l.length := by have := hk.lo; omega
      obtain ⟨R1, hR1⟩ : ∃ R1 : Cc, R1 = { R with l := R.l.tail } := ⟨_, rfl⟩
      have HFL : Hid ((R1.l ++ [e]).length ≤ 16) := Lib.hid (by rw [hR1]; have := hk.l16; simp; omega)
      have HEQ : Hid (({ R1 with l := R1.l ++ [e] } : Cc) = { R with l := R.l.tail ++ [e] }) := Lib.hid (by rw [hR1])
      have HRM : Hid (∀ wi, Below wa.heap.size wa wi → Calls Try.prog 25 #[.pointer (some ⟨rb, 0, none⟩), .int .i64 0] wi fun x w' => x = .returned (.tuple #[]) ∧ CcStep B rb A wi R1 w') := Lib.hid fun wi hb => by
        have h5 := Remove_any (hra.later hb) hpos
        rw [hR1]
        have e5 : R.l.take 0 ++ R.l.drop (0 + 1) = R.l.tail := by simp
        rw [e5] at h5
        exact h5
      have e1 : decide ((n : Int) ≥ R.room) = true := by simp; omega
      clear h hba hca hra h1 h2 h3 h4 hB hk hfull hpos hn hR1
      go_enter Try.func23, Try.ntmps23
      go_upto_region 1 with (fail)
      rw [← hwa]
      clear hwa
      go_wp2_with fail
      refine HC.out.mono ?_
      rintro x wp ⟨rfl, hbp⟩
      have hrp := HRA.out.later hbp
      have hcp := HCA.out.later hbp
      have HB2 := Lib.hid (HB.out.trans (hbp.mono HB.out.size))
      have HRP := Lib.hid hrp
      have HCC := Lib.hid hcp
      have c0 := hrp.cel.cell (j := 0) rfl
      have c1 := hrp.cel.cell (j := 1) rfl
      rw [HN.out] at c1
      have z0 := hcp.cell (j := 0) rfl
      have z1 := hcp.cell (j := 1) rfl
      have HBP : Hid (Below wa.heap.size wa wp.drew.drew) := Lib.hid hbp.drew.drew
      clear hbp hrp hcp d0
      go_wp2_with fail
      go_region
      go_wp2_with fail
      go_region
      go_wp2_with fail
      refine (HRM.out _ HBP.out).mono ?_
      rintro x we ⟨rfl, hst0⟩
      have hst := CxStep.before (Below.refl _ wp).drew.drew hst0
      clear hst0 c0 c1 y0 HBP
      obtain ⟨A1, ac1, hr1, ho1, hg1⟩ := hst
      have HKB : Hid (∀ wi, Below we.heap.size we wi → Cells wi w.heap.size 38 e.vals) := Lib.hid fun wi hb => (cells_only HCC.out ho1 fun q => HFT.out _ q rfl).later hb
      have HR := Lib.hid hr1
      have HO1 := Lib.hid ho1
      have HG1 := Lib.hid hg1
      have HBW := Lib.hid (Nat.le_trans (Nat.le_trans HBW0.out HB2.out.size) ho1.size)
      obtain ⟨n1, hn1⟩ : ∃ X, R1.l.length = X := ⟨_, rfl⟩
      have HN1 := Lib.hid hn1
      obtain ⟨kb, hkb⟩ : ∃ X, w.heap.size = X := ⟨_, rfl⟩
      rw [hkb] at HKB ⊢
      clear hr1 ho1 hg1 hn1 z0 z1
      go_upto_region 10 with (fail)
      refine Reg.region_inv (by kernel_rfl) (fun i => ([some (.pointer (some ⟨rb, 0, none⟩)), some (.pointer (some ⟨rb, 0, none⟩)), some (.pointer (some ⟨rb, 0, none⟩)), some (.pointer (some ⟨rb, 1, none⟩)), some (.slice A1 n1 ac1), some (.agg #[.int .i64 e.cell, .int .i64 e.ver, .int .i64 e.val, .int .i64 e.frm]), none, none, some (.pointer (some ⟨rb, 0, none⟩)), some (.pointer (some ⟨rb, 1, none⟩)), none] : List (Option Value)).getD i none) (fun D V W => (D 7 = false → Below we.heap.size we W ∧ (D 6 = true → ∃ g, (V 6) = Value.slice (some ⟨g, 0, none⟩) 1 1 ∧ Cells W g 38 e.vals)) ∧ (D 7 = true → D 10 = false → PendE 38 B we A1 (R1.l ++ [e]) (V 7) W) ∧ (D 10 = true → CcStep B rb A1 we { R1 with l := (R1.l ++ [e]) } W)) (fun V => [(some 54, V 0), (some 55, V 1), (some 56, V 2), (some 57, V 3), (some 58, V 4), (some 59, V 5), (some 60, V 6), (some 61, V 7), (some 62, V 8), (some 63, V 9), (none, V 10)]) (by kernel_rfl) (by kernel_rfl) (fun V => rfl) ?_ ?_ ?_
      · intro V
        exact ⟨fun _ => ⟨(Below.refl _ _).drew, fun e => by cases e⟩, fun e => (by cases e), fun e => (by cases e)⟩
      · intro i o ho
        have hi : i < 11 := (Array.getElem?_eq_some_iff.1 ho).1
        rcases i with _ | _ | _ | _ | _ | _ | _ | _ | _ | _ | _ | i
        rotate_right
        · omega
        all_goals obtain rfl := Option.some.inj ho
        all_goals intro D V ρ wi hE hI hDi hT hF hs hd hk
        · have e0 : ρ (.tmp 0) = .pointer (some ⟨rb, 0, none⟩) := hs 0; clear hT hF hk
          exact Reg.Gives.value (v := .pointer (some ⟨rb, 0, none⟩)) (w' := wi) (by go_simp) ⟨fun x h => Option.some.inj h, hI⟩
        · have e0 : ρ (.tmp 0) = .pointer (some ⟨rb, 0, none⟩) := hs 0; clear hT hF hk
          exact Reg.Gives.value (v := .pointer (some ⟨rb, 0, none⟩)) (w' := wi) (by go_simp) ⟨fun x h => Option.some.inj h, hI⟩
        · have e55 : ρ (.tmp 55) = .pointer (some ⟨rb, 0, none⟩) := (hd 1 55).trans (hk 1 _ rfl); clear hT hF hk
          exact Reg.Gives.value (v := .pointer (some ⟨rb, 0, none⟩)) (w' := wi) (by go_simp) ⟨fun x h => Option.some.inj h, hI⟩
        · have e56 : ρ (.tmp 56) = .pointer (some ⟨rb, 0, none⟩) := (hd 2 56).trans (hk 2 _ rfl); clear hT hF hk
          exact Reg.Gives.value (v := .pointer (some ⟨rb, 1, none⟩)) (w' := wi) (by go_simp) ⟨fun x h => Option.some.inj h, hI⟩
        · have e57 : ρ (.tmp 57) = .pointer (some ⟨rb, 1, none⟩) := (hd 3 57).trans (hk 3 _ rfl); have hD7 : D 7 = false := hF 1 7; clear hT hF; have hL : Below we.heap.size we wi := (hI.1 hD7).1; have x0 := (HR.out.later hL).cel.cell (j := 1) rfl
          rw [HN1.out] at x0
          exact Reg.Gives.value (v := .slice A1 n1 ac1) (w' := wi) (by go_simp) ⟨fun x h => Option.some.inj h, hI⟩
        · have e3 : ρ (.tmp 3) = .pointer (some ⟨kb, 0, none⟩) := hs 3; have hD7 : D 7 = false := hF 2 7; clear hT hF; have hL : Below we.heap.size we wi := (hI.1 hD7).1; have hq := HKB.out wi hL; have q0 := hq.cell (j := 0) rfl; have q1 := hq.cell (j := 1) rfl; have q2 := hq.cell (j := 2) rfl; have q3 := hq.cell (j := 3) rfl
          exact Reg.Gives.value (v := .agg #[.int .i64 e.cell, .int .i64 e.ver, .int .i64 e.val, .int .i64 e.frm]) (w' := wi) (by go_simp) ⟨fun x h => Option.some.inj h, hI⟩
        · have e59 : ρ (.tmp 59) = .agg #[.int .i64 e.cell, .int .i64 e.ver, .int .i64 e.val, .int .i64 e.frm] := (hd 5 59).trans (hk 5 _ rfl); have hD7 : D 7 = false := hF 1 7; have hD10 : D 10 = false := hF 1 10; clear hT hF; have h1 := hI.1 hD7; have hal := below_alloc wi (.cells #[.int .i64 e.cell, .int .i64 e.ver, .int .i64 e.val, .int .i64 e.frm] 38)
          exact Reg.Gives.value (v := .slice (some ⟨wi.heap.size, 0, none⟩) 1 1) (w' := wi.alloc (.cells #[.int .i64 e.cell, .int .i64 e.ver, .int .i64 e.val, .int .i64 e.frm] 38)) (by go_simp) ⟨fun x h => (by cases h), by show (D 7 = false → Below we.heap.size we (wi.alloc (.cells #[.int .i64 e.cell, .int .i64 e.ver, .int .i64 e.val, .int .i64 e.frm] 38)) ∧ (true = true → ∃ g, (Value.slice (some ⟨wi.heap.size, 0, none⟩) 1 1) = Value.slice (some ⟨g, 0, none⟩) 1 1 ∧ Cells (wi.alloc (.cells #[.int .i64 e.cell, .int .i64 e.ver, .int .i64 e.val, .int .i64 e.frm] 38)) g 38 e.vals)) ∧ (D 7 = true → D 10 = false → PendE 38 B we A1 (R1.l ++ [e]) (V 7) (wi.alloc (.cells #[.int .i64 e.cell, .int .i64 e.ver, .int .i64 e.val, .int .i64 e.frm] 38))) ∧ (D 10 = true → CcStep B rb A1 we { R1 with l := (R1.l ++ [e]) } (wi.alloc (.cells #[.int .i64 e.cell, .int .i64 e.ver, .int .i64 e.val, .int .i64 e.frm] 38))); exact ⟨fun _ => ⟨h1.1.trans (hal.mono h1.1.size), fun _ => ⟨_, rfl, cells_new _ _ _ _ rfl⟩⟩, fun e => (by rw [hD7] at e; cases e), fun e => (by rw [hD10] at e; cases e)⟩⟩
        · have e58 : ρ (.tmp 58) = .slice A1 n1 ac1 := (hd 4 58).trans (hk 4 _ rfl); have e60 : ρ (.tmp 60) = V 6 := hd 6 60; have hD6 : D 6 = true := hT 1 6; have hD7 : D 7 = false := hDi; have hD10 : D 10 = false := hF 1 10; clear hT hF; have h1 := hI.1 hD7; obtain ⟨g2, hv2, hcs⟩ := h1.2 hD6
          rw [hv2] at e60
          obtain ⟨v2, w2, hrun, hpd⟩ := HR.out.grow el_ce HBW.out h1.1 hcs
          rw [HN1.out] at hrun
          exact Reg.Gives.value (v := v2) (w' := w2) (Reg.exec_append rfl e58 e60 hrun) ⟨fun x h => (by cases h), by show (true = false → Below we.heap.size we w2 ∧ (D 6 = true → ∃ g, (V 6) = Value.slice (some ⟨g, 0, none⟩) 1 1 ∧ Cells w2 g 38 e.vals)) ∧ (true = true → D 10 = false → PendE 38 B we A1 (R1.l ++ [e]) (v2) w2) ∧ (D 10 = true → CcStep B rb A1 we { R1 with l := (R1.l ++ [e]) } w2); exact ⟨fun e => (by cases e), fun _ _ => hpd, fun e => (by rw [hD10] at e; cases e)⟩⟩
        · have e54 : ρ (.tmp 54) = .pointer (some ⟨rb, 0, none⟩) := (hd 0 54).trans (hk 0 _ rfl); clear hT hF hk
          exact Reg.Gives.value (v := .pointer (some ⟨rb, 0, none⟩)) (w' := wi) (by go_simp) ⟨fun x h => Option.some.inj h, hI⟩
        · have e62 : ρ (.tmp 62) = .pointer (some ⟨rb, 0, none⟩) := (hd 8 62).trans (hk 8 _ rfl); clear hT hF hk
          exact Reg.Gives.value (v := .pointer (some ⟨rb, 1, none⟩)) (w' := wi) (by go_simp) ⟨fun x h => Option.some.inj h, hI⟩
        · have e63 : ρ (.tmp 63) = .pointer (some ⟨rb, 1, none⟩) := (hd 9 63).trans (hk 9 _ rfl); have e61 : ρ (.tmp 61) = V 7 := hd 7 61; have hD7 : D 7 = true := hT 1 7; have hD10 : D 10 = false := hDi; clear hT hF; have h2 := hI.2.1 hD7 hD10; obtain ⟨⟨u9, x1⟩, x2, hfin⟩ := h2.put HR.out HFL.out; obtain ⟨A2, c2, hv2, _⟩ := h2; obtain ⟨n3, hn3⟩ : ∃ n3, (R1.l ++ [e]).length = n3 := ⟨_, rfl⟩
          rw [hn3] at hv2
          rw [hv2] at hfin
          have e9 := e61
          rw [hv2] at e9
          clear e61
          exact Reg.Gives.skip (w' := wi.setCell ⟨rb, 1, none⟩ (.slice A2 n3 c2)) (by go_simp) ⟨fun x h => (by cases h), by show (D 7 = false → Below we.heap.size we (wi.setCell ⟨rb, 1, none⟩ (.slice A2 n3 c2)) ∧ (D 6 = true → ∃ g, (V 6) = Value.slice (some ⟨g, 0, none⟩) 1 1 ∧ Cells (wi.setCell ⟨rb, 1, none⟩ (.slice A2 n3 c2)) g 38 e.vals)) ∧ (D 7 = true → true = false → PendE 38 B we A1 (R1.l ++ [e]) (V 7) (wi.setCell ⟨rb, 1, none⟩ (.slice A2 n3 c2))) ∧ (true = true → CcStep B rb A1 we { R1 with l := (R1.l ++ [e]) } (wi.setCell ⟨rb, 1, none⟩ (.slice A2 n3 c2))); exact ⟨fun e => (by rw [hD7] at e; cases e), fun _ e => (by cases e), fun _ => hfin⟩⟩
      · intro V wf hk hI
        simp only [Reg.putsO, List.foldl_cons, List.foldl_nil, Act.put, List.setIfInBounds_toArray, List.set_cons_succ, List.set_cons_zero]
        replace hI : ((fun _ => true) 7 = false → Below we.heap.size we wf ∧ ((fun _ => true) 6 = true → ∃ g, (V 6) = Value.slice (some ⟨g, 0, none⟩) 1 1 ∧ Cells wf g 38 e.vals)) ∧ ((fun _ => true) 7 = true → (fun _ => true) 10 = false → PendE 38 B we A1 (R1.l ++ [e]) (V 7) wf) ∧ ((fun _ => true) 10 = true → CcStep B rb A1 we { R1 with l := (R1.l ++ [e]) } wf) := hI
        clear hk
        have HS := Lib.hid (hI.2.2 rfl)
        clear hI
        go_wp2_with fail
        go_returns
        exact ⟨rfl, by rw [← HEQ.out]; exact CxStep.before HB2.out (CxStep.next HO1.out HG1.out HS.out)⟩
    · rw [if_neg hfull]
      obtain ⟨R1, hR1⟩ : ∃ R1 : Cc, R1 = R := ⟨_, rfl⟩
      have HFL : Hid ((R1.l ++ [e]).length ≤ 16) := Lib.hid (by rw [hR1]; have := hk.len; have := hk.hi; simp; omega)
      have HEQ : Hid (({ R1 with l := R1.l ++ [e] } : Cc) = { R with l := R.l ++ [e] }) := Lib.hid (by rw [hR1])
      have e1 : decide ((n : Int) ≥ R.room) = false := by have := hk.len; simp; omega
      have HR1 := Lib.hid hR1
      clear h hba hca hra h1 h2 h3 h4 hB hk hfull hn hR1
      go_enter Try.func23, Try.ntmps23
      go_upto_region 1 with (fail)
      rw [← hwa]
      clear hwa
      go_wp2_with fail
      refine HC.out.mono ?_
      rintro x wp ⟨rfl, hbp⟩
      have hrp := HRA.out.later hbp
      have hcp := HCA.out.later hbp
      have HB2 := Lib.hid (HB.out.trans (hbp.mono HB.out.size))
      have HRP := Lib.hid hrp
      have HCC := Lib.hid hcp
      have c0 := hrp.cel.cell (j := 0) rfl
      have c1 := hrp.cel.cell (j := 1) rfl
      rw [HN.out] at c1
      have z0 := hcp.cell (j := 0) rfl
      have z1 := hcp.cell (j := 1) rfl
      clear hbp hrp hcp d0
      go_wp2_with fail
      go_region
      go_wp2_with fail
      go_region
      have hst : CcStep B rb A wp R1 wp.drew.drew := by rw [HR1.out]; exact CxStep.same HRP.out (Below.refl _ _).drew.drew
      obtain ⟨we, hwe⟩ : ∃ W, W = wp.drew.drew := ⟨_, rfl⟩
      rw [← hwe] at hst ⊢
      clear hwe c0 c1 y0
      obtain ⟨A1, ac1, hr1, ho1, hg1⟩ := hst
      have HKB : Hid (∀ wi, Below we.heap.size we wi → Cells wi w.heap.size 38 e.vals) := Lib.hid fun wi hb => (cells_only HCC.out ho1 fun q => HFT.out _ q rfl).later hb
      have HR := Lib.hid hr1
      have HO1 := Lib.hid ho1
      have HG1 := Lib.hid hg1
      have HBW := Lib.hid (Nat.le_trans (Nat.le_trans HBW0.out HB2.out.size) ho1.size)
      obtain ⟨n1, hn1⟩ : ∃ X, R1.l.length = X := ⟨_, rfl⟩
      have HN1 := Lib.hid hn1
      obtain ⟨kb, hkb⟩ : ∃ X, w.heap.size = X := ⟨_, rfl⟩
      rw [hkb] at HKB ⊢
      clear hr1 ho1 hg1 hn1 z0 z1
      go_upto_region 10 with (fail)
      refine Reg.region_inv (by kernel_rfl) (fun i => ([some (.pointer (some ⟨rb, 0, none⟩)), some (.pointer (some ⟨rb, 0, none⟩)), some (.pointer (some ⟨rb, 0, none⟩)), some (.pointer (some ⟨rb, 1, none⟩)), some (.slice A1 n1 ac1), some (.agg #[.int .i64 e.cell, .int .i64 e.ver, .int .i64 e.val, .int .i64 e.frm]), none, none, some (.pointer (some ⟨rb, 0, none⟩)), some (.pointer (some ⟨rb, 1, none⟩)), none] : List (Option Value)).getD i none) (fun D V W => (D 7 = false → Below we.heap.size we W ∧ (D 6 = true → ∃ g, (V 6) = Value.slice (some ⟨g, 0, none⟩) 1 1 ∧ Cells W g 38 e.vals)) ∧ (D 7 = true → D 10 = false → PendE 38 B we A1 (R1.l ++ [e]) (V 7) W) ∧ (D 10 = true → CcStep B rb A1 we { R1 with l := (R1.l ++ [e]) } W)) (fun V => [(some 54, V 0), (some 55, V 1), (some 56, V 2), (some 57, V 3), (some 58, V 4), (some 59, V 5), (some 60, V 6), (some 61, V 7), (some 62, V 8), (some 63, V 9), (none, V 10)]) (by kernel_rfl) (by kernel_rfl) (fun V => rfl) ?_ ?_ ?_
      · intro V
        exact ⟨fun _ => ⟨(Below.refl _ _).drew, fun e => by cases e⟩, fun e => (by cases e), fun e => (by cases e)⟩
      · intro i o ho
        have hi : i < 11 := (Array.getElem?_eq_some_iff.1 ho).1
        rcases i with _ | _ | _ | _ | _ | _ | _ | _ | _ | _ | _ | i
        rotate_right
        · omega
        all_goals obtain rfl := Option.some.inj ho
        all_goals intro D V ρ wi hE hI hDi hT hF hs hd hk
        · have e0 : ρ (.tmp 0) = .pointer (some ⟨rb, 0, none⟩) := hs 0; clear hT hF hk
          exact Reg.Gives.value (v := .pointer (some ⟨rb, 0, none⟩)) (w' := wi) (by go_simp) ⟨fun x h => Option.some.inj h, hI⟩
        · have e0 : ρ (.tmp 0) = .pointer (some ⟨rb, 0, none⟩) := hs 0; clear hT hF hk
          exact Reg.Gives.value (v := .pointer (some ⟨rb, 0, none⟩)) (w' := wi) (by go_simp) ⟨fun x h => Option.some.inj h, hI⟩
        · have e55 : ρ (.tmp 55) = .pointer (some ⟨rb, 0, none⟩) := (hd 1 55).trans (hk 1 _ rfl); clear hT hF hk
          exact Reg.Gives.value (v := .pointer (some ⟨rb, 0, none⟩)) (w' := wi) (by go_simp) ⟨fun x h => Option.some.inj h, hI⟩
        · have e56 : ρ (.tmp 56) = .pointer (some ⟨rb, 0, none⟩) := (hd 2 56).trans (hk 2 _ rfl); clear hT hF hk
          exact Reg.Gives.value (v := .pointer (some ⟨rb, 1, none⟩)) (w' := wi) (by go_simp) ⟨fun x h => Option.some.inj h, hI⟩
        · have e57 : ρ (.tmp 57) = .pointer (some ⟨rb, 1, none⟩) := (hd 3 57).trans (hk 3 _ rfl); have hD7 : D 7 = false := hF 1 7; clear hT hF; have hL : Below we.heap.size we wi := (hI.1 hD7).1; have x0 := (HR.out.later hL).cel.cell (j := 1) rfl
          rw [HN1.out] at x0
          exact Reg.Gives.value (v := .slice A1 n1 ac1) (w' := wi) (by go_simp) ⟨fun x h => Option.some.inj h, hI⟩
        · have e3 : ρ (.tmp 3) = .pointer (some ⟨kb, 0, none⟩) := hs 3; have hD7 : D 7 = false := hF 2 7; clear hT hF; have hL : Below we.heap.size we wi := (hI.1 hD7).1; have hq := HKB.out wi hL; have q0 := hq.cell (j := 0) rfl; have q1 := hq.cell (j := 1) rfl; have q2 := hq.cell (j := 2) rfl; have q3 := hq.cell (j := 3) rfl
          exact Reg.Gives.value (v := .agg #[.int .i64 e.cell, .int .i64 e.ver, .int .i64 e.val, .int .i64 e.frm]) (w' := wi) (by go_simp) ⟨fun x h => Option.some.inj h, hI⟩
        · have e59 : ρ (.tmp 59) = .agg #[.int .i64 e.cell, .int .i64 e.ver, .int .i64 e.val, .int .i64 e.frm] := (hd 5 59).trans (hk 5 _ rfl); have hD7 : D 7 = false := hF 1 7; have hD10 : D 10 = false := hF 1 10; clear hT hF; have h1 := hI.1 hD7; have hal := below_alloc wi (.cells #[.int .i64 e.cell, .int .i64 e.ver, .int .i64 e.val, .int .i64 e.frm] 38)
          exact Reg.Gives.value (v := .slice (some ⟨wi.heap.size, 0, none⟩) 1 1) (w' := wi.alloc (.cells #[.int .i64 e.cell, .int .i64 e.ver, .int .i64 e.val, .int .i64 e.frm] 38)) (by go_simp) ⟨fun x h => (by cases h), by show (D 7 = false → Below we.heap.size we (wi.alloc (.cells #[.int .i64 e.cell, .int .i64 e.ver, .int .i64 e.val, .int .i64 e.frm] 38)) ∧ (true = true → ∃ g, (Value.slice (some ⟨wi.heap.size, 0, none⟩) 1 1) = Value.slice (some ⟨g, 0, none⟩) 1 1 ∧ Cells (wi.alloc (.cells #[.int .i64 e.cell, .int .i64 e.ver, .int .i64 e.val, .int .i64 e.frm] 38)) g 38 e.vals)) ∧ (D 7 = true → D 10 = false → PendE 38 B we A1 (R1.l ++ [e]) (V 7) (wi.alloc (.cells #[.int .i64 e.cell, .int .i64 e.ver, .int .i64 e.val, .int .i64 e.frm] 38))) ∧ (D 10 = true → CcStep B rb A1 we { R1 with l := (R1.l ++ [e]) } (wi.alloc (.cells #[.int .i64 e.cell, .int .i64 e.ver, .int .i64 e.val, .int .i64 e.frm] 38))); exact ⟨fun _ => ⟨h1.1.trans (hal.mono h1.1.size), fun _ => ⟨_, rfl, cells_new _ _ _ _ rfl⟩⟩, fun e => (by rw [hD7] at e; cases e), fun e => (by rw [hD10] at e; cases e)⟩⟩
        · have e58 : ρ (.tmp 58) = .slice A1 n1 ac1 := (hd 4 58).trans (hk 4 _ rfl); have e60 : ρ (.tmp 60) = V 6 := hd 6 60; have hD6 : D 6 = true := hT 1 6; have hD7 : D 7 = false := hDi; have hD10 : D 10 = false := hF 1 10; clear hT hF; have h1 := hI.1 hD7; obtain ⟨g2, hv2, hcs⟩ := h1.2 hD6
          rw [hv2] at e60
          obtain ⟨v2, w2, hrun, hpd⟩ := HR.out.grow el_ce HBW.out h1.1 hcs
          rw [HN1.out] at hrun
          exact Reg.Gives.value (v := v2) (w' := w2) (Reg.exec_append rfl e58 e60 hrun) ⟨fun x h => (by cases h), by show (true = false → Below we.heap.size we w2 ∧ (D 6 = true → ∃ g, (V 6) = Value.slice (some ⟨g, 0, none⟩) 1 1 ∧ Cells w2 g 38 e.vals)) ∧ (true = true → D 10 = false → PendE 38 B we A1 (R1.l ++ [e]) (v2) w2) ∧ (D 10 = true → CcStep B rb A1 we { R1 with l := (R1.l ++ [e]) } w2); exact ⟨fun e => (by cases e), fun _ _ => hpd, fun e => (by rw [hD10] at e; cases e)⟩⟩
        · have e54 : ρ (.tmp 54) = .pointer (some ⟨rb, 0, none⟩) := (hd 0 54).trans (hk 0 _ rfl); clear hT hF hk
          exact Reg.Gives.value (v := .pointer (some ⟨rb, 0, none⟩)) (w' := wi) (by go_simp) ⟨fun x h => Option.some.inj h, hI⟩
        · have e62 : ρ (.tmp 62) = .pointer (some ⟨rb, 0, none⟩) := (hd 8 62).trans (hk 8 _ rfl); clear hT hF hk
          exact Reg.Gives.value (v := .pointer (some ⟨rb, 1, none⟩)) (w' := wi) (by go_simp) ⟨fun x h => Option.some.inj h, hI⟩
        · have e63 : ρ (.tmp 63) = .pointer (some ⟨rb, 1, none⟩) := (hd 9 63).trans (hk 9 _ rfl); have e61 : ρ (.tmp 61) = V 7 := hd 7 61; have hD7 : D 7 = true := hT 1 7; have hD10 : D 10 = false := hDi; clear hT hF; have h2 := hI.2.1 hD7 hD10; obtain ⟨⟨u9, x1⟩, x2, hfin⟩ := h2.put HR.out HFL.out; obtain ⟨A2, c2, hv2, _⟩ := h2; obtain ⟨n3, hn3⟩ : ∃ n3, (R1.l ++ [e]).length = n3 := ⟨_, rfl⟩
          rw [hn3] at hv2
          rw [hv2] at hfin
          have e9 := e61
          rw [hv2] at e9
          clear e61
          exact Reg.Gives.skip (w' := wi.setCell ⟨rb, 1, none⟩ (.slice A2 n3 c2)) (by go_simp) ⟨fun x h => (by cases h), by show (D 7 = false → Below we.heap.size we (wi.setCell ⟨rb, 1, none⟩ (.slice A2 n3 c2)) ∧ (D 6 = true → ∃ g, (V 6) = Value.slice (some ⟨g, 0, none⟩) 1 1 ∧ Cells (wi.setCell ⟨rb, 1, none⟩ (.slice A2 n3 c2)) g 38 e.vals)) ∧ (D 7 = true → true = false → PendE 38 B we A1 (R1.l ++ [e]) (V 7) (wi.setCell ⟨rb, 1, none⟩ (.slice A2 n3 c2))) ∧ (true = true → CcStep B rb A1 we { R1 with l := (R1.l ++ [e]) } (wi.setCell ⟨rb, 1, none⟩ (.slice A2 n3 c2))); exact ⟨fun e => (by rw [hD7] at e; cases e), fun _ e => (by cases e), fun _ => hfin⟩⟩
      · intro V wf hk hI
        simp only [Reg.putsO, List.foldl_cons, List.foldl_nil, Act.put, List.setIfInBounds_toArray, List.set_cons_succ, List.set_cons_zero]
        replace hI : ((fun _ => true) 7 = false → Below we.heap.size we wf ∧ ((fun _ => true) 6 = true → ∃ g, (V 6) = Value.slice (some ⟨g, 0, none⟩) 1 1 ∧ Cells wf g 38 e.vals)) ∧ ((fun _ => true) 7 = true → (fun _ => true) 10 = false → PendE 38 B we A1 (R1.l ++ [e]) (V 7) wf) ∧ ((fun _ => true) 10 = true → CcStep B rb A1 we { R1 with l := (R1.l ++ [e]) } wf) := hI
        clear hk
        have HS := Lib.hid (hI.2.2 rfl)
        clear hI
        go_wp2_with fail
        go_returns
        exact ⟨rfl, by rw [← HEQ.out]; exact CxStep.before HB2.out (CxStep.next HO1.out HG1.out HS.out)⟩
  · rw [Nat.zero_add] at h1
    rw [h1] at HC
    rw [h2]
    dsimp only
    obtain ⟨g, rfl, hrg, hzz⟩ := hra.at hii
    obtain ⟨t, ht⟩ : ∃ t, R.l[ii] = t := ⟨_, rfl⟩
    rw [ht] at hrg ⊢
    have HRG := Lib.hid hrg
    have hin : ii < n := by omega
    have b0 : (0 : Int) ≤ (ii : Int) := by omega
    by_cases hv : e.ver < t.ver
    · rw [if_pos hv]
      have e1 : decide (t.ver > e.ver) = true := by simpa using hv
      clear h hba hca hra h1 h2 h3 h4 hB hk hii hrg hzz ht hn hv
      go_enter Try.func23, Try.ntmps23
      go_upto_region 1 with (fail)
      rw [← hwa]
      clear hwa
      go_wp2_with fail
      refine HC.out.mono ?_
      rintro x wp ⟨rfl, hbp⟩
      have hrp := HRA.out.later hbp
      have hcp := HCA.out.later hbp
      have HB2 := Lib.hid (HB.out.trans (hbp.mono HB.out.size))
      have HRP := Lib.hid hrp
      have HCC := Lib.hid hcp
      have c0 := hrp.cel.cell (j := 0) rfl
      have c1 := hrp.cel.cell (j := 1) rfl
      rw [HN.out] at c1
      have z0 := hcp.cell (j := 0) rfl
      have z1 := hcp.cell (j := 1) rfl
      have x1 := range_later HRG.out hbp 1 _ rfl
      clear hbp hrp hcp d0
      go_wp2_with fail
      go_region
      go_wp2_with fail
      go_returns
      exact ⟨rfl, CxStep.same HH.out (HB2.out.trans ((Below.refl _ _).drew.mono HB2.out.size))⟩
    · rw [if_neg hv]
      have e1 : decide (t.ver > e.ver) = false := by simp; omega
      obtain ⟨R1, hR1⟩ : ∃ R1 : Cc, R1 = { R with l := delE e.cell R.l } := ⟨_, rfl⟩
      have hhas : hasE e.cell R.l = true := by unfold hasE; rw [h2]; rfl
      have HFL : Hid ((R1.l ++ [e]).length ≤ 16) := Lib.hid (by rw [hR1]; have := hk.l16; have := (del_len e.cell R.l).2 hhas; simp; omega)
      have HEQ : Hid (({ R1 with l := R1.l ++ [e] } : Cc) = { R with l := delE e.cell R.l ++ [e] }) := Lib.hid (by rw [hR1])
      have HRM : Hid (∀ wi, Below wa.heap.size wa wi → Calls Try.prog 25 #[.pointer (some ⟨rb, 0, none⟩), .int .i64 (ii : Int)] wi fun x w' => x = .returned (.tuple #[]) ∧ CcStep B rb (some ⟨g, 0, none⟩) wi R1 w') := Lib.hid fun wi hb => by
        have h5 := Remove_any (hra.later hb) hii
        rw [hR1, h3]
        exact h5
      clear h hba hca hra h1 h2 h3 h4 hB hk hii hrg hzz ht hn hv hhas hR1
      go_enter Try.func23, Try.ntmps23
      go_upto_region 1 with (fail)
      rw [← hwa]
      clear hwa
      go_wp2_with fail
      refine HC.out.mono ?_
      rintro x wp ⟨rfl, hbp⟩
      have hrp := HRA.out.later hbp
      have hcp := HCA.out.later hbp
      have HB2 := Lib.hid (HB.out.trans (hbp.mono HB.out.size))
      have HRP := Lib.hid hrp
      have HCC := Lib.hid hcp
      have c0 := hrp.cel.cell (j := 0) rfl
      have c1 := hrp.cel.cell (j := 1) rfl
      rw [HN.out] at c1
      have z0 := hcp.cell (j := 0) rfl
      have z1 := hcp.cell (j := 1) rfl
      have x1 := range_later HRG.out hbp 1 _ rfl
      have HBP : Hid (Below wa.heap.size wa wp.drew) := Lib.hid hbp.drew
      clear hbp hrp hcp d0
      go_wp2_with fail
      go_region
      go_wp2_with fail
      refine (HRM.out _ HBP.out).mono ?_
      rintro x we ⟨rfl, hst0⟩
      have hst := CxStep.before (Below.refl _ wp).drew hst0
      clear hst0 c0 c1 y0 x1 HBP
      obtain ⟨A1, ac1, hr1, ho1, hg1⟩ := hst
      have HKB : Hid (∀ wi, Below we.heap.size we wi → Cells wi w.heap.size 38 e.vals) := Lib.hid fun wi hb => (cells_only HCC.out ho1 fun q => HFT.out _ q rfl).later hb
      have HR := Lib.hid hr1
      have HO1 := Lib.hid ho1
      have HG1 := Lib.hid hg1
      have HBW := Lib.hid (Nat.le_trans (Nat.le_trans HBW0.out HB2.out.size) ho1.size)
      obtain ⟨n1, hn1⟩ : ∃ X, R1.l.length = X := ⟨_, rfl⟩
      have HN1 := Lib.hid hn1
      obtain ⟨kb, hkb⟩ : ∃ X, w.heap.size = X := ⟨_, rfl⟩
      rw [hkb] at HKB ⊢
      clear hr1 ho1 hg1 hn1 z0 z1
      go_upto_region 10 with (fail)
      refine Reg.region_inv (by kernel_rfl) (fun i => ([some (.pointer (some ⟨rb, 0, none⟩)), some (.pointer (some ⟨rb, 0, none⟩)), some (.pointer (some ⟨rb, 0, none⟩)), some (.pointer (some ⟨rb, 1, none⟩)), some (.slice A1 n1 ac1), some (.agg #[.int .i64 e.cell, .int .i64 e.ver, .int .i64 e.val, .int .i64 e.frm]), none, none, some (.pointer (some ⟨rb, 0, none⟩)), some (.pointer (some ⟨rb, 1, none⟩)), none] : List (Option Value)).getD i none) (fun D V W => (D 7 = false → Below we.heap.size we W ∧ (D 6 = true → ∃ g, (V 6) = Value.slice (some ⟨g, 0, none⟩) 1 1 ∧ Cells W g 38 e.vals)) ∧ (D 7 = true → D 10 = false → PendE 38 B we A1 (R1.l ++ [e]) (V 7) W) ∧ (D 10 = true → CcStep B rb A1 we { R1 with l := (R1.l ++ [e]) } W)) (fun V => [(some 54, V 0), (some 55, V 1), (some 56, V 2), (some 57, V 3), (some 58, V 4), (some 59, V 5), (some 60, V 6), (some 61, V 7), (some 62, V 8), (some 63, V 9), (none, V 10)]) (by kernel_rfl) (by kernel_rfl) (fun V => rfl) ?_ ?_ ?_
      · intro V
        exact ⟨fun _ => ⟨(Below.refl _ _).drew, fun e => by cases e⟩, fun e => (by cases e), fun e => (by cases e)⟩
      · intro i o ho
        have hi : i < 11 := (Array.getElem?_eq_some_iff.1 ho).1
        rcases i with _ | _ | _ | _ | _ | _ | _ | _ | _ | _ | _ | i
        rotate_right
        · omega
        all_goals obtain rfl := Option.some.inj ho
        all_goals intro D V ρ wi hE hI hDi hT hF hs hd hk
        · have e0 : ρ (.tmp 0) = .pointer (some ⟨rb, 0, none⟩) := hs 0; clear hT hF hk
          exact Reg.Gives.value (v := .pointer (some ⟨rb, 0, none⟩)) (w' := wi) (by go_simp) ⟨fun x h => Option.some.inj h, hI⟩
        · have e0 : ρ (.tmp 0) = .pointer (some ⟨rb, 0, none⟩) := hs 0; clear hT hF hk
          exact Reg.Gives.value (v := .pointer (some ⟨rb, 0, none⟩)) (w' := wi) (by go_simp) ⟨fun x h => Option.some.inj h, hI⟩
        · have e55 : ρ (.tmp 55) = .pointer (some ⟨rb, 0, none⟩) := (hd 1 55).trans (hk 1 _ rfl); clear hT hF hk
          exact Reg.Gives.value (v := .pointer (some ⟨rb, 0, none⟩)) (w' := wi) (by go_simp) ⟨fun x h => Option.some.inj h, hI⟩
        · have e56 : ρ (.tmp 56) = .pointer (some ⟨rb, 0, none⟩) := (hd 2 56).trans (hk 2 _ rfl); clear hT hF hk
          exact Reg.Gives.value (v := .pointer (some ⟨rb, 1, none⟩)) (w' := wi) (by go_simp) ⟨fun x h => Option.some.inj h, hI⟩
        · have e57 : ρ (.tmp 57) = .pointer (some ⟨rb, 1, none⟩) := (hd 3 57).trans (hk 3 _ rfl); have hD7 : D 7 = false := hF 1 7; clear hT hF; have hL : Below we.heap.size we wi := (hI.1 hD7).1; have x0 := (HR.out.later hL).cel.cell (j := 1) rfl
          rw [HN1.out] at x0
          exact Reg.Gives.value (v := .slice A1 n1 ac1) (w' := wi) (by go_simp) ⟨fun x h => Option.some.inj h, hI⟩
        · have e3 : ρ (.tmp 3) = .pointer (some ⟨kb, 0, none⟩) := hs 3; have hD7 : D 7 = false := hF 2 7; clear hT hF; have hL : Below we.heap.size we wi := (hI.1 hD7).1; have hq := HKB.out wi hL; have q0 := hq.cell (j := 0) rfl; have q1 := hq.cell (j := 1) rfl; have q2 := hq.cell (j := 2) rfl; have q3 := hq.cell (j := 3) rfl
          exact Reg.Gives.value (v := .agg #[.int .i64 e.cell, .int .i64 e.ver, .int .i64 e.val, .int .i64 e.frm]) (w' := wi) (by go_simp) ⟨fun x h => Option.some.inj h, hI⟩
        · have e59 : ρ (.tmp 59) = .agg #[.int .i64 e.cell, .int .i64 e.ver, .int .i64 e.val, .int .i64 e.frm] := (hd 5 59).trans (hk 5 _ rfl); have hD7 : D 7 = false := hF 1 7; have hD10 : D 10 = false := hF 1 10; clear hT hF; have h1 := hI.1 hD7; have hal := below_alloc wi (.cells #[.int .i64 e.cell, .int .i64 e.ver, .int .i64 e.val, .int .i64 e.frm] 38)
          exact Reg.Gives.value (v := .slice (some ⟨wi.heap.size, 0, none⟩) 1 1) (w' := wi.alloc (.cells #[.int .i64 e.cell, .int .i64 e.ver, .int .i64 e.val, .int .i64 e.frm] 38)) (by go_simp) ⟨fun x h => (by cases h), by show (D 7 = false → Below we.heap.size we (wi.alloc (.cells #[.int .i64 e.cell, .int .i64 e.ver, .int .i64 e.val, .int .i64 e.frm] 38)) ∧ (true = true → ∃ g, (Value.slice (some ⟨wi.heap.size, 0, none⟩) 1 1) = Value.slice (some ⟨g, 0, none⟩) 1 1 ∧ Cells (wi.alloc (.cells #[.int .i64 e.cell, .int .i64 e.ver, .int .i64 e.val, .int .i64 e.frm] 38)) g 38 e.vals)) ∧ (D 7 = true → D 10 = false → PendE 38 B we A1 (R1.l ++ [e]) (V 7) (wi.alloc (.cells #[.int .i64 e.cell, .int .i64 e.ver, .int .i64 e.val, .int .i64 e.frm] 38))) ∧ (D 10 = true → CcStep B rb A1 we { R1 with l := (R1.l ++ [e]) } (wi.alloc (.cells #[.int .i64 e.cell, .int .i64 e.ver, .int .i64 e.val, .int .i64 e.frm] 38))); exact ⟨fun _ => ⟨h1.1.trans (hal.mono h1.1.size), fun _ => ⟨_, rfl, cells_new _ _ _ _ rfl⟩⟩, fun e => (by rw [hD7] at e; cases e), fun e => (by rw [hD10] at e; cases e)⟩⟩
        · have e58 : ρ (.tmp 58) = .slice A1 n1 ac1 := (hd 4 58).trans (hk 4 _ rfl); have e60 : ρ (.tmp 60) = V 6 := hd 6 60; have hD6 : D 6 = true := hT 1 6; have hD7 : D 7 = false := hDi; have hD10 : D 10 = false := hF 1 10; clear hT hF; have h1 := hI.1 hD7; obtain ⟨g2, hv2, hcs⟩ := h1.2 hD6
          rw [hv2] at e60
          obtain ⟨v2, w2, hrun, hpd⟩ := HR.out.grow el_ce HBW.out h1.1 hcs
          rw [HN1.out] at hrun
          exact Reg.Gives.value (v := v2) (w' := w2) (Reg.exec_append rfl e58 e60 hrun) ⟨fun x h => (by cases h), by show (true = false → Below we.heap.size we w2 ∧ (D 6 = true → ∃ g, (V 6) = Value.slice (some ⟨g, 0, none⟩) 1 1 ∧ Cells w2 g 38 e.vals)) ∧ (true = true → D 10 = false → PendE 38 B we A1 (R1.l ++ [e]) (v2) w2) ∧ (D 10 = true → CcStep B rb A1 we { R1 with l := (R1.l ++ [e]) } w2); exact ⟨fun e => (by cases e), fun _ _ => hpd, fun e => (by rw [hD10] at e; cases e)⟩⟩
        · have e54 : ρ (.tmp 54) = .pointer (some ⟨rb, 0, none⟩) := (hd 0 54).trans (hk 0 _ rfl); clear hT hF hk
          exact Reg.Gives.value (v := .pointer (some ⟨rb, 0, none⟩)) (w' := wi) (by go_simp) ⟨fun x h => Option.some.inj h, hI⟩
        · have e62 : ρ (.tmp 62) = .pointer (some ⟨rb, 0, none⟩) := (hd 8 62).trans (hk 8 _ rfl); clear hT hF hk
          exact Reg.Gives.value (v := .pointer (some ⟨rb, 1, none⟩)) (w' := wi) (by go_simp) ⟨fun x h => Option.some.inj h, hI⟩
        · have e63 : ρ (.tmp 63) = .pointer (some ⟨rb, 1, none⟩) := (hd 9 63).trans (hk 9 _ rfl); have e61 : ρ (.tmp 61) = V 7 := hd 7 61; have hD7 : D 7 = true := hT 1 7; have hD10 : D 10 = false := hDi; clear hT hF; have h2 := hI.2.1 hD7 hD10; obtain ⟨⟨u9, x1⟩, x2, hfin⟩ := h2.put HR.out HFL.out; obtain ⟨A2, c2, hv2, _⟩ := h2; obtain ⟨n3, hn3⟩ : ∃ n3, (R1.l ++ [e]).length = n3 := ⟨_, rfl⟩
          rw [hn3] at hv2
          rw [hv2] at hfin
          have e9 := e61
          rw [hv2] at e9
          clear e61
          exact Reg.Gives.skip (w' := wi.setCell ⟨rb, 1, none⟩ (.slice A2 n3 c2)) (by go_simp) ⟨fun x h => (by cases h), by show (D 7 = false → Below we.heap.size we (wi.setCell ⟨rb, 1, none⟩ (.slice A2 n3 c2)) ∧ (D 6 = true → ∃ g, (V 6) = Value.slice (some ⟨g, 0, none⟩) 1 1 ∧ Cells (wi.setCell ⟨rb, 1, none⟩ (.slice A2 n3 c2)) g 38 e.vals)) ∧ (D 7 = true → true = false → PendE 38 B we A1 (R1.l ++ [e]) (V 7) (wi.setCell ⟨rb, 1, none⟩ (.slice A2 n3 c2))) ∧ (true = true → CcStep B rb A1 we { R1 with l := (R1.l ++ [e]) } (wi.setCell ⟨rb, 1, none⟩ (.slice A2 n3 c2))); exact ⟨fun e => (by rw [hD7] at e; cases e), fun _ e => (by cases e), fun _ => hfin⟩⟩
      · intro V wf hk hI
        simp only [Reg.putsO, List.foldl_cons, List.foldl_nil, Act.put, List.setIfInBounds_toArray, List.set_cons_succ, List.set_cons_zero]
        replace hI : ((fun _ => true) 7 = false → Below we.heap.size we wf ∧ ((fun _ => true) 6 = true → ∃ g, (V 6) = Value.slice (some ⟨g, 0, none⟩) 1 1 ∧ Cells wf g 38 e.vals)) ∧ ((fun _ => true) 7 = true → (fun _ => true) 10 = false → PendE 38 B we A1 (R1.l ++ [e]) (V 7) wf) ∧ ((fun _ => true) 10 = true → CcStep B rb A1 we { R1 with l := (R1.l ++ [e]) } wf) := hI
        clear hk
        have HS := Lib.hid (hI.2.2 rfl)
        clear hI
        go_wp2_with fail
        go_returns
        exact ⟨rfl, by rw [← HEQ.out]; exact CxStep.before HB2.out (CxStep.next HO1.out HG1.out HS.out)⟩
theorem Take_nil (e : En) (w : World) : Calls Try.prog 23 #[.pointer none, e.v] w fun x w' => x = .returned (.bool false) ∧ Below w.heap.size w w' := by
  have HB := Lib.hid (below_alloc w (.cells #[.int .i64 e.cell, .int .i64 e.ver, .int .i64 e.val, .int .i64 e.frm] 38))
  unfold En.v
  go_enter Try.func23, Try.ntmps23
  go_wp2_with fail
  go_returns
  exact ⟨rfl, HB.out⟩
end Go.Proofs.Yteedlenelfidcaa.Cac
