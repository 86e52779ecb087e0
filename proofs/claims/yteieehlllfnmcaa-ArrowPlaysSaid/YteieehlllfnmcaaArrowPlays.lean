/-
  P16.1: Whatever is wanted, found and pointed, in any order, a node's arrows answer and point as the document says. Conditions: none.
-/
import Derived.Test.YteieehlllfnmcaaArrOps
namespace Go.Proofs.Yteieehlllfnmcaa.ArrowPlays
set_option maxRecDepth 100000
open Go.ChangeShapes Go.WideShapes Go.ChangeAt Go.RowKit Go.Deep Go.Proofs.Yteieehlllfnmcaa.Mem Go.Proofs.Yteieehlllfnmcaa.Spn Go.Proofs.Yteieehlllfnmcaa.Arr

/-- What NewBook answered. -/
def Res (B C : Nat) (x m : Int) (ks : List Int) (P : Option Addr) (er : Int) (w : World) : Prop :=
  (∃ l bb V vc, 1 ≤ ks.length ∧ ks.length ≤ 16 ∧ ks.map (newAr x m) = l.map some ∧ P = some ⟨bb, 0, none⟩ ∧ er = 0 ∧ Bk B w bb l V vc ∧ bb < C ∧ ∀ k, blk V = some k → k < C) ∨
  ((¬ (1 ≤ ks.length ∧ ks.length ≤ 16) ∨ none ∈ ks.map (newAr x m)) ∧ P = none ∧ er = 1)
def mkL (x m : Int) (ks : List Int) : List Ar := ks.map fun o => arA (newAr x m o)
def fineB (x m : Int) (ks : List Int) : Bool := ks.all fun o => (newAr x m o).isSome
theorem mkL_take {x m : Int} {ks : List Int} {k : Nat} (h : k < ks.length) : mkL x m (ks.take (k + 1)) = mkL x m (ks.take k) ++ [arA (newAr x m ks[k])] := map_take _ ks h
theorem fineB_take {x m : Int} {ks : List Int} {k : Nat} (h : k < ks.length) : fineB x m (ks.take (k + 1)) = (fineB x m (ks.take k) && (newAr x m ks[k]).isSome) := by
  unfold fineB
  rw [List.take_succ_eq_append_getElem h, List.all_append]
  simp
theorem res_ok {x m : Int} : ∀ {ks : List Int} {l : List Ar}, ks.map (newAr x m) = l.map some → fineB x m ks = true ∧ mkL x m ks = l ∧ (∀ a ∈ l, AOk x m a) ∧ l.length = ks.length
  | [], l, h => by
    match l, h with
    | [], _ => exact ⟨rfl, rfl, fun a ha => (by cases ha), rfl⟩
  | o :: ks, l, h => by
    match l, h with
    | a :: l, h =>
      rw [List.map_cons, List.map_cons, List.cons.injEq] at h
      obtain ⟨h1, h2, h3, h4⟩ := res_ok h.2
      refine ⟨?_, ?_, fun b hb => ?_, by simp [h4]⟩
      · unfold fineB at h1 ⊢
        rw [List.all_cons, h1, h.1]
        rfl
      · unfold mkL at h2 ⊢
        rw [List.map_cons, h2, h.1]
        rfl
      · rcases List.mem_cons.1 hb with rfl | hb
        · exact newAr_ok h.1
        · exact h3 b hb
theorem res_bad {x m : Int} {ks : List Int} (h : none ∈ ks.map (newAr x m)) : fineB x m ks = false := by
  obtain ⟨o, ho, e⟩ := List.mem_map.1 h
  unfold fineB
  rw [List.all_eq_false]
  exact ⟨o, ho, by rw [e]; simp⟩
theorem set_ok {x m : Int} {l : List Ar} {k : Nat} {a : Ar} (h : ∀ b ∈ l, AOk x m b) (ha : AOk x m a) : ∀ b ∈ l.set k a, AOk x m b := fun b hb => by
  rcases List.mem_or_eq_of_mem_set hb with h1 | rfl
  · exact h b h1
  · exact ha
theorem on_zero {a : Ar} {x m : Int} (h : AOk x m a) : (onI a == 0) = homeB a := by
  unfold onI
  cases hb : homeB a with
  | true => rfl
  | false =>
    have := h.t1
    simp only [Bool.false_eq_true, if_false, beq_eq_false_iff_ne]
    omega
theorem edge_pos {n x m : Int} (h : edgeI n x m = true) : 1 ≤ x := by
  unfold edgeI at h
  rw [Bool.and_eq_true, decide_eq_true_eq] at h
  exact h.1.2.1
def arPl35 (gr rc N ob kc : Nat) (ov xn : Int) (eb : Bool) : Nat → Value → World → Prop
  | 0, v, _ => v = .slice (some ⟨gr, 0, none⟩) N rc
  | 1, v, _ => v = .pointer (some ⟨ob, 1, none⟩)
  | 2, v, _ => v = .int .i64 (kc : Int)
  | 3, v, _ => v = .pointer (some ⟨gr, kc * 3, none⟩)
  | 4, v, _ => v = .pointer (some ⟨ob, 2, none⟩)
  | 5, v, _ => v = .int .i64 xn
  | 6, v, _ => v = .tuple #[.int .i64 ov, .bool eb]
  | 7, v, _ => v = .tuple #[.int .i64 ov, .bool eb]
  | 8, v, _ => v = .int .i64 ov
  | 9, v, _ => v = .bool eb
  | 10, v, _ => v = .int .i64 ov
  | 11, v, _ => v = .bool eb
  | _, _, _ => True
theorem arPl35_later {gr rc N ob kc : Nat} {ov xn : Int} {eb : Bool} {j : Nat} {v : Value} {w w' : World} (_hb : Below w.heap.size w w') (h : arPl35 gr rc N ob kc ov xn eb j v w) : arPl35 gr rc N ob kc ov xn eb j v w' := by
  match j, h with
  | 0, h | 1, h | 2, h | 3, h | 4, h | 5, h | 6, h | 7, h | 8, h | 9, h | 10, h | 11, h => exact h
  | _ + 12, _ => exact trivial
theorem arPl35_keep {gr rc N ob kc : Nat} {ov xn : Int} {eb : Bool} {j : Nat} {v : Value} {w w' : World}  (h : arPl35 gr rc N ob kc ov xn eb j v w) : arPl35 gr rc N ob kc ov xn eb j v w' := by
  match j, h with
  | 0, h | 1, h | 2, h | 3, h | 4, h | 5, h | 6, h | 7, h | 8, h | 9, h | 10, h | 11, h => exact h
  | _ + 12, _ => exact trivial
set_option maxHeartbeats 8000000 in
theorem walk (x m : Int) (A : Option Addr) (ks : List Int) (c : Nat) (E : Option Addr) (os : List Opr) (d : Nat) (w : World) (hk : IRow w A ks) (hkl : ks.length ≤ 140737488351232) (ho : Sl w E 3 (os.map Opr.vals)) (hol : os.length ≤ 140737488351232) :
    Calls Try.prog 3 #[.agg #[.int .i64 x, .int .i64 m], .slice A ks.length c, .slice E os.length d] w fun e w' => e = .returned (.bool true) ∧ Below w.heap.size w w' := by
  have HK := Lib.hid hk
  have HO := Lib.hid ho
  obtain ⟨N, hN⟩ : ∃ q, ks.length = q := ⟨_, rfl⟩
  obtain ⟨M, hM⟩ : ∃ q, os.length = q := ⟨_, rfl⟩
  have HN := Lib.hid hN
  have HM := Lib.hid hM
  rw [hN] at hkl
  rw [hM] at hol
  rw [hN, hM]
  obtain ⟨w0, hw0⟩ : ∃ W, W = w.alloc (.cells #[.int .i64 x, .int .i64 m] 23) := ⟨_, rfl⟩
  have hb0 : Below w.heap.size w w0 := by rw [hw0]; exact below_alloc _ _
  have hc0 : Cells w0 w.heap.size 23 [.int .i64 x, .int .i64 m] := by rw [hw0]; exact cells_new _ _ _ _ rfl
  obtain ⟨xb, hxb⟩ : ∃ q, w.heap.size = q := ⟨_, rfl⟩
  rw [hxb] at hc0
  have HA := Lib.hid (awake_any w0)
  have HB0 := Lib.hid hb0
  have HC0 := Lib.hid hc0
  clear hk ho hN hM hb0 hc0
  go_enter Try.func3, Try.ntmps3
  go_upto_region 1 with (fail)
  rw [← hw0]
  clear hw0 hxb
  go_wp2_with fail
  refine HA.out.mono ?_
  rintro e w1 ⟨rfl, hb⟩
  have HB1 := Lib.hid (HB0.out.trans (hb.mono HB0.out.size))
  have HC1 := Lib.hid (HC0.out.later hb)
  clear hb HA HB0 HC0
  by_cases h200 : 200 < M
  · have e1 : decide ((M : Int) > 200) = true := decide_eq_true (by omega)
    go_wp2_with fail
    go_returns
    exact ⟨rfl, HB1.out⟩
  by_cases h40 : 40 < N
  · have e1 : decide ((M : Int) > 200) = false := decide_eq_false (by omega)
    have e2 : decide ((N : Int) > 40) = true := decide_eq_true (by omega)
    go_wp2_with fail
    go_returns
    exact ⟨rfl, HB1.out⟩
  have e1 : decide ((M : Int) > 200) = false := decide_eq_false (by omega)
  have e2 : decide ((N : Int) > 40) = false := decide_eq_false (by omega)
  have x0 := HC1.out.cell (j := 0) rfl
  have x1 := HC1.out.cell (j := 1) rfl
  have HNB := Lib.hid (NewBook_any x m A ks c w1 (HK.out.later HB1.out) (by rw [HN.out]; omega))
  rw [HN.out] at HNB
  go_wp2_with fail
  refine HNB.out.mono ?_
  intro e w2 hres
  obtain ⟨P, er, rfl, hb2, hrs⟩ : ∃ P er, e = .returned (.tuple #[.pointer P, .int .i64 er]) ∧ Below w1.heap.size w1 w2 ∧ Res w1.heap.size w2.heap.size x m ks P er w2 := by
    rcases hres with ⟨l, bb, V, vc, q1, q2, q3, q4, q5, q6⟩ | ⟨q1, q2, q3⟩
    · exact ⟨_, _, q4, q6, Or.inl ⟨l, bb, V, vc, by rw [HN.out]; exact q1, by rw [HN.out]; exact q2, q3, rfl, rfl, q5, q5.box.lt, fun k e => (World.ownsRow.lt q5.row k (by rw [own_blk]; exact e)).2⟩⟩
    · exact ⟨none, 1, q2, q3, Or.inr ⟨by rw [HN.out]; exact q1, rfl, rfl⟩⟩
  have HRES := Lib.hid hrs
  have HB2 := Lib.hid (HB1.out.trans (hb2.mono HB1.out.size))
  have HC2 := Lib.hid (HC1.out.later hb2)
  have HBL : Hid (w.heap.size ≤ w1.heap.size ∧ w1.heap.size ≤ w2.heap.size ∧ xb < w1.heap.size) := Lib.hid ⟨HB1.out.size, hb2.size, HC1.out.lt⟩
  obtain ⟨B, hB⟩ : ∃ q, w1.heap.size = q := ⟨_, rfl⟩
  obtain ⟨C, hC⟩ : ∃ q, w2.heap.size = q := ⟨_, rfl⟩
  rw [hB, hC] at HRES HBL
  have HCZ := Lib.hid hC
  clear hres hrs hb2 HNB x0 x1 HC1 HB1 hB hC
  obtain ⟨f0, hf0⟩ : ∃ b, decide (1 ≤ N ∧ N ≤ 16) = b := ⟨_, rfl⟩
  have HF0 := Lib.hid hf0
  clear hf0
  go_upto_region 7 with (fail)
  go_cut [10] from 51 to 58 (fun v wx => v = .bool f0 ∧ wx = w2)
  case first =>
    by_cases h1 : 1 ≤ N
    · by_cases h16 : N ≤ 16
      · obtain rfl : f0 = true := by rw [← HF0.out]; exact decide_eq_true ⟨h1, h16⟩
        have e3 : decide ((N : Int) ≥ 1) = true := decide_eq_true (by omega)
        have e4 : decide ((N : Int) ≤ 16) = true := decide_eq_true (by omega)
        go_wp2_with fail
        go_meet
        exact ⟨rfl, rfl⟩
      · obtain rfl : f0 = false := by rw [← HF0.out]; exact decide_eq_false (by omega)
        have e3 : decide ((N : Int) ≥ 1) = true := decide_eq_true (by omega)
        have e4 : decide ((N : Int) ≤ 16) = false := decide_eq_false (by omega)
        go_wp2_with fail
        go_meet
        exact ⟨rfl, rfl⟩
    · obtain rfl : f0 = false := by rw [← HF0.out]; exact decide_eq_false (by omega)
      have e3 : decide ((N : Int) ≥ 1) = false := decide_eq_false (by omega)
      go_wp2_with fail
      go_meet
      exact ⟨rfl, rfl⟩
  obtain ⟨rfl, hwr⟩ := hcut
  rw [hwr]
  clear hwr
  apply_assumption
  go_wp2_with fail
  go_loopw [9, 10, 61] (fun r f ix wr => ∃ (k : Nat) (R : Option Addr) (rc : Nat), ix = .int .i64 (k : Int) ∧ r = .slice R k rc ∧ f = .bool (f0 && fineB x m (ks.take k)) ∧ k ≤ N ∧ Hid (OwnG 33 3 Ar.vals C wr (.slice R k rc) (mkL x m (ks.take k))) ∧ Hid (Below C w2 wr)) (fun _ _ ix _ => N - (intOf ix).toNat)
  case atStart => exact ⟨0, none, 0, rfl, rfl, by simp [fineB], Nat.zero_le _, Lib.hid (OwnG.nil _ _ _ _ _), Lib.hid (Below.refl _ _)⟩
  case round =>
    obtain ⟨k, R, rc, rfl, rfl, rfl, hkN, HR, HBr⟩ := hrel
    by_cases hlt : k < N
    · have hkk : k < ks.length := by rw [HN.out]; exact hlt
      have HBw : Hid (Below w.heap.size w wr) := Lib.hid (HB2.out.trans (HBr.out.mono (by have := HBL.out; omega)))
      obtain ⟨g5, off, rfl, hc⟩ := (show IRow w A ks from HK.out).later HBw.out k hkk
      obtain ⟨o, hoo⟩ : ∃ o, ks[k] = o := ⟨_, rfl⟩
      have hmt := mkL_take (x := x) (m := m) hkk
      have hft := fineB_take (x := x) (m := m) hkk
      rw [hoo] at hc hmt hft
      have hc3 : Cells wr xb 23 [.int .i64 x, .int .i64 m] := HC2.out.below HBr.out (by have := HC2.out.lt; have := HCZ.out; omega)
      have x0 := hc3.cell (j := 0) rfl
      have x1 := hc3.cell (j := 1) rfl
      have HRN : Hid (Calls Try.prog 9 #[.int .i64 x, .int .i64 m, .int .i64 o] wr fun e w' => e = .returned (.tuple #[.agg #[.int .i64 (arA (newAr x m o)).node, .int .i64 (arA (newAr x m o)).nodes, .int .i64 (arA (newAr x m o)).tgt], .bool (newAr x m o).isSome]) ∧ Below wr.heap.size wr w') := Lib.hid (by
        have := RNew_any x m o wr
        rw [arV_eq] at this
        exact this)
      obtain ⟨a, ha⟩ : ∃ a, arA (newAr x m o) = a := ⟨_, rfl⟩
      obtain ⟨s, hs⟩ : ∃ a, (newAr x m o).isSome = a := ⟨_, rfl⟩
      rw [ha] at hmt
      rw [hs] at hft
      rw [ha, hs] at HRN
      have HMT := Lib.hid hmt
      obtain ⟨fb, hfb⟩ : ∃ b, (f0 && fineB x m (ks.take k)) = b := ⟨_, rfl⟩
      have HFT : Hid ((f0 && fineB x m (ks.take (k + 1))) = (fb && s)) := Lib.hid (by rw [hft, ← hfb, Bool.and_assoc])
      rw [hfb]
      clear hmt hft hoo hkk ha hs hfb hc3
      go_wp2_with fail
      refine HRN.out.mono ?_
      rintro e w3 ⟨rfl, hb⟩
      obtain ⟨w4, hw4⟩ : ∃ W, W = w3.alloc (.cells #[.int .i64 a.node, .int .i64 a.nodes, .int .i64 a.tgt] 33) := ⟨_, rfl⟩
      have hb4 : Below w3.heap.size w3 w4 := by rw [hw4]; exact below_alloc _ _
      have hc4 : Cells w4 w3.heap.size 33 [.int .i64 a.node, .int .i64 a.nodes, .int .i64 a.tgt] := by rw [hw4]; exact cells_new _ _ _ _ rfl
      have hCr : C ≤ wr.heap.size := by have := HBr.out.size; have := HCZ.out; omega
      have hr4 := (HR.out.later hb).later hb4
      obtain ⟨R', n', rc', w5, hrun, hrow, hbl⟩ := OwnG.more el_rar fit_ar hr4 a #[.int .i64 a.node, .int .i64 a.nodes, .int .i64 a.tgt] rfl (Nat.le_trans hCr (Nat.le_trans hb.size hb4.size)) (by unfold mkL; rw [List.length_map, List.length_take]; omega)
      obtain rfl : n' = k + 1 := by have := (OwnG.sl fit_ar hrow).1; unfold mkL at this; rw [List.length_append, List.length_map, List.length_take, HN.out] at this; simp at this; omega
      rw [← HMT.out] at hrow
      have y0 := hc4.cell (j := 0) rfl
      have y1 := hc4.cell (j := 1) rfl
      have y2 := hc4.cell (j := 2) rfl
      have HB5 := Lib.hid (((HBr.out.trans (hb.mono hCr)).trans (hb4.mono (Nat.le_trans hCr hb.size))).trans hbl)
      have HROW := Lib.hid hrow
      have HRUN := Lib.hid hrun
      clear hb hb4 hc4 hr4 hrun hrow hbl HR HMT HBr HBw hCr
      go_upto_region 12 with (fail)
      rw [← hw4]
      clear hw4
      go_cut [10] from 74 to 77 (fun v wx => v = .bool (fb && s) ∧ wx = w4)
      case first =>
        cases fb
        all_goals
        · go_wp2_with fail
          go_meet
          exact ⟨rfl, rfl⟩
      obtain ⟨rfl, hwr⟩ := hcut
      rw [hwr]
      clear hwr
      apply_assumption
      go_wp2_with (at_builtin
                   refine Lib.wpList_append_run _ rfl _ _ 31 31 rfl _ _ rfl rfl _ _ HRUN.out ?_)
      go_roundw
      case rel => exact ⟨k + 1, R', rc', by go_num, rfl, by rw [HFT.out], by omega, HROW, HB5⟩
      case measure => simp [intOf]; omega
    · obtain rfl : N = k := by omega
      have htk : ks.take N = ks := List.take_of_length_le (Nat.le_of_eq HN.out)
      rw [htk] at HR ⊢
      clear htk
      rcases HRES.out with ⟨l0, bb, V, vc, q1, q2, q3, rfl, rfl, q4, q5, q6⟩ | ⟨q1, rfl, rfl⟩
      · obtain ⟨r1, r2, r3, r4⟩ := res_ok q3
        rw [HN.out] at q1 q2 r4
        obtain rfl : f0 = true := by rw [← HF0.out]; exact decide_eq_true ⟨q1, q2⟩
        rw [r1, show (true && true) = true from rfl]
        rw [r2] at HR
        obtain ⟨gv, rfl, hgv⟩ := q4.elem (k := 0) (by omega)
        clear hgv
        obtain ⟨gr, rfl, hgr⟩ := OwnG.elem fit_ar HR.out (k := 0) (by omega)
        clear hgr
        have HPM0 : Hid (PM B C wr bb vc rc gv gr l0) := Lib.hid ⟨q4.later (by rw [HCZ.out]; exact HBr.out), by rw [r4]; exact HR.out, ⟨q4.rowLow gv rfl, q6 gv rfl⟩, ⟨q4.low, q5⟩, World.ownsRow.lt HR.out gr rfl⟩
        have HOK0 := Lib.hid r3
        have HL0 := Lib.hid r4
        have HBz : Hid (Below w.heap.size w wr) := Lib.hid (HB2.out.trans (HBr.out.mono (by have := HBL.out; omega)))
        have HCx : Hid (∀ wi, Below C wr wi → Cells wi xb 23 [.int .i64 x, .int .i64 m]) := Lib.hid fun wi hb => HC2.out.below (HBr.out.trans hb) (by have := HC2.out.lt; have := HCZ.out; omega)
        have HCr : Hid (C ≤ wr.heap.size) := Lib.hid (by have := HBr.out.size; have := HCZ.out; omega)
        obtain ⟨ws, hws⟩ : ∃ W, W = wr := ⟨_, rfl⟩
        subst hws
        clear q1 q2 q3 q4 q5 q6 r1 r2 r3 r4 HR HBr HRES HB2 HC2
        go_wp2_with fail
        go_loopw [99] (fun ix wq => ∃ (j : Nat) (l : List Ar), ix = .int .i64 (j : Int) ∧ j ≤ M ∧ Hid (l.length = N) ∧ Hid (PM B C wq bb vc rc gv gr l) ∧ Hid (∀ a ∈ l, AOk x m a) ∧ Hid (Below w.heap.size w wq) ∧ Hid (Cells wq xb 23 [.int .i64 x, .int .i64 m])) (fun ix _ => M - (intOf ix).toNat)
        case atStart => exact ⟨0, l0, rfl, Nat.zero_le _, HL0, HPM0, HOK0, HBz, Lib.hid (HCx.out _ (Below.refl _ _))⟩
        case round =>
          obtain ⟨j, l, rfl, hjM, HL, HPM, HOK, HBq, HCq⟩ := hrel
          obtain ⟨wo, hwo⟩ : ∃ W, W = wr := ⟨_, rfl⟩
          subst hwo
          clear HPM0 HOK0 HL0 HBz HCx HCr
          by_cases hlt2 : j < M
          · have hjo : j < os.length := by rw [HM.out]; exact hlt2
            obtain ⟨g6, off6, rfl, hr⟩ := (HO.out.later HBq.out) j (by rw [List.length_map]; exact hjo)
            rw [List.getElem_map] at hr
            obtain ⟨op, hop⟩ : ∃ o, os[j] = o := ⟨_, rfl⟩
            obtain ⟨K, cell, xn⟩ := op
            rw [hop] at hr
            have z0 := hr 0 _ rfl
            rw [Nat.add_zero] at z0
            have z1 := hr 1 _ rfl
            have z2 := hr 2 _ rfl
            dsimp only at z0 z1 z2
            obtain ⟨w3, hw3⟩ : ∃ W, W = wo.alloc (.cells #[.int .i64 K, .int .i64 cell, .int .i64 xn] 37) := ⟨_, rfl⟩
            have hb3 : Below wo.heap.size wo w3 := by rw [hw3]; exact below_alloc _ _
            have hc3 : Cells w3 wo.heap.size 37 [.int .i64 K, .int .i64 cell, .int .i64 xn] := by rw [hw3]; exact cells_new _ _ _ _ rfl
            obtain ⟨ob, hob⟩ : ∃ q, wo.heap.size = q := ⟨_, rfl⟩
            have HOB : Hid (C ≤ ob ∧ gr < ob) := Lib.hid (by have := HPM.out.gr_; omega)
            have HWB : Hid (w.heap.size ≤ ob) := Lib.hid (by rw [← hob]; exact HBq.out.size)
            have HXB : Hid (xb < ob) := Lib.hid (by rw [← hob]; exact HCq.out.lt)
            rw [hob] at hc3
            have HC3 := Lib.hid hc3
            have HPM3 := Lib.hid (HPM.out.later hb3)
            have HB3 : Hid (Below w.heap.size w w3) := Lib.hid (HBq.out.trans (hb3.mono HBq.out.size))
            have HCX3 := Lib.hid (HCq.out.later hb3)
            obtain ⟨th, hth⟩ : ∃ b, decide (0 ≤ cell ∧ cell < (N : Int)) = b := ⟨_, rfl⟩
            have HTH := Lib.hid hth
            clear hr hop hb3 hc3 HPM HBq HCq hth hjo
            go_upto_region 22 with (fail)
            rw [← hw3]
            clear hw3 hob z0 z1 z2
            have y0 := HC3.out.cell (j := 0) rfl
            have y1 := HC3.out.cell (j := 1) rfl
            go_cut [17] from 103 to 112 (fun v wx => v = .bool th ∧ wx = w3)
            case first =>
              by_cases hc0 : 0 ≤ cell
              · have e3 : decide (cell ≥ 0) = true := decide_eq_true hc0
                by_cases hcN : cell < (N : Int)
                · obtain rfl : th = true := by rw [← HTH.out]; exact decide_eq_true ⟨hc0, hcN⟩
                  have e4 : decide (cell < (N : Int)) = true := decide_eq_true hcN
                  go_wp2_with fail
                  go_meet
                  exact ⟨rfl, rfl⟩
                · obtain rfl : th = false := by rw [← HTH.out]; exact decide_eq_false fun e => hcN e.2
                  have e4 : decide (cell < (N : Int)) = false := decide_eq_false hcN
                  go_wp2_with fail
                  go_meet
                  exact ⟨rfl, rfl⟩
              · obtain rfl : th = false := by rw [← HTH.out]; exact decide_eq_false fun e => hc0 e.1
                have e3 : decide (cell ≥ 0) = false := decide_eq_false hc0
                go_wp2_with fail
                go_meet
                exact ⟨rfl, rfl⟩
            obtain ⟨rfl, hwr⟩ := hcut
            rw [hwr]
            clear hwr
            apply_assumption
            go_upto_block 4 with fail
            go_cut [18, 19, 20, 21, 22, 23, 24, 25, 26, 27, 28, 29] from 115 to 220 (fun _ _ _ _ _ _ _ _ _ _ _ _ wx => ∃ l' : List Ar, Hid (l'.length = N) ∧ Hid (PM B C wx bb vc rc gv gr l') ∧ Hid (∀ a ∈ l', AOk x m a) ∧ Hid (Below B w3 wx))
            case first =>
              have HBw3 : Hid (B ≤ w3.heap.size) := Lib.hid (by have := HPM3.out.gr_; have := HPM3.out.gv_; omega)
              have y2 := HC3.out.cell (j := 2) rfl
              by_cases hK0 : K = 0
              · subst hK0
                cases th with
                | true =>
                  obtain ⟨hk0, hkN⟩ := of_decide_eq_true HTH.out
                  obtain ⟨kc, rfl⟩ : ∃ q : Nat, cell = (q : Int) := ⟨cell.toNat, by omega⟩
                  have hkn : kc < N := by omega
                  have hkl : kc < l.length := by rw [HL.out]; exact hkn
                  have hW := bWant_any HPM3.out.book hkl
                  have hao := HOK.out l[kc] (List.getElem_mem hkl)
                  have hz := on_zero hao
                  have HRW : Hid (∀ w4, PH B C w4 bb vc rc gv gr l (l.set kc (l[kc].put l[kc].node)) → Calls Try.prog 11 #[.pointer (some ⟨gr, kc * 3, none⟩)] w4 fun e w' => e = .returned (.int .i64 (onI l[kc])) ∧ PM B C w' bb vc rc gv gr (l.set kc (l[kc].put l[kc].node)) ∧ Below B w4 w') := Lib.hid fun w4 h4 => by
                    refine (RWant_any (nd := l[kc].node) (nn := l[kc].nodes) (tt := l[kc].tgt) (h4.cells hkl)).mono ?_
                    rintro e w' ⟨rfl, rfl⟩
                    exact ⟨rfl, h4.turn hkl (Below.refl _ _)⟩
                  have HOK2 : Hid (∀ a ∈ l.set kc (l[kc].put l[kc].node), AOk x m a) := Lib.hid (set_ok HOK.out ⟨hao.nd, hao.nn, hao.n1, hao.n1⟩)
                  obtain ⟨l2, hl2⟩ : ∃ q, l.set kc (l[kc].put l[kc].node) = q := ⟨_, rfl⟩
                  have HL2 : Hid (l2.length = N) := Lib.hid (by rw [← hl2, List.length_set]; exact HL.out)
                  obtain ⟨on, hon⟩ : ∃ q, onI l[kc] = q := ⟨_, rfl⟩
                  obtain ⟨hm, hhm⟩ : ∃ q, homeB l[kc] = q := ⟨_, rfl⟩
                  rw [hl2, hon, hhm] at hW
                  rw [hon, hhm] at hz
                  rw [hl2, hon] at HRW
                  rw [hl2] at HOK2
                  have HW := Lib.hid hW
                  clear hW hao hl2 hon hhm hkl HTH hk0 hkN y2
                  go_wp2_with fail
                  refine HW.out.mono ?_
                  rintro e w4 ⟨rfl, hbk, hon4⟩
                  obtain ⟨hph, hb4⟩ := HPM3.out.half hbk hon4
                  have hc4 := cells_only HC3.out hon4 fun e => by have := HOB.out; have := hph.gv_; have e9 : ob = gv := e; omega
                  have y4 := hc4.cell (j := 1) rfl
                  have HRW4 := Lib.hid (HRW.out w4 hph)
                  have HB4 := Lib.hid hb4
                  clear y0 y1 hbk hon4 hph hb4 hc4 HW HRW
                  go_wp2_with fail
                  refine HRW4.out.mono ?_
                  rintro e w5 ⟨rfl, hpm5, hb5⟩
                  have HPM5 := Lib.hid hpm5
                  have HB5 := Lib.hid (HB4.out.trans hb5)
                  clear hpm5 hb5 HRW4 y4
                  cases hm with
                  | true =>
                    obtain rfl : on = 0 := by simpa using hz
                    clear hz
                    go_wp2_with fail
                    go_meet
                    exact ⟨l2, HL2, HPM5, HOK2, HB5⟩
                  | false =>
                    have hz2 : ¬ on = 0 := by simpa using hz
                    have hz3 : (on != 0) = true := by simpa using hz2
                    go_wp2_with fail
                    go_meet
                    exact ⟨l2, HL2, HPM5, HOK2, HB5⟩
                | false =>
                  have HW := Lib.hid (noWant (arrow_none HPM3.out.book cell (by rw [HL.out]; exact of_decide_eq_false HTH.out)))
                  go_wp2_with fail
                  refine HW.out.mono ?_
                  rintro e w4 ⟨rfl, rfl⟩
                  go_wp2_with fail
                  go_meet
                  exact ⟨l, HL, HPM3, HOK, Lib.hid (Below.refl _ _)⟩
              by_cases hK1 : K = 1
              · subst hK1
                clear hK0
                cases th with
                | true =>
                  obtain ⟨hk0, hkN⟩ := of_decide_eq_true HTH.out
                  obtain ⟨kc, rfl⟩ : ∃ q : Nat, cell = (q : Int) := ⟨cell.toNat, by omega⟩
                  have hkn : kc < N := by omega
                  have hkl : kc < l.length := by rw [HL.out]; exact hkn
                  have hF := bFind_any HPM3.out.book hkl xn
                  have hao := HOK.out l[kc] (List.getElem_mem hkl)
                  have hz := on_zero hao
                  obtain ⟨ed, hed⟩ : ∃ q, edgeI l[kc].node xn l[kc].nodes = q := ⟨_, rfl⟩
                  have HRT : Hid (ed = true → ∀ wf, PH B C wf bb vc rc gv gr l (l.set kc (l[kc].put xn)) → ∀ wi, Below wf.heap.size wf wi → Calls Try.prog 13 #[.pointer (some ⟨gr, kc * 3, none⟩), .int .i64 xn] wi fun e w' => e = .returned (.tuple #[.int .i64 (onI l[kc]), .bool true]) ∧ (PM B C w' bb vc rc gv gr (l.set kc (l[kc].put xn)) ∧ Below B wf w')) := Lib.hid fun e0 wf hf wi hb => by
                    refine (RFind_any (nd := l[kc].node) (nn := l[kc].nodes) (tt := l[kc].tgt) ((hf.later hb).cells hkl) xn).mono ?_
                    rintro e w' (⟨_, rfl, q, rfl⟩ | ⟨e1, _⟩)
                    · exact ⟨rfl, hf.turn hkl (hb.trans ((below_drew wi q).mono hb.size))⟩
                    · rw [hed, e0] at e1
                      cases e1
                  have HRF : Hid (ed = false → ∀ wf, PM B C wf bb vc rc gv gr l → ∀ wi, Below wf.heap.size wf wi → Calls Try.prog 13 #[.pointer (some ⟨gr, kc * 3, none⟩), .int .i64 xn] wi fun e w' => e = .returned (.tuple #[.int .i64 0, .bool false]) ∧ (PM B C w' bb vc rc gv gr l ∧ Below B wf w')) := Lib.hid fun e0 wf hf wi hb => by
                    refine (RFind_any (nd := l[kc].node) (nn := l[kc].nodes) (tt := l[kc].tgt) ((hf.later hb).cells hkl) xn).mono ?_
                    rintro e w' (⟨e1, _⟩ | ⟨_, rfl, q, rfl⟩)
                    · rw [hed, e0] at e1
                      cases e1
                    · have h9 := hb.trans ((below_drew wi q).mono hb.size)
                      exact ⟨rfl, hf.later h9, h9.mono (by have := hf.gr_; have := hf.gv_; omega)⟩
                  have HOK2 : Hid (ed = true → ∀ a ∈ l.set kc (l[kc].put xn), AOk x m a) := Lib.hid fun e0 => set_ok HOK.out ⟨hao.nd, hao.nn, hao.n1, edge_pos (hed.trans e0)⟩
                  obtain ⟨l2, hl2⟩ : ∃ q, l.set kc (l[kc].put xn) = q := ⟨_, rfl⟩
                  have HL2 : Hid (l2.length = N) := Lib.hid (by rw [← hl2, List.length_set]; exact HL.out)
                  obtain ⟨on, hon⟩ : ∃ q, onI l[kc] = q := ⟨_, rfl⟩
                  obtain ⟨hm, hhm⟩ : ∃ q, homeB l[kc] = q := ⟨_, rfl⟩
                  rw [hl2, hon, hhm, hed] at hF
                  rw [hon, hhm] at hz
                  rw [hl2, hon] at HRT
                  rw [hl2] at HOK2
                  have HF := Lib.hid hF
                  have HTZ := Lib.hid hkn
                  clear hF hao hl2 hon hhm hed hkl HTH hk0 hkN
                  go_wp2_with fail
                  refine HF.out.mono ?_
                  rintro e wf (⟨hed, rfl, hbk, hon4⟩ | ⟨hed, rfl, hb4⟩)
                  · obtain ⟨hph, hb4⟩ := HPM3.out.half hbk hon4
                    have HCF : Hid (Cells wf ob 37 [.int .i64 1, .int .i64 (kc : Int), .int .i64 xn]) := Lib.hid (cells_only HC3.out hon4 fun e => by have := HOB.out; have := hph.gv_; have e9 : ob = gv := e; omega)
                    obtain ⟨PF, hPF⟩ : ∃ PF : World → Prop, PF = fun a => PM B C a bb vc rc gv gr l2 ∧ Below B wf a := ⟨_, rfl⟩
                    obtain ⟨ov, hov⟩ : ∃ q, on = q := ⟨_, rfl⟩
                    obtain ⟨eb, heb⟩ : ∃ q, true = q := ⟨_, rfl⟩
                    have HFD : Hid (∀ wi, Below wf.heap.size wf wi → Calls Try.prog 13 #[.pointer (some ⟨gr, kc * 3, none⟩), .int .i64 xn] wi fun e w' => e = .returned (.tuple #[.int .i64 ov, .bool eb]) ∧ PF w') := Lib.hid fun wi hb => by
                      rw [← hov, ← heb, hPF]
                      exact HRT.out hed wf hph wi hb
                    have HB4 := Lib.hid hb4
                    have HOK3 := Lib.hid (HOK2.out hed)
                    have HOVE := Lib.hid (And.intro hov heb)
                    clear hph hb4 hbk hon4 HRT HRF HF HOK2 y0 y1 y2 hov heb hed hkn
                    go_upto_region 35 with (fail)
                    refine Reg.region_heavy (by kernel_rfl) 6 [10, 11] (arPl35 gr rc N ob kc ov xn eb) (fun a => Below wf.heap.size wf a) (fun a => PF a) (fun V => [(some 160, V 0), (some 161, V 1), (some 162, V 2), (some 163, V 3), (some 164, V 4), (some 165, V 5), (some 166, V 6), (some 159, V 7), (some 167, V 8), (some 168, V 9), (some 25, V 10), (some 26, V 11)]) (by kernel_rfl) (by kernel_rfl) (by kernel_rfl) (fun V => rfl) ?_ ?_ ?_
                    · exact (Below.refl _ _).drew
                    · intro i o ho
                      have hi : i < 12 := (Array.getElem?_eq_some_iff.1 ho).1
                      rcases i with _ | _ | _ | _ | _ | _ | _ | _ | _ | _ | _ | _ | i
                      rotate_right
                      · omega
                      all_goals obtain rfl := Option.some.inj ho
                      all_goals intro ρ wi hE hI hs hd
                      all_goals try dsimp only at hI
                      · have e9 : ρ (.tmp 9) = .slice (some ⟨gr, 0, none⟩) N rc := hs 9; exact Reg.gw hI
                      · have e16 : ρ (.tmp 16) = .pointer (some ⟨ob, 0, none⟩) := hs 16; exact Reg.gw hI
                      · obtain ⟨_, rfl, e161⟩ := hd 1 161; have x0 := (HCF.out.later hI).cell (j := 1) rfl; exact Reg.gw hI
                      · obtain ⟨_, rfl, e160⟩ := hd 0 160; obtain ⟨_, rfl, e162⟩ := hd 2 162; have z1 : kc < N := HTZ.out
                        have z2 : (kc : Int) < (N : Int) := by omega
                        exact Reg.gw hI
                      · have e16 : ρ (.tmp 16) = .pointer (some ⟨ob, 0, none⟩) := hs 16; exact Reg.gw hI
                      · obtain ⟨_, rfl, e164⟩ := hd 4 164; have x0 := (HCF.out.later hI).cell (j := 2) rfl; exact Reg.gw hI
                      · obtain ⟨_, rfl, e163⟩ := hd 3 163; obtain ⟨_, rfl, e165⟩ := hd 5 165; have hf := hE.func
                        refine Reg.Gives.call (f := 13) (args := #[.pointer (some ⟨gr, kc * 3, none⟩), .int .i64 xn]) (w' := wi) (by go_simp) ?_
                        refine (HFD.out wi hI).mono ?_
                        rintro e' w'' ⟨rfl, hps⟩
                        exact ⟨_, rfl, ⟨rfl, hps, fun j u _ _ h => arPl35_keep h⟩⟩
                      · obtain ⟨_, rfl, e166⟩ := hd 6 166; exact Reg.gw hI
                      · obtain ⟨_, rfl, e159⟩ := hd 7 159; exact Reg.gw hI
                      · obtain ⟨_, rfl, e159⟩ := hd 7 159; exact Reg.gw hI
                      · obtain ⟨_, rfl, e167⟩ := hd 8 167; exact Reg.gw hI
                      · obtain ⟨_, rfl, e168⟩ := hd 9 168; exact Reg.gw hI
                    · intro V wg hV hI
                      have hV10 : V 10 = .int .i64 ov := hV 10 (by decide) rfl
                      have hV11 : V 11 = .bool eb := hV 11 (by decide) rfl
                      simp only [Reg.putsO, List.foldl_cons, List.foldl_nil, Act.put, List.setIfInBounds_toArray, List.set_cons_succ, List.set_cons_zero, hV10, hV11]
                      replace hI : (fun a => PF a) wg := hI
                      clear hV hV10 hV11
                      rw [hPF] at hI
                      obtain ⟨hpm, hb5⟩ := hI
                      have HPM5 := Lib.hid hpm
                      have HB5 := Lib.hid (HB4.out.trans hb5)
                      obtain ⟨hov, heb⟩ := HOVE.out
                      subst hov heb
                      clear hPF hpm hb5 HFD HB4
                      cases hm
                      all_goals
                      · go_wp2_with fail
                        go_meet
                        exact ⟨l2, HL2, HPM5, HOK3, HB5⟩
                  · have HCF : Hid (Cells wf ob 37 [.int .i64 1, .int .i64 (kc : Int), .int .i64 xn]) := Lib.hid (HC3.out.later hb4)
                    have hpm4 := HPM3.out.later hb4
                    obtain ⟨PF, hPF⟩ : ∃ PF : World → Prop, PF = fun a => PM B C a bb vc rc gv gr l ∧ Below B wf a := ⟨_, rfl⟩
                    obtain ⟨ov, hov⟩ : ∃ q : Int, 0 = q := ⟨_, rfl⟩
                    obtain ⟨eb, heb⟩ : ∃ q, false = q := ⟨_, rfl⟩
                    have HFD : Hid (∀ wi, Below wf.heap.size wf wi → Calls Try.prog 13 #[.pointer (some ⟨gr, kc * 3, none⟩), .int .i64 xn] wi fun e w' => e = .returned (.tuple #[.int .i64 ov, .bool eb]) ∧ PF w') := Lib.hid fun wi hb => by
                      rw [← hov, ← heb, hPF]
                      exact HRF.out hed wf hpm4 wi hb
                    have HB4 := Lib.hid (hb4.mono HBw3.out)
                    have HOVE := Lib.hid (And.intro hov heb)
                    clear hpm4 hb4 HRT HRF HF HOK2 y0 y1 y2 hov heb hed hkn
                    go_upto_region 35 with (fail)
                    refine Reg.region_heavy (by kernel_rfl) 6 [10, 11] (arPl35 gr rc N ob kc ov xn eb) (fun a => Below wf.heap.size wf a) (fun a => PF a) (fun V => [(some 160, V 0), (some 161, V 1), (some 162, V 2), (some 163, V 3), (some 164, V 4), (some 165, V 5), (some 166, V 6), (some 159, V 7), (some 167, V 8), (some 168, V 9), (some 25, V 10), (some 26, V 11)]) (by kernel_rfl) (by kernel_rfl) (by kernel_rfl) (fun V => rfl) ?_ ?_ ?_
                    · exact (Below.refl _ _).drew
                    · intro i o ho
                      have hi : i < 12 := (Array.getElem?_eq_some_iff.1 ho).1
                      rcases i with _ | _ | _ | _ | _ | _ | _ | _ | _ | _ | _ | _ | i
                      rotate_right
                      · omega
                      all_goals obtain rfl := Option.some.inj ho
                      all_goals intro ρ wi hE hI hs hd
                      all_goals try dsimp only at hI
                      · have e9 : ρ (.tmp 9) = .slice (some ⟨gr, 0, none⟩) N rc := hs 9; exact Reg.gw hI
                      · have e16 : ρ (.tmp 16) = .pointer (some ⟨ob, 0, none⟩) := hs 16; exact Reg.gw hI
                      · obtain ⟨_, rfl, e161⟩ := hd 1 161; have x0 := (HCF.out.later hI).cell (j := 1) rfl; exact Reg.gw hI
                      · obtain ⟨_, rfl, e160⟩ := hd 0 160; obtain ⟨_, rfl, e162⟩ := hd 2 162; have z1 : kc < N := HTZ.out
                        have z2 : (kc : Int) < (N : Int) := by omega
                        exact Reg.gw hI
                      · have e16 : ρ (.tmp 16) = .pointer (some ⟨ob, 0, none⟩) := hs 16; exact Reg.gw hI
                      · obtain ⟨_, rfl, e164⟩ := hd 4 164; have x0 := (HCF.out.later hI).cell (j := 2) rfl; exact Reg.gw hI
                      · obtain ⟨_, rfl, e163⟩ := hd 3 163; obtain ⟨_, rfl, e165⟩ := hd 5 165; have hf := hE.func
                        refine Reg.Gives.call (f := 13) (args := #[.pointer (some ⟨gr, kc * 3, none⟩), .int .i64 xn]) (w' := wi) (by go_simp) ?_
                        refine (HFD.out wi hI).mono ?_
                        rintro e' w'' ⟨rfl, hps⟩
                        exact ⟨_, rfl, ⟨rfl, hps, fun j u _ _ h => arPl35_keep h⟩⟩
                      · obtain ⟨_, rfl, e166⟩ := hd 6 166; exact Reg.gw hI
                      · obtain ⟨_, rfl, e159⟩ := hd 7 159; exact Reg.gw hI
                      · obtain ⟨_, rfl, e159⟩ := hd 7 159; exact Reg.gw hI
                      · obtain ⟨_, rfl, e167⟩ := hd 8 167; exact Reg.gw hI
                      · obtain ⟨_, rfl, e168⟩ := hd 9 168; exact Reg.gw hI
                    · intro V wg hV hI
                      have hV10 : V 10 = .int .i64 ov := hV 10 (by decide) rfl
                      have hV11 : V 11 = .bool eb := hV 11 (by decide) rfl
                      simp only [Reg.putsO, List.foldl_cons, List.foldl_nil, Act.put, List.setIfInBounds_toArray, List.set_cons_succ, List.set_cons_zero, hV10, hV11]
                      replace hI : (fun a => PF a) wg := hI
                      clear hV hV10 hV11
                      rw [hPF] at hI
                      obtain ⟨hpm, hb5⟩ := hI
                      have HPM5 := Lib.hid hpm
                      have HB5 := Lib.hid (HB4.out.trans hb5)
                      obtain ⟨hov, heb⟩ := HOVE.out
                      subst hov heb
                      clear hPF hpm hb5 HFD HB4 hz
                      go_wp2_with fail
                      go_meet
                      exact ⟨l, HL, HPM5, HOK, HB5⟩
                | false =>
                  have HF := Lib.hid (noFind xn (arrow_none HPM3.out.book cell (by rw [HL.out]; exact of_decide_eq_false HTH.out)))
                  go_wp2_with fail
                  refine HF.out.mono ?_
                  rintro e w4 ⟨rfl, hw4⟩
                  have HB4 : Hid (Below w3.heap.size w3 w4) := Lib.hid (by obtain ⟨q, rfl⟩ := hw4; exact below_drew w3 q)
                  clear hw4
                  go_wp2_with fail
                  go_meet
                  exact ⟨l, HL, Lib.hid (HPM3.out.later HB4.out), HOK, Lib.hid (HB4.out.mono HBw3.out)⟩
              by_cases hK2 : K = 2
              · subst hK2
                clear hK0 hK1
                have HXP : Hid (∀ w4, Below B w3 w4 → Cells w4 xb 23 [.int .i64 x, .int .i64 m]) := Lib.hid fun w4 hb => HCX3.out.below hb (by have := HBL.out; omega)
                have HRN : Hid (∀ wi, Calls Try.prog 9 #[.int .i64 x, .int .i64 m, .int .i64 xn] wi fun e w' => e = .returned (.tuple #[.agg #[.int .i64 (arA (newAr x m xn)).node, .int .i64 (arA (newAr x m xn)).nodes, .int .i64 (arA (newAr x m xn)).tgt], .bool (newAr x m xn).isSome]) ∧ Below wi.heap.size wi w') := Lib.hid fun wi => by
                  have := RNew_any x m xn wi
                  rw [arV_eq] at this
                  exact this
                cases th with
                | true =>
                  obtain ⟨hk0, hkN⟩ := of_decide_eq_true HTH.out
                  obtain ⟨kc, rfl⟩ : ∃ q : Nat, cell = (q : Int) := ⟨cell.toNat, by omega⟩
                  have hkn : kc < N := by omega
                  have hkl : kc < l.length := by rw [HL.out]; exact hkn
                  have hP := bPoint_any HPM3.out.book hkl xn
                  have hao := HOK.out l[kc] (List.getElem_mem hkl)
                  rw [hao.nd, hao.nn] at hP
                  have HP := Lib.hid hP
                  have HKL := Lib.hid hkl
                  clear hP hao HTH hk0 hkN
                  go_wp2_with fail
                  refine HP.out.mono ?_
                  rintro e w4 (⟨a, hna, rfl, hbk, hon4⟩ | ⟨hna, rfl, hb4⟩)
                  · obtain ⟨hph, hb4⟩ := HPM3.out.half hbk hon4
                    have hc4 := cells_only HC3.out hon4 fun e => by have := HOB.out; have := hph.gv_; have e9 : ob = gv := e; omega
                    have hx4 := HXP.out w4 hb4
                    have p0 := hx4.cell (j := 0) rfl
                    have p1 := hx4.cell (j := 1) rfl
                    have p2 := hc4.cell (j := 2) rfl
                    have HRN4 : Hid (Calls Try.prog 9 #[.int .i64 x, .int .i64 m, .int .i64 xn] w4 fun e w' => e = .returned (.tuple #[.agg #[.int .i64 a.node, .int .i64 a.nodes, .int .i64 a.tgt], .bool true]) ∧ Below w4.heap.size w4 w') := Lib.hid (by
                      have := HRN.out w4
                      rw [hna] at this
                      exact this)
                    have HOK2 : Hid (∀ b ∈ l.set kc a, AOk x m b) := Lib.hid (set_ok HOK.out (newAr_ok hna))
                    have HPH := Lib.hid hph
                    have HC4 := Lib.hid hc4
                    have HB4 := Lib.hid hb4
                    clear y0 y1 y2 hph hb4 hc4 hx4 hbk hon4 hna HP HRN HXP
                    go_wp2_with fail
                    refine HRN4.out.mono ?_
                    rintro e w5 ⟨rfl, hb5⟩
                    obtain ⟨w6, hw6⟩ : ∃ W, W = w5.alloc (.cells #[.int .i64 a.node, .int .i64 a.nodes, .int .i64 a.tgt] 33) := ⟨_, rfl⟩
                    have hb6 : Below w5.heap.size w5 w6 := by rw [hw6]; exact below_alloc _ _
                    have hc6 : Cells w6 w5.heap.size 33 [.int .i64 a.node, .int .i64 a.nodes, .int .i64 a.tgt] := by rw [hw6]; exact cells_new _ _ _ _ rfl
                    have hb46 := hb5.trans (hb6.mono hb5.size)
                    have r0 := hc6.cell (j := 0) rfl
                    have r1 := hc6.cell (j := 1) rfl
                    have r2 := hc6.cell (j := 2) rfl
                    have p3 := (HC4.out.later hb46).cell (j := 1) rfl
                    have hg6 := (HPH.out.later hb46).cells HKL.out
                    have s0 : w6.cell? ⟨gr, kc * 3, none⟩ = _ := hg6.cell (j := 0) rfl
                    have s1 : w6.cell? ⟨gr, kc * 3 + 1, none⟩ = _ := hg6.cell (j := 1) rfl
                    have s2 : w6.cell? ⟨gr, kc * 3 + 2, none⟩ = _ := hg6.cell (j := 2) rfl
                    have t0 : w6.frozen? ⟨gr, kc * 3, none⟩ = false := hg6.frozen (j := 0) (by simp [Ar.vals])
                    have t1 : w6.frozen? ⟨gr, kc * 3 + 1, none⟩ = false := hg6.frozen (j := 1) (by simp [Ar.vals])
                    have t2 : w6.frozen? ⟨gr, kc * 3 + 2, none⟩ = false := hg6.frozen (j := 2) (by simp [Ar.vals])
                    obtain ⟨hpm7, hb7⟩ := PH.place HKL.out HPH.out hb46
                    have HPM7 := Lib.hid hpm7
                    have HB7 := Lib.hid (HB4.out.trans hb7)
                    have HL2 : Hid ((l.set kc a).length = N) := Lib.hid (by rw [List.length_set]; exact HL.out)
                    clear hb5 hb6 hc6 hb46 hg6 hpm7 hb7 p0 p1 p2 HRN4
                    go_upto_region 41 with (fail)
                    rw [← hw6]
                    clear hw6
                    go_wp2_with fail
                    go_meet
                    exact ⟨l.set kc a, HL2, HPM7, HOK2, HB7⟩
                  · have hb4B := hb4.mono HBw3.out
                    have hx4 := HXP.out w4 hb4B
                    have p0 := hx4.cell (j := 0) rfl
                    have p1 := hx4.cell (j := 1) rfl
                    have p2 := (HC3.out.later hb4).cell (j := 2) rfl
                    have HRN4 : Hid (Calls Try.prog 9 #[.int .i64 x, .int .i64 m, .int .i64 xn] w4 fun e w' => e = .returned (.tuple #[.agg #[.int .i64 0, .int .i64 0, .int .i64 0], .bool false]) ∧ Below w4.heap.size w4 w') := Lib.hid (by
                      have := HRN.out w4
                      rw [hna] at this
                      exact this)
                    have HB4 := Lib.hid hb4
                    clear y0 y1 y2 hb4 hb4B hx4 hna HP HRN HXP
                    go_wp2_with fail
                    refine HRN4.out.mono ?_
                    rintro e w5 ⟨rfl, hb5⟩
                    have hb35 := HB4.out.trans (hb5.mono HB4.out.size)
                    have HB6 : Hid (∀ o : Obj, Below w3.heap.size w3 (w5.alloc o)) := Lib.hid fun o => hb35.alloc hb35.size o
                    clear hb5 hb35 p0 p1 p2 HRN4
                    go_wp2_with fail
                    go_meet
                    exact ⟨l, HL, Lib.hid (HPM3.out.later (HB6.out _)), HOK, Lib.hid ((HB6.out _).mono HBw3.out)⟩
                | false =>
                  have HP := Lib.hid (noPoint xn (arrow_none HPM3.out.book cell (by rw [HL.out]; exact of_decide_eq_false HTH.out)))
                  have hx3 := HXP.out w3 (Below.refl _ _)
                  have p0 := hx3.cell (j := 0) rfl
                  have p1 := hx3.cell (j := 1) rfl
                  obtain ⟨a, ha⟩ : ∃ a, arA (newAr x m xn) = a := ⟨_, rfl⟩
                  obtain ⟨s, hs⟩ : ∃ a, (newAr x m xn).isSome = a := ⟨_, rfl⟩
                  rw [ha, hs] at HRN
                  clear hx3 ha hs
                  go_wp2_with fail
                  refine HP.out.mono ?_
                  rintro e w4 ⟨rfl, rfl⟩
                  go_wp2_with fail
                  refine (HRN.out w4).mono ?_
                  rintro e w5 ⟨rfl, hb5⟩
                  have HB6 : Hid (∀ o : Obj, Below w4.heap.size w4 (w5.alloc o)) := Lib.hid fun o => hb5.alloc hb5.size o
                  clear hb5
                  go_wp2_with fail
                  go_meet
                  exact ⟨l, HL, Lib.hid (HPM3.out.later (HB6.out _)), HOK, Lib.hid ((HB6.out _).mono HBw3.out)⟩
              have k0 : (K == 0) = false := by simpa using hK0
              have k1 : (K == 1) = false := by simpa using hK1
              have k2 : (K == 2) = false := by simpa using hK2
              go_wp2_with fail
              go_meet
              exact ⟨l, HL, HPM3, HOK, Lib.hid (Below.refl _ _)⟩
            obtain ⟨l5, HL5, HPM5, HOK5, HBB5⟩ := hcut
            have HB5 : Hid (Below w.heap.size w wc) := Lib.hid (HB3.out.trans (HBB5.out.mono (by have := HBL.out; omega)))
            have HC5 : Hid (Cells wc xb 23 [.int .i64 x, .int .i64 m]) := Lib.hid (HCX3.out.below HBB5.out (by have := HBL.out; omega))
            obtain ⟨wp, hwp⟩ : ∃ W, W = wc := ⟨_, rfl⟩
            subst hwp
            clear y0 y1 HPM3 HOK HB3 HCX3 HC3 HL HBB5
            go_wp2_with fail
            go_loopw [30] (fun cx wq => ∃ ci : Int, cx = .int .i64 ci ∧ -1 ≤ ci ∧ ci ≤ (N : Int) + 1 ∧ wq = wp) (fun cx _ => ((N : Int) + 1 - intOf cx).toNat)
            case atStart => exact ⟨-1, rfl, by omega, by omega, rfl⟩
            case round =>
              obtain ⟨ci, rfl, hc1, hc2, hw⟩ := hrel
              subst hw
              by_cases hcn : ci ≤ (N : Int)
              · have e3 : decide (ci ≤ (N : Int)) = true := decide_eq_true hcn
                by_cases hin : 0 ≤ ci ∧ ci < (N : Int)
                · obtain ⟨q, rfl⟩ : ∃ q : Nat, ci = (q : Int) := ⟨ci.toNat, by omega⟩
                  have hq : q < l5.length := by rw [HL5.out]; omega
                  have hT := bTo_any HPM5.out.book hq
                  have hcc : wr.cell? ⟨gr, q * 3 + 2, none⟩ = _ := (HPM5.out.cells hq).cell (j := 2) rfl
                  obtain ⟨t, ht⟩ : ∃ t, l5[q].tgt = t := ⟨_, rfl⟩
                  rw [ht] at hT hcc
                  have HT := Lib.hid hT
                  have hqN : q < N := by omega
                  have e4 : decide ((q : Int) ≥ 0) = true := decide_eq_true (by omega)
                  have e5 : decide ((q : Int) < (N : Int)) = true := decide_eq_true (by omega)
                  clear hT hq ht hin
                  go_wp2_with fail
                  refine HT.out.mono ?_
                  rintro e w7 ⟨rfl, rfl⟩
                  go_wp2_with fail
                  go_roundw
                  case rel => exact ⟨(q : Int) + 1, rfl, by omega, by omega, by trivial⟩
                  case measure => simp [intOf]; omega
                · have HT := Lib.hid (noTo (arrow_none HPM5.out.book ci (by rw [HL5.out]; exact hin)))
                  by_cases hc0 : 0 ≤ ci
                  · have e4 : decide (ci ≥ 0) = true := decide_eq_true hc0
                    have e5 : decide (ci < (N : Int)) = false := decide_eq_false (by omega)
                    go_wp2_with fail
                    refine HT.out.mono ?_
                    rintro e w7 ⟨rfl, rfl⟩
                    go_wp2_with fail
                    go_roundw
                    case rel => exact ⟨ci + 1, rfl, by omega, by omega, by trivial⟩
                    case measure => simp [intOf]; omega
                  · have e4 : decide (ci ≥ 0) = false := decide_eq_false hc0
                    go_wp2_with fail
                    refine HT.out.mono ?_
                    rintro e w7 ⟨rfl, rfl⟩
                    go_wp2_with fail
                    go_roundw
                    case rel => exact ⟨ci + 1, rfl, by omega, by omega, by trivial⟩
                    case measure => simp [intOf]; omega
              · have e3 : decide (ci ≤ (N : Int)) = false := decide_eq_false hcn
                go_wp2_with fail
                go_roundw
                case rel => exact ⟨j + 1, l5, by go_num, by omega, HL5, HPM5, HOK5, HB5, HC5⟩
                case measure => simp [intOf]; omega
          · obtain rfl : M = j := by omega
            go_wp2_with fail
            go_returns
            exact ⟨rfl, HBq.out⟩
      · have hfin : (f0 && fineB x m ks) = false := by
          rcases q1 with q1 | q1
          · rw [HN.out] at q1
            rw [← HF0.out, decide_eq_false q1]
            rfl
          · rw [res_bad q1, Bool.and_false]
        rw [hfin]
        have HBz : Hid (Below w.heap.size w wr) := Lib.hid (HB2.out.trans (HBr.out.mono (by have := HBL.out; omega)))
        clear hfin q1
        go_wp2_with fail
        go_returns
        exact ⟨rfl, HBz.out⟩
theorem opened {H : Type} {enc : TypeId × Value → H} {W : World} {base : Nat} {gs : List (DataW H)} (v0 : Value) (d0 : DataW H) (p0 : List MemPlace) (v1 : Value) (d1 : DataW H) (p1 : List MemPlace) (v2 : Value) (d2 : DataW H) (p2 : List MemPlace)
    (o0 : Value.okWide Try.prog W .any base 23 v0) (t0 : DataW.Trod enc Try.prog W 0 (fun _ => true) true 23 v0 d0 p0)
    (o1 : Value.okWide Try.prog W .any base 24 v1) (t1 : DataW.Trod enc Try.prog W 0 (fun _ => true) true 24 v1 d1 p1)
    (o2 : Value.okWide Try.prog W .any base 25 v2) (t2 : DataW.Trod enc Try.prog W 0 (fun _ => true) true 25 v2 d2 p2)
    (hsz : (DataW.weightsEach Try.prog ([23, 24, 25] ++ []) ([d0, d1, d2] ++ gs)).all (· ≤ reachBytes) = true) :
    Calls Try.prog 3 #[v0, v1, v2] W fun e W' => e = .returned (.bool true) ∧ Below W.heap.size W W' := by
  obtain ⟨fs, hst, hs, hone⟩ := onePl
  obtain ⟨cs, rfl, hf⟩ := fields_arg o0 t0 (Base.small_of hsz (j := 0) rfl rfl) hst hone (by rw [hs]; exact cellsPl)
  obtain ⟨x, y, rfl⟩ := fields_place hst hf
  obtain ⟨A, ks, cap, rfl, h1, h2⟩ := Arr.arg_ints o1 t1 (Base.small_of hsz (j := 1) rfl rfl)
  obtain ⟨a0, len, c0, rfl⟩ := okWide_slice Try.underlying25 o2
  obtain ⟨E, os, cap', e, h3, h4⟩ := came_ops (came_of t2 (Base.small_of hsz (j := 2) rfl rfl) (by simp [Value.cells]))
  rw [e]
  exact walk x y A ks cap E os cap' W h1 h2 h3 h4

theorem contract (H : Type) (enc : TypeId × Value → H) (W : World) (base : Nat) (args : Array Value) (ds gs : List (DataW H)) (before : List MemPlace)
    (hval : ∀ (j : Nat) t v, Try.f3.params[j]? = some t → args[j]? = some v → Value.okWide Try.prog W .any base t v)
    (hW : DataW.Whole enc Try.prog Try.f3.params.toList Rows.arrowPlaysSpec.vars false W args.toList ds gs before)
    (hsz : (DataW.weightsEach Try.prog (Try.f3.params.toList ++ []) (ds ++ gs)).all (· ≤ reachBytes) = true) :
    Calls Try.prog 3 args W fun e W' => ∃ v, e = .returned v ∧ Rows.arrowPlaysSpec.post enc Try.prog Try.f3 false true false false W args v W' := by
  have hW0 := hW
  obtain ⟨p, q, hA0, hV, rfl, _, _⟩ := hW
  have hA : DataW.TrodAll enc Try.prog W 0 (fun _ => true) true Try.f3.params.toList args.toList ds p := hA0
  rw [Try.params3] at hA hval hsz
  obtain ⟨v0, vs0, d0, ds0, p0, q0, hargs, rfl, rfl, h0, r0⟩ := trodAll_cons hA
  obtain ⟨v1, vs1, d1, ds1, p1, q1, rfl, rfl, rfl, h1, r1⟩ := trodAll_cons r0
  obtain ⟨v2, vs2, d2, ds2, p2, q2, rfl, rfl, rfl, h2, r2⟩ := trodAll_cons r1
  obtain ⟨rfl, rfl, rfl⟩ := trodAll_nil r2
  obtain rfl : args = #[v0, v1, v2] := by cases args; simp_all
  refine (opened v0 d0 p0 v1 d1 p1 v2 d2 p2 (hval 0 23 v0 rfl rfl) h0 (hval 1 24 v1 rfl rfl) h1 (hval 2 25 v2 rfl rfl) h2 hsz).mono fun e W' ⟨he, hb⟩ => ⟨_, he, ?_⟩
  exact Base.law_post (tb := 4) Base.laidOut (by kernel_rfl) rfl Try.underlying4 rfl (fun l hl => by
    rw [Try.params3] at hl
    match l, hl with
    | [_, _, _], _ => rfl) (by rw [Try.params3]; rfl) hW0 hb

theorem laid_met (os : Os) : laidMet Try.prog Rows.arrowPlaysRow.laid ((Base.plainWorld os).forCall (fun _ _ => 0) ⟨#[], #[.agg #[.int .i64 0, .int .i64 0], .slice none 0 0, .slice none 0 0], []⟩).memory := laidMet_nil _ _
theorem reads (os : Os) {H : Type} (enc : TypeId × Value → H) : ∃ places, DataW.whole enc Try.prog ((Base.plainWorld os).forCall (fun _ _ => 0) ⟨#[], #[.agg #[.int .i64 0, .int .i64 0], .slice none 0 0, .slice none 0 0], []⟩).memory Try.f3.params.toList Rows.arrowPlaysSpec.vars false (#[.agg #[.int .i64 0, .int .i64 0], .slice none 0 0, .slice none 0 0] : Array Value).toList 8 = some ([.agg [.lit (.int .i64 0), .lit (.int .i64 0)], .nil, .nil], [], places) :=
  ⟨[], by kernel_rfl⟩

set_option maxRecDepth 100000 in
theorem lifted (os : Os) (started : os.Started) (H : Type) (enc : TypeId × Value → H) (F : Stop.Interp) :
    ReturnsInHanded {} Try.checked os 3 .any ((OpenSpec.ofChange Rows.arrowPlaysSpec).preRow enc Try.prog Try.f3 Rows.arrowPlaysRow.domain false Rows.arrowPlaysRow.laid) (((OpenSpec.ofChange Rows.arrowPlaysSpec).at F).post enc Try.prog Try.f3 false true false false) := by
  obtain ⟨places, hx⟩ := reads os enc
  refine returnsInHanded_of_row (C := Try.checked) (s := OpenSpec.ofChange Rows.arrowPlaysSpec) Base.own started (by kernel_rfl) Try.func3
    (witness_row_at (enc := enc) (C := Try.checked) false (Base.plainWorld os) #[.agg #[.int .i64 0, .int .i64 0], .slice none 0 0, .slice none 0 0] rfl (by kernel_rfl) (by kernel_rfl) (by kernel_rfl)
      (OpenSpec.preRow_of_cond 8 hx (by kernel_rfl) (fun k hk => by cases hk) (by kernel_rfl) (laid_met os))) ?_
  intro W base args ds gs before hval hW _ _ hsz _ _ _
  exact contract H enc W base args ds gs before hval hW hsz

theorem said : Rows.ArrowPlaysSaid :=
  OpenClaim.holds_of_cond 3 Try.f3 rfl rfl rfl rfl rfl rfl rfl ⟨rfl, rfl, rfl, rfl, rfl⟩ rfl rfl rfl rfl rfl (by kernel_rfl) Try.func3 (by kernel_rfl)
    (of_decide_eq_true (by kernel_rfl)) (by unfold Func.isWrapper; rw [if_neg (of_decide_eq_false (by kernel_rfl))]; exact ⟨rfl, rfl⟩)
    (fun os started H enc _ F => by rw [OpenClaim.pre_eq_preRow]; exact lifted os started H enc F)
#print axioms said
end Go.Proofs.Yteieehlllfnmcaa.ArrowPlays
