/-
  WheelOnce is proved: each timer that is set, and neither set anew nor stopped, is told just once, at its time. Conditions: none.
-/
import Derived.Test.YtnbdgjaekjneaaaWhlMap
import Derived.Test.YtnbdgjaekjneaaaU8s
namespace Go.Proofs.Ytnbdgjaekjneaaa.WheelOnce
set_option maxRecDepth 100000
open Go.ChangeShapes Go.WideShapes Go.ChangeAt Go.RowKit Go.Deep Go.Proofs.Ytnbdgjaekjneaaa.Mem Go.Proofs.Ytnbdgjaekjneaaa.Whl

theorem WcStep.wide {B rb ac : Nat} {A : Option Addr} {w w' : World} {R R' : Wr} (h : WcStep B rb A w R' w') (hr : WcAt B w rb R A ac) (hB : B ≤ w.heap.size) : Below B w w' := WxStep.below h hr hB
theorem only_wide {B rb ac : Nat} {A : Option Addr} {w w' : World} {R : Wr} (hr : WcAt B w rb R A ac) (ho : Only (wfoot rb A) w w') (hB : B ≤ w.heap.size) : Below B w w' := ho.below hB fun k e => by
  rcases e with e | e
  · rw [e]; exact hr.low
  · exact (hr.row.lt k (by rw [own_blk]; exact e.symm)).1
theorem map_wide {B mc : Nat} {w w' : World} (ho : Only (fun k => k = mc) w w') (hm : B ≤ mc) (hB : B ≤ w.heap.size) : Below B w w' := ho.below hB fun k e => by rw [e]; exact hm
set_option maxHeartbeats 4000000 in
theorem walk (A A2 : Option Addr) (ks ss : List Int) (cap cap2 : Nat) (w : World) (h : U8s w A ks) (h2 : U8s w A2 ss) (hk : ∀ k ∈ ks, 0 ≤ k ∧ k ≤ 255) (hk2 : ∀ k ∈ ss, 0 ≤ k ∧ k ≤ 255) (hl : ks.length ≤ 140737488351232) (hl2 : ss.length ≤ 140737488351232) :
    Calls Try.prog 4 #[.slice A ks.length cap, .slice A2 ss.length cap2] w fun e w' => e = .returned (.bool true) ∧ Below w.heap.size w w' := by
  have HC := Lib.hid (awake_any w)
  obtain ⟨n, hn⟩ : ∃ n, ks.length = n := ⟨_, rfl⟩
  obtain ⟨n2, hn2⟩ : ∃ n, ss.length = n := ⟨_, rfl⟩
  have HLN := Lib.hid hn
  have HLN2 := Lib.hid hn2
  have HH := Lib.hid h
  have HH2 := Lib.hid h2
  have HK := Lib.hid hk
  have HK2 := Lib.hid hk2
  rw [hn] at hl ⊢
  rw [hn2] at hl2 ⊢
  clear h h2 hk hk2 hn hn2
  by_cases hgt : 100 < n
  · have e1 : decide ((n : Int) > 100) = true := by simp; omega
    go_enter Try.func4, Try.ntmps4
    go_wp2_with fail
    refine HC.out.mono ?_
    rintro e w1 ⟨rfl, hb1⟩
    go_wp2_with fail
    go_returns
    exact ⟨rfl, hb1⟩
  · have e1 : decide ((n : Int) > 100) = false := by simp; omega
    by_cases hgt2 : 100 < n2
    · have e2 : decide ((n2 : Int) > 100) = true := by simp; omega
      go_enter Try.func4, Try.ntmps4
      go_wp2_with fail
      refine HC.out.mono ?_
      rintro e w1 ⟨rfl, hb1⟩
      go_wp2_with fail
      go_returns
      exact ⟨rfl, hb1⟩
    · have e2 : decide ((n2 : Int) > 100) = false := by simp; omega
      go_enter Try.func4, Try.ntmps4
      go_wp2_with fail
      refine HC.out.mono ?_
      rintro e w1 ⟨rfl, hb1⟩
      have HB1 := Lib.hid hb1
      have HC := Lib.hid (New_any w1)
      clear hb1
      go_wp2_with fail
      refine HC.out.mono ?_
      rintro e w2 ⟨rfl, hw2, hb2⟩
      obtain ⟨w4, hw4⟩ : ∃ W, W = w2.alloc (.map #[] 0) := ⟨_, rfl⟩
      have hb4 : Below w2.heap.size w2 w4 := by rw [hw4]; exact below_alloc _ _
      have hdm : DM w4 w2.heap.size [] := by rw [hw4]; exact dm_made w2 0
      have HB2 := Lib.hid (hb2.trans (hb4.mono hb2.size))
      obtain ⟨rb, hrb⟩ : ∃ rb, w1.heap.size = rb := ⟨_, rfl⟩
      have HST : Hid (Sta w1.heap.size w4 rb w2.heap.size ⟨0, []⟩ [] none 0) := Lib.hid ⟨by rw [← hrb]; exact hw2.later hb4, hdm, hb2.size, fun e => by
        rcases e with e | e
        · have := hw2.cel.lt; omega
        · cases e⟩
      have hmm := @run_makeMap Try.prog
      clear hw2 hb2 hb4 hdm HC
      go_wp2_with fail
      rw [← hw4]
      clear hw4 hmm
      generalize w2.heap.size = mc at HST ⊢
      clear hrb
      go_loopw [7, 8, 9, 33] (fun _ _ _ i wr => ∃ (k : Nat) (l : List Tm) (A1 : Option Addr) (c1 : Nat), k ≤ n ∧ i = .int .i64 (k : Int) ∧ l.length ≤ k ∧ Hid (Sta w1.heap.size wr rb mc ⟨0, l⟩ l A1 c1) ∧ Hid (Fut ⟨0, l⟩ (k : Int)) ∧ Hid (Below w1.heap.size w1 wr)) (fun _ _ _ i _ => n - (intOf i).toNat)
      case atStart => exact ⟨0, [], none, 0, Nat.zero_le _, rfl, Nat.zero_le _, HST, Lib.hid ⟨List.Pairwise.nil, List.Pairwise.nil, fun t ht => (by cases ht), fun t ht => (by cases ht)⟩, HB2⟩
      case round =>
        clear HST HB2
        obtain ⟨k, l, A1, c1, hkn, rfl, hlk, HS, HF, HB⟩ := hrel
        by_cases hlt : k < n
        · have hkl : k < ks.length := by rw [HLN.out]; exact hlt
          have hb0 : Below w1.heap.size w1 wr := HB.out
          obtain ⟨b, off, rfl, x0⟩ := ((HH.out.later HB1.out).later hb0) k hkl
          obtain ⟨p, hp⟩ : ∃ p, ks[k] = p := ⟨_, rfl⟩
          rw [hp] at x0
          have hpk := HK.out p (by rw [← hp]; exact List.getElem_mem hkl)
          obtain ⟨D, hD⟩ : ∃ D : Int, 1 + p % 40 = D := ⟨_, rfl⟩
          have hD1 : 1 ≤ D := by omega
          have hD2 : D ≤ 40 := by omega
          have f1 : IntKind.i64.wrap p = p := by rw [IntKind.wrap_i64]; omega
          have f2 : Int.tmod p 40 = p % 40 := by rw [Int.tmod_eq_emod_of_nonneg hpk.1]
          have f3 : IntKind.i64.wrap (1 + p % 40) = D := by rw [hD, IntKind.wrap_i64]; omega
          have f4 : IntKind.i64.wrap (p % 40) = p % 40 := by rw [IntKind.wrap_i64]; omega
          obtain ⟨hno, hfut, hmem⟩ := HF.out.set (q := (k : Int)) (by omega) hD1 hD2
          have HNO := Lib.hid hno
          have HFU := Lib.hid hfut
          have HME := Lib.hid hmem
          obtain ⟨we, hwe⟩ : ∃ W, W = wr.alloc (.cells #[.int .i64 (k : Int), .int .i64 0, .int .i64 0, .int .i64 0, .int .i64 0, .int .i64 0] 34) := ⟨_, rfl⟩
          have hbe : Below wr.heap.size wr we := by rw [hwe]; exact below_alloc _ _
          have hce : Cells we wr.heap.size 34 [.int .i64 (k : Int), .int .i64 0, .int .i64 0, .int .i64 0, .int .i64 0, .int .i64 0] := by rw [hwe]; exact cells_new _ _ _ _ rfl
          have HSE := Lib.hid (HS.out.later hbe)
          have HBE := Lib.hid (HB.out.trans (hbe.mono HB.out.size))
          have HCE := Lib.hid hce
          have y0 := hce.cell (j := 0) rfl
          have y1 := hce.cell (j := 1) rfl
          have y2 := hce.cell (j := 2) rfl
          have y3 := hce.cell (j := 3) rfl
          have y4 := hce.cell (j := 4) rfl
          have y5 := hce.cell (j := 5) rfl
          have HS1 : Hid (Calls Try.prog 10 #[.pointer (some ⟨rb, 0, none⟩), .agg #[.int .i64 (k : Int), .int .i64 0, .int .i64 0, .int .i64 0, .int .i64 0, .int .i64 0], .int .i64 D] we fun e w' => e = .returned (.int .i64 0) ∧ WcStep w1.heap.size rb A1 we ⟨0, insT (kk (k : Int), D) l⟩ w') := Lib.hid (by
            have h1 := SetC_any HSE.out.whl (kk (k : Int)) D HBE.out.size HF.out.asc (Int.le_refl _) (by show (0 : Int) ≤ 1000000000000000; decide)
            rw [setC_ok (R := ⟨0, l⟩) HF.out.uniq (kk (k : Int)) hD1 (by omega) (by show l.length ≤ 255; omega), List.filter_eq_self.2 fun t ht => decide_eq_true (HNO.out t ht), Int.zero_add] at h1
            exact h1)
          clear hp hkl hno hfut hmem hbe hce hD hb0
          go_upto_region 11 with (fail)
          rw [← hwe]
          clear hwe
          go_wp2_with fail
          refine HS1.out.mono ?_
          rintro e wa ⟨rfl, hst⟩
          have HFT : Hid (¬ wfoot rb A1 wr.heap.size) := Lib.hid (fun e => by
            rcases e with e | e
            · have := HS.out.whl.cel.lt
              omega
            · have := (HS.out.whl.row.lt wr.heap.size (by rw [own_blk]; exact e.symm)).2
              omega)
          obtain ⟨_, _, _, hoa, _⟩ := id hst
          have hca := cells_only HCE.out hoa HFT.out
          have HBA := Lib.hid (HBE.out.trans (WcStep.wide hst HSE.out.whl HBE.out.size))
          obtain ⟨A3, c3, hs3⟩ := HSE.out.step hst
          obtain ⟨wb, hup, hdm, hob⟩ := hs3.map.store (x := (k : Int)) (d := D) (by omega) (by omega) HNO.out
          have HSB := Lib.hid (hs3.turn (hdm.congr HME.out) hob)
          have HBB := Lib.hid (HBA.out.trans (map_wide hob hs3.low HBA.out.size))
          have hup2 : (Instr.mapUpdate 56 (.map (some mc)) (.agg #[.int .i64 (k : Int), .int .i64 0, .int .i64 0, .int .i64 0, .int .i64 0, .int .i64 0]) (.int .i64 D)).run Try.prog wa = .ok () wb := hup
          clear y0 y1 y2 y3 y4 y5 hst hoa hs3 hdm hob hup HS1
          have z0 := hca.cell (j := 0) rfl
          have z1 := hca.cell (j := 1) rfl
          have z2 := hca.cell (j := 2) rfl
          have z3 := hca.cell (j := 3) rfl
          have z4 := hca.cell (j := 4) rfl
          have z5 := hca.cell (j := 5) rfl
          go_wp2_with fail
          go_roundw
          case rel => exact ⟨k + 1, insT (kk (k : Int), D) l, A3, c3, by omega, by go_num, by rw [insT_len]; omega, HSB, HFU, HBB⟩
          case measure => simp [intOf]; omega
        · obtain rfl : k = n := by omega
          clear HH HK
          go_wp2_with fail
          go_loopw [11, 12, 13, 14, 15, 57] (fun _ _ _ _ _ i wr => ∃ (q : Nat) (l : List Tm) (A1 : Option Addr) (c1 : Nat), q ≤ n2 ∧ i = .int .i64 (q : Int) ∧ l.length ≤ 100 ∧ Hid (Sta w1.heap.size wr rb mc ⟨0, l⟩ l A1 c1) ∧ Hid (Fut ⟨0, l⟩ (k : Int)) ∧ Hid (Below w1.heap.size w1 wr)) (fun _ _ _ _ _ i _ => n2 - (intOf i).toNat)
          case atStart => exact ⟨0, l, A1, c1, Nat.zero_le _, rfl, by omega, HS, HF, HB⟩
          case round =>
            clear HS HF HB hlk
            obtain ⟨q, l, A1, c1, hqn, rfl, hll, HS, HF, HB⟩ := hrel
            by_cases hlt2 : q < n2
            · have hql : q < ss.length := by rw [HLN2.out]; exact hlt2
              obtain ⟨b, off, rfl, x0⟩ := ((HH2.out.later HB1.out).later HB.out) q hql
              obtain ⟨p, hp⟩ : ∃ p, ss[q] = p := ⟨_, rfl⟩
              rw [hp] at x0
              have hpk := HK2.out p (by rw [← hp]; exact List.getElem_mem hql)
              have f1 : IntKind.i64.wrap p = p := by rw [IntKind.wrap_i64]; omega
              obtain ⟨we, hwe⟩ : ∃ W, W = wr.alloc (.cells #[.int .i64 p, .int .i64 0, .int .i64 0, .int .i64 0, .int .i64 0, .int .i64 0] 34) := ⟨_, rfl⟩
              have hbe : Below wr.heap.size wr we := by rw [hwe]; exact below_alloc _ _
              have hce : Cells we wr.heap.size 34 [.int .i64 p, .int .i64 0, .int .i64 0, .int .i64 0, .int .i64 0, .int .i64 0] := by rw [hwe]; exact cells_new _ _ _ _ rfl
              have HSE := Lib.hid (HS.out.later hbe)
              have HBE := Lib.hid (HB.out.trans (hbe.mono HB.out.size))
              have HCE := Lib.hid hce
              have y0 := hce.cell (j := 0) rfl
              have y1 := hce.cell (j := 1) rfl
              have y2 := hce.cell (j := 2) rfl
              have y3 := hce.cell (j := 3) rfl
              have y4 := hce.cell (j := 4) rfl
              have y5 := hce.cell (j := 5) rfl
              obtain ⟨wf, hwf⟩ : ∃ W, W = we.alloc (.cells #[.int .i64 p, .int .i64 0, .int .i64 0, .int .i64 0, .int .i64 0, .int .i64 0] 34) := ⟨_, rfl⟩
              have hbf : Below we.heap.size we wf := by rw [hwf]; exact below_alloc _ _
              have hcf : Cells wf we.heap.size 34 (kk p).vals := by rw [hwf]; exact cells_new _ _ _ _ rfl
              have HSF := Lib.hid (HSE.out.later hbf)
              have HBF := Lib.hid (HBE.out.trans (hbf.mono HBE.out.size))
              have HCF := Lib.hid (HCE.out.later hbf)
              have hfe : ¬ wfoot rb A1 we.heap.size := fun e => by
                rcases e with e | e
                · have := HSE.out.whl.cel.lt
                  omega
                · have := (HSE.out.whl.row.lt we.heap.size (by rw [own_blk]; exact e.symm)).2
                  omega
              have HFT : Hid (¬ wfoot rb A1 wr.heap.size) := Lib.hid (fun e => by
                rcases e with e | e
                · have := HS.out.whl.cel.lt
                  omega
                · have := (HS.out.whl.row.lt wr.heap.size (by rw [own_blk]; exact e.symm)).2
                  omega)
              obtain ⟨bt, hbt⟩ : ∃ x, decide (∃ t ∈ l, t.1 = kk p) = x := ⟨_, rfl⟩
              have HS1 : Hid (Calls Try.prog 13 #[.pointer (some ⟨rb, 0, none⟩), .slice (some ⟨we.heap.size, 0, none⟩) 1 1] wf fun e w' => e = .returned (.int .i64 (if bt then 1 else 0)) ∧ WcAt w1.heap.size w' rb ⟨0, l.filter fun t => decide (t.1 ≠ kk p)⟩ A1 c1 ∧ Only (wfoot rb A1) wf w') := Lib.hid (by
                have h1 := Stop_any HSF.out.whl (some ⟨we.heap.size, 0, none⟩) [kk p] 1 HBF.out.size (cells_sl (by simpa using hcf) fun v hv => (fit_ks [kk p]).len v hv) (fun b hb hf => hfe (by rw [show b = we.heap.size from (Option.some.inj hb).symm] at hf; exact hf)) (by simp)
                rw [stopN_one, stopR_filter (R := ⟨0, l⟩) HF.out.uniq (kk p)] at h1
                have e5 : (stopN ⟨0, l⟩ [kk p]).1 = if bt then 1 else 0 := by
                  show 0 + (if (stopR ⟨0, l⟩ (kk p)).1 then 1 else 0) = _
                  rw [stopR_was, hbt, Int.zero_add]
                rw [e5] at h1
                exact h1)
              have hlook : (Instr.lookup 56 (.map (some mc)) (.agg #[.int .i64 p, .int .i64 0, .int .i64 0, .int .i64 0, .int .i64 0, .int .i64 0]) true).run Try.prog we = .ok (.tuple #[.int .i64 0, .bool false]) we ∧ bt = false ∨ ∃ d, (Instr.lookup 56 (.map (some mc)) (.agg #[.int .i64 p, .int .i64 0, .int .i64 0, .int .i64 0, .int .i64 0, .int .i64 0]) true).run Try.prog we = .ok (.tuple #[.int .i64 d, .bool true]) we ∧ bt = true := by
                rcases HSE.out.map.look hpk.1 hpk.2 true with ⟨d, hd, e⟩ | ⟨hno, e⟩
                · exact Or.inr ⟨d, e, by rw [← hbt]; exact decide_eq_true ⟨_, hd, rfl⟩⟩
                · exact Or.inl ⟨e, by rw [← hbt]; exact decide_eq_false fun ⟨t, ht, e2⟩ => hno t ht e2⟩
              clear hp hql hbe hce hbt hbf hcf hfe
              rcases hlook with ⟨hlook, rfl⟩ | ⟨d, hlook, rfl⟩
              · go_upto_region 19 with (fail)
                rw [← hwe]
                clear hwe x0
                go_wp2_with (rw [← hwf])
                refine HS1.out.mono ?_
                rintro e wg ⟨rfl, hwg, hog⟩
                have hcg := cells_only HCF.out hog HFT.out
                have hsg := HSF.out.same hwg hog
                obtain ⟨wh, hdel, hdm, hoh⟩ := hsg.map.drop hpk.1 hpk.2 0
                have hdel2 : (Builtin.delete_ #[56, 34] 0 #[.map (some mc), .agg #[.int .i64 p, .int .i64 0, .int .i64 0, .int .i64 0, .int .i64 0, .int .i64 0]]).run Try.prog wg = .ok (.tuple #[]) wh := hdel
                have HBG := Lib.hid (HBF.out.trans (only_wide HSF.out.whl hog HBF.out.size))
                have HSH := Lib.hid (hsg.turn hdm hoh)
                have HBH := Lib.hid (HBG.out.trans (map_wide hoh hsg.low HBG.out.size))
                have HFH : Hid (Fut ⟨0, l.filter fun t => decide (t.1 ≠ kk p)⟩ (k : Int)) := Lib.hid (HF.out.sub List.filter_sublist fun t ht => (HF.out.due t (List.mem_filter.1 ht).1).1)
                have hlf : (l.filter fun t => decide (t.1 ≠ kk p)).length ≤ 100 := Nat.le_trans (List.length_filter_le _ _) hll
                clear y0 y1 y2 y3 y4 y5 hwg hog hsg hdel hdm hoh hlook HS1 hwf
                have z0 := hcg.cell (j := 0) rfl
                have z1 := hcg.cell (j := 1) rfl
                have z2 := hcg.cell (j := 2) rfl
                have z3 := hcg.cell (j := 3) rfl
                have z4 := hcg.cell (j := 4) rfl
                have z5 := hcg.cell (j := 5) rfl
                obtain ⟨lf, hlfe⟩ : ∃ X, (l.filter fun t => decide (t.1 ≠ kk p)) = X := ⟨_, rfl⟩
                rw [hlfe] at HSH HFH hlf
                clear hlfe
                go_wp2_with fail
                go_roundw
                case rel => exact ⟨q + 1, lf, A1, c1, by omega, by go_num, hlf, HSH, HFH, HBH⟩
                case measure => simp [intOf]; omega
              · go_upto_region 19 with (fail)
                rw [← hwe]
                clear hwe x0
                go_wp2_with (rw [← hwf])
                refine HS1.out.mono ?_
                rintro e wg ⟨rfl, hwg, hog⟩
                have hcg := cells_only HCF.out hog HFT.out
                have hsg := HSF.out.same hwg hog
                obtain ⟨wh, hdel, hdm, hoh⟩ := hsg.map.drop hpk.1 hpk.2 0
                have hdel2 : (Builtin.delete_ #[56, 34] 0 #[.map (some mc), .agg #[.int .i64 p, .int .i64 0, .int .i64 0, .int .i64 0, .int .i64 0, .int .i64 0]]).run Try.prog wg = .ok (.tuple #[]) wh := hdel
                have HBG := Lib.hid (HBF.out.trans (only_wide HSF.out.whl hog HBF.out.size))
                have HSH := Lib.hid (hsg.turn hdm hoh)
                have HBH := Lib.hid (HBG.out.trans (map_wide hoh hsg.low HBG.out.size))
                have HFH : Hid (Fut ⟨0, l.filter fun t => decide (t.1 ≠ kk p)⟩ (k : Int)) := Lib.hid (HF.out.sub List.filter_sublist fun t ht => (HF.out.due t (List.mem_filter.1 ht).1).1)
                have hlf : (l.filter fun t => decide (t.1 ≠ kk p)).length ≤ 100 := Nat.le_trans (List.length_filter_le _ _) hll
                clear y0 y1 y2 y3 y4 y5 hwg hog hsg hdel hdm hoh hlook HS1 hwf
                have z0 := hcg.cell (j := 0) rfl
                have z1 := hcg.cell (j := 1) rfl
                have z2 := hcg.cell (j := 2) rfl
                have z3 := hcg.cell (j := 3) rfl
                have z4 := hcg.cell (j := 4) rfl
                have z5 := hcg.cell (j := 5) rfl
                obtain ⟨lf, hlfe⟩ : ∃ X, (l.filter fun t => decide (t.1 ≠ kk p)) = X := ⟨_, rfl⟩
                rw [hlfe] at HSH HFH hlf
                clear hlfe
                go_wp2_with fail
                go_roundw
                case rel => exact ⟨q + 1, lf, A1, c1, by omega, by go_num, hlf, HSH, HFH, HBH⟩
                case measure => simp [intOf]; omega
            · obtain rfl : q = n2 := by omega
              clear HH2 HK2
              go_wp2_with fail
              go_loopw [16, 18] (fun x _ wr => ∃ (t : Nat) (l : List Tm), 1 ≤ t ∧ t ≤ 42 ∧ x = .int .i64 (t : Int) ∧ l.length ≤ 100 ∧ Hid (Sta w1.heap.size wr rb mc ⟨(t : Int) - 1, l⟩ l A1 c1) ∧ Hid (Fut ⟨(t : Int) - 1, l⟩ (k : Int)) ∧ Hid (Below w1.heap.size w1 wr)) (fun x _ _ => 42 - (intOf x).toNat)
              case atStart => exact ⟨1, l, Nat.le_refl _, by omega, rfl, hll, HS, HF, HB⟩
              case round =>
                clear HS HF HB hll
                obtain ⟨t, l, ht1, ht2, rfl, hll, HS, HF, HB⟩ := hrel
                by_cases hlt3 : t < 42
                · obtain ⟨htk, hdue, hfut⟩ := HF.out.tick (by omega)
                  rw [Int.sub_add_cancel] at htk hdue hfut
                  obtain ⟨u, hu⟩ : ∃ u, untilL l (t : Int) = u := ⟨_, rfl⟩
                  have hul : u ≤ l.length := by rw [← hu]; exact untilL_le _ _
                  rw [hu] at htk hdue hfut
                  have h1 := TickC_any HS.out.whl HB.out.size HF.out.asc (by show (0 : Int) ≤ (t : Int) - 1; omega)
                  rw [htk] at h1
                  have HT := Lib.hid h1
                  have HDUE := Lib.hid hdue
                  have HFU := Lib.hid hfut
                  have HUL := Lib.hid hul
                  clear htk hdue hfut hu h1 hul
                  go_wp2_with fail
                  refine HT.out.mono ?_
                  rintro e wt ⟨v, rfl, hown, hw, ho⟩
                  obtain ⟨V, cv, rfl⟩ := row_slice hown
                  have hkl : ((l.take u).map (·.1)).length = u := by rw [List.length_map, List.length_take]; have := HUL.out; omega
                  dsimp only at hown ⊢
                  rw [hkl] at hown ⊢
                  have HOWN := Lib.hid hown
                  have HSL := Lib.hid (OwnG.sl fit_ks hown).2
                  have HML : Hid (mc < wr.heap.size) := Lib.hid HS.out.map.lt
                  have HBT := Lib.hid (HB.out.trans (only_wide HS.out.whl ho HB.out.size))
                  have HST := Lib.hid (HS.out.same hw ho)
                  obtain ⟨wo, hwo⟩ : ∃ W, W = wr := ⟨_, rfl⟩
                  subst hwo
                  have hu100 : u ≤ 100 := by have := HUL.out; omega
                  clear hown hw ho hkl HT HS HB
                  go_wp2_with fail
                  go_loopw [18, 87] (fun _ i wq => ∃ (j : Nat), j ≤ u ∧ i = .int .i64 (j : Int) ∧ Hid (Sta w1.heap.size wq rb mc ⟨(t : Int), l.drop u⟩ (l.drop j) A1 c1) ∧ Hid (Only (fun b => b = mc) wt wq) ∧ Hid (Below w1.heap.size w1 wq)) (fun _ i _ => u - (intOf i).toNat)
                  case atStart => exact ⟨0, Nat.zero_le _, rfl, HST, Lib.hid (Only.of_below (Below.refl _ _)), HBT⟩
                  case round =>
                    clear HST
                    obtain ⟨j, hju, rfl, HS, HO, HB⟩ := hrel
                    by_cases hjl : j < u
                    · have hjl2 : j < l.length := by have := HUL.out; omega
                      obtain ⟨⟨ky, d⟩, hp⟩ : ∃ p, l[j] = p := ⟨_, rfl⟩
                      have hmem : (ky, d) ∈ l := by rw [← hp]; exact List.getElem_mem hjl2
                      have hd : d = (t : Int) := HDUE.out (ky, d) (by
                        rw [← hp]
                        exact List.mem_iff_getElem.2 ⟨j, by rw [List.length_take]; omega, by rw [List.getElem_take]⟩)
                      obtain ⟨x, hx, hx0, hx1⟩ := HF.out.kind _ hmem
                      dsimp only at hx
                      subst hx
                      have hx255 : x ≤ 255 := by omega
                      obtain ⟨g, og, rfl, hrg⟩ := HSL.out j (by rw [List.length_map, List.length_map, List.length_take]; omega)
                      rw [List.getElem_map, List.getElem_map, List.getElem_take, hp] at hrg
                      have hgm : ¬ g = mc := fun e => by
                        have h1 := (HOWN.out.lt g rfl).1
                        have := HML.out
                        omega
                      have hr2 : wr.rangeAt g (og + j * 6) [.int .i64 x, .int .i64 0, .int .i64 0, .int .i64 0, .int .i64 0, .int .i64 0] := range_only hrg HO.out hgm
                      have x0 := hr2 0 _ rfl
                      rw [Nat.add_zero] at x0
                      have x1 := hr2 1 _ rfl
                      have x2 := hr2 2 _ rfl
                      have x3 := hr2 3 _ rfl
                      have x4 := hr2 4 _ rfl
                      have x5 := hr2 5 _ rfl
                      obtain ⟨we, hwe⟩ : ∃ W, W = wr.alloc (.cells #[.int .i64 x, .int .i64 0, .int .i64 0, .int .i64 0, .int .i64 0, .int .i64 0] 34) := ⟨_, rfl⟩
                      have hbe : Below wr.heap.size wr we := by rw [hwe]; exact below_alloc _ _
                      have hce : Cells we wr.heap.size 34 [.int .i64 x, .int .i64 0, .int .i64 0, .int .i64 0, .int .i64 0, .int .i64 0] := by rw [hwe]; exact cells_new _ _ _ _ rfl
                      have HSE := Lib.hid (HS.out.later hbe)
                      have HBE := Lib.hid (HB.out.trans (hbe.mono HB.out.size))
                      have HOE : Hid (Only (fun b => b = mc) wt we) := Lib.hid (HO.out.trans (S' := fun _ => False) (Only.of_below hbe) fun _ _ e => e.elim)
                      have y0 := hce.cell (j := 0) rfl
                      have y1 := hce.cell (j := 1) rfl
                      have y2 := hce.cell (j := 2) rfl
                      have y3 := hce.cell (j := 3) rfl
                      have y4 := hce.cell (j := 4) rfl
                      have y5 := hce.cell (j := 5) rfl
                      have hlook : (Instr.lookup 56 (.map (some mc)) (.agg #[.int .i64 x, .int .i64 0, .int .i64 0, .int .i64 0, .int .i64 0, .int .i64 0]) false).run Try.prog we = .ok (.int .i64 (t : Int)) we := by
                        rcases HSE.out.map.look hx0 hx255 false with ⟨d2, hd2, e⟩ | ⟨hno, _⟩
                        · have e2 := uniq_eq HF.out.uniq (List.mem_of_mem_drop hd2) hmem rfl
                          have e3 : d2 = (t : Int) := by rw [← hd]; exact (Prod.mk.inj e2).2
                          rw [e3] at e
                          exact e
                        · refine absurd rfl (hno (kk x, d) ?_)
                          rw [List.drop_eq_getElem_cons hjl2, hp]
                          exact List.mem_cons_self
                      obtain ⟨wh, hdel, hdm, hoh⟩ := HSE.out.map.drop hx0 hx255 0
                      have hdel2 : (Builtin.delete_ #[56, 34] 0 #[.map (some mc), .agg #[.int .i64 x, .int .i64 0, .int .i64 0, .int .i64 0, .int .i64 0, .int .i64 0]]).run Try.prog we = .ok (.tuple #[]) wh := hdel
                      have hfl := uniq_filter HF.out.uniq hjl2
                      rw [hp] at hfl
                      dsimp only at hfl
                      rw [hfl] at hdm
                      have HSH := Lib.hid (HSE.out.turn hdm hoh)
                      have HBH := Lib.hid (HBE.out.trans (map_wide hoh HSE.out.low HBE.out.size))
                      have HOH := Lib.hid (HOE.out.trans hoh fun _ _ e => e)
                      clear hp hmem hd hrg hgm hr2 hbe hce hdel hdm hoh hfl
                      go_upto_region 33 with (fail)
                      rw [← hwe]
                      clear hwe x0 x1 x2 x3 x4 x5
                      go_wp2_with fail
                      go_roundw
                      case rel => exact ⟨j + 1, by omega, by go_num, HSH, HOH, HBH⟩
                      case measure => simp [intOf]; omega
                    · obtain rfl : j = u := by omega
                      have HSN : Hid (Sta w1.heap.size wr rb mc ⟨((t + 1 : Nat) : Int) - 1, l.drop j⟩ (l.drop j) A1 c1) := Lib.hid (by rw [show ((t + 1 : Nat) : Int) - 1 = (t : Int) by omega]; exact HS.out)
                      have HFN : Hid (Fut ⟨((t + 1 : Nat) : Int) - 1, l.drop j⟩ (k : Int)) := Lib.hid (by rw [show ((t + 1 : Nat) : Int) - 1 = (t : Int) by omega]; exact HFU.out)
                      have hld : (l.drop j).length ≤ 100 := by rw [List.length_drop]; omega
                      obtain ⟨ld, hlde⟩ : ∃ X, l.drop j = X := ⟨_, rfl⟩
                      rw [hlde] at HSN HFN hld
                      clear hlde
                      go_wp2_with fail
                      go_roundw
                      case rel => exact ⟨t + 1, ld, by omega, by omega, by go_num, hld, HSN, HFN, HB⟩
                      case measure => simp [intOf]; omega
                · obtain rfl : t = 42 := by omega
                  have hl0 : l = [] := by
                    match hl : l with
                    | [] => rfl
                    | a :: r =>
                      have h1 := HF.out.due a (by simp)
                      dsimp only at h1
                      omega
                  subst hl0
                  obtain ⟨cm, hcm⟩ := HS.out.map.empty
                  have hlen : (Builtin.len_ #[56] 3 #[.map (some mc)]).run Try.prog wr = .ok (.int .i64 0) wr := by
                    simp [Builtin.len_, run_underlying Try.underlying56, MapKept.run_getObj_map hcm, Result.andThen, goInt]
                  clear hcm
                  have HK3 := Lib.hid (Keys_any HS.out.whl)
                  go_wp2_with fail
                  refine HK3.out.mono ?_
                  rintro e wk ⟨v, rfl, hown, hbk⟩
                  obtain ⟨VK, ck, rfl⟩ := row_slice hown
                  have HBK := Lib.hid hbk
                  clear hown hbk
                  go_wp2_with fail
                  go_returns
                  exact ⟨rfl, HB1.out.trans ((HB.out.trans (HBK.out.mono HB.out.size)).mono HB1.out.size)⟩

theorem opened {H : Type} {enc : TypeId × Value → H} {W : World} {base : Nat} {gs : List (DataW H)} (v0 : Value) (d0 : DataW H) (p0 : List MemPlace) (v1 : Value) (d1 : DataW H) (p1 : List MemPlace)
    (o0 : Value.okWide Try.prog W .any base 55 v0) (t0 : DataW.Trod enc Try.prog W 0 (fun _ => true) true 55 v0 d0 p0)
    (o1 : Value.okWide Try.prog W .any base 55 v1) (t1 : DataW.Trod enc Try.prog W 0 (fun _ => true) true 55 v1 d1 p1)
    (hsz : (DataW.weightsEach Try.prog ([55, 55] ++ []) ([d0, d1] ++ gs)).all (· ≤ reachBytes) = true) :
    Calls Try.prog 4 #[v0, v1] W fun e W' => e = .returned (.bool true) ∧ Below W.heap.size W W' := by
  obtain ⟨A, ks, cap, rfl, h1, h2, h3, h4, h5⟩ := arg_bytes o0 t0 (Base.small_of hsz (j := 0) rfl rfl)
  obtain ⟨A2, ss, cap2, rfl, k1, k2, k3, k4, k5⟩ := arg_bytes o1 t1 (Base.small_of hsz (j := 1) rfl rfl)
  exact walk A A2 ks ss cap cap2 W h1 k1 h2 k2 h5 k5

theorem contract (H : Type) (enc : TypeId × Value → H) (W : World) (base : Nat) (args : Array Value) (ds gs : List (DataW H)) (before : List MemPlace)
    (hval : ∀ (j : Nat) t v, Try.f4.params[j]? = some t → args[j]? = some v → Value.okWide Try.prog W .any base t v)
    (hW : DataW.Whole enc Try.prog Try.f4.params.toList Rows.wheelOnceSpec.vars false W args.toList ds gs before)
    (hsz : (DataW.weightsEach Try.prog (Try.f4.params.toList ++ []) (ds ++ gs)).all (· ≤ reachBytes) = true) :
    Calls Try.prog 4 args W fun e W' => ∃ v, e = .returned v ∧ Rows.wheelOnceSpec.post enc Try.prog Try.f4 false true false false W args v W' := by
  have hW0 := hW
  obtain ⟨p, q, hA0, hV, rfl, _, _⟩ := hW
  have hA : DataW.TrodAll enc Try.prog W 0 (fun _ => true) true Try.f4.params.toList args.toList ds p := hA0
  rw [Try.params4] at hA hval hsz
  obtain ⟨v0, vs0, d0, ds0, p0, q0, hargs, rfl, rfl, h0, r0⟩ := trodAll_cons hA
  obtain ⟨v1, vs1, d1, ds1, p1, q1, rfl, rfl, rfl, h1, r1⟩ := trodAll_cons r0
  obtain ⟨rfl, rfl, rfl⟩ := trodAll_nil r1
  obtain rfl : args = #[v0, v1] := by cases args; simp_all
  refine (opened v0 d0 p0 v1 d1 p1 (hval 0 55 v0 rfl rfl) h0 (hval 1 55 v1 rfl rfl) h1 hsz).mono fun e W' ⟨he, hb⟩ => ⟨_, he, ?_⟩
  exact Base.law_post (tb := 4) Base.laidOut (by kernel_rfl) rfl Try.underlying4 rfl (fun l hl => by
    rw [Try.params4] at hl
    match l, hl with
    | [_, _], _ => rfl) (by rw [Try.params4]; rfl) hW0 hb

theorem laid_met (os : Os) : laidMet Try.prog Rows.wheelOnceRow.laid ((Base.plainWorld os).forCall (fun _ _ => 0) ⟨#[], #[.slice none 0 0, .slice none 0 0], []⟩).memory := laidMet_nil _ _
theorem reads (os : Os) {H : Type} (enc : TypeId × Value → H) : ∃ places, DataW.whole enc Try.prog ((Base.plainWorld os).forCall (fun _ _ => 0) ⟨#[], #[.slice none 0 0, .slice none 0 0], []⟩).memory Try.f4.params.toList Rows.wheelOnceSpec.vars false (#[.slice none 0 0, .slice none 0 0] : Array Value).toList 8 = some ([.nil, .nil], [], places) :=
  ⟨[], by kernel_rfl⟩

set_option maxRecDepth 100000 in
theorem lifted (os : Os) (started : os.Started) (H : Type) (enc : TypeId × Value → H) (F : Stop.Interp) :
    ReturnsInHanded {} Try.checked os 4 .any ((OpenSpec.ofChange Rows.wheelOnceSpec).preRow enc Try.prog Try.f4 Rows.wheelOnceRow.domain false Rows.wheelOnceRow.laid) (((OpenSpec.ofChange Rows.wheelOnceSpec).at F).post enc Try.prog Try.f4 false true false false) := by
  obtain ⟨places, hx⟩ := reads os enc
  refine returnsInHanded_of_row (C := Try.checked) (s := OpenSpec.ofChange Rows.wheelOnceSpec) Base.own started (by kernel_rfl) Try.func4
    (witness_row_at (enc := enc) (C := Try.checked) false (Base.plainWorld os) #[.slice none 0 0, .slice none 0 0] rfl (by kernel_rfl) (by kernel_rfl) (by kernel_rfl)
      (OpenSpec.preRow_of_cond 8 hx (by kernel_rfl) (fun k hk => by cases hk) (by kernel_rfl) (laid_met os))) ?_
  intro W base args ds gs before hval hW _ _ hsz _ _ _
  exact contract H enc W base args ds gs before hval hW hsz

theorem said : Rows.WheelOnceSaid :=
  OpenClaim.holds_of_cond 4 Try.f4 rfl rfl rfl rfl rfl rfl rfl ⟨rfl, rfl, rfl, rfl, rfl⟩ rfl rfl rfl rfl rfl (by kernel_rfl) Try.func4 (by kernel_rfl)
    (of_decide_eq_true (by kernel_rfl)) (by unfold Func.isWrapper; rw [if_neg (of_decide_eq_false (by kernel_rfl))]; exact ⟨rfl, rfl⟩)
    (fun os started H enc _ F => by rw [OpenClaim.pre_eq_preRow]; exact lifted os started H enc F)
#print axioms said
end Go.Proofs.Ytnbdgjaekjneaaa.WheelOnce
