/-
  Layer 7: the document reads a record: one kind. Conditions: none.
-/
import Derived.Test.YtdmekfeggdodnaaRecRd5
namespace Go.Proofs.Ytdmekfeggdodnaa.Rec
set_option maxRecDepth 100000
open Go.RowKit Go.Proofs.Ytdmekfeggdodnaa.Mem Go.Proofs.Ytdmekfeggdodnaa.Item Go.Proofs.Ytdmekfeggdodnaa.Wire

set_option maxHeartbeats 4000000 in
theorem refRead7 (s : ByteArray) (w : World) (hs : s.size ≤ 1000000) (hkn : ((Wire.num s 1 : Nat) : Int) = 7) :
    Calls Try.prog 17 #[.string s] w fun e w' => (∃ y, e = .returned (.tuple #[(decR s).val y, .bool (dec s).isSome]) ∧ Has w' (decR s) y) ∧ Below w.heap.size w w' := by
  have HSIM0 : Hid (Sim s (rcK 7) (inA 0 s 0 false) (inB 0 s 0 false) (rcK 7, rest s 1, brk s false 1)) := Lib.hid (by have := sim_start s; rw [hkn] at this; exact this)
  have HD0 : Hid (dec0 s = foldF (fl 7) (rcK 7, rest s 1, brk s false 1)) := Lib.hid (by unfold dec0; rw [hkn])
  have HKV : Hid (inV 0 s 0 false = 7) := Lib.hid ((sim_kind s).1.trans hkn)
  have HSZ := Lib.hid hs
  clear hkn hs
  have HFIN0 : Hid ((dec s = none → decR s = rc0 ∧ (dec s).isSome = false) ∧ ∀ x, dec s = some x → decR s = x ∧ (dec s).isSome = true) := Lib.hid (by
    unfold decR
    exact ⟨fun h => by rw [h]; exact ⟨rfl, rfl⟩, fun x h => by rw [h]; exact ⟨rfl, rfl⟩⟩)
  obtain ⟨R, hR⟩ : ∃ R, decR s = R := ⟨_, rfl⟩
  obtain ⟨D, hD⟩ : ∃ D, (dec s).isSome = D := ⟨_, rfl⟩
  rw [hR, hD] at HFIN0
  rw [hR, hD]
  clear hR hD
  obtain ⟨w3, hw3⟩ : ∃ w3, w3 = ((w.alloc (.cells #[.int .i64 0, .int .i64 0, .int .i64 0, .int .i64 0, .slice none 0 0, .slice none 0 0, .int .i64 0, .int .i64 0, .int .i64 0, .int .i64 0, .int .i64 0, .int .i64 0, .int .i64 0, .int .i64 0, .bool false] 39)).alloc (.cells #[.string s, .int .i64 0, .bool false] 111)).alloc (.cells #[.int .i64 0, .int .i64 0, .int .i64 0, .int .i64 0, .slice none 0 0, .slice none 0 0, .int .i64 0, .int .i64 0, .int .i64 0, .int .i64 0, .int .i64 0, .int .i64 0, .int .i64 0, .int .i64 0, .bool false] 39) := ⟨_, rfl⟩
  have HST : Hid (rfSt w w3 rc0 s 0 false lay0) := Lib.hid (by
    rw [hw3]
    have q1 := cells_new w 39 zeroC #[.int .i64 0, .int .i64 0, .int .i64 0, .int .i64 0, .slice none 0 0, .slice none 0 0, .int .i64 0, .int .i64 0, .int .i64 0, .int .i64 0, .int .i64 0, .int .i64 0, .int .i64 0, .int .i64 0, .bool false] rfl
    have q2 := cells_new (w.alloc (.cells #[.int .i64 0, .int .i64 0, .int .i64 0, .int .i64 0, .slice none 0 0, .slice none 0 0, .int .i64 0, .int .i64 0, .int .i64 0, .int .i64 0, .int .i64 0, .int .i64 0, .int .i64 0, .int .i64 0, .bool false] 39)) 111 _ #[.string s, .int .i64 0, .bool false] rfl
    have q3 := cells_new ((w.alloc (.cells #[.int .i64 0, .int .i64 0, .int .i64 0, .int .i64 0, .slice none 0 0, .slice none 0 0, .int .i64 0, .int .i64 0, .int .i64 0, .int .i64 0, .int .i64 0, .int .i64 0, .int .i64 0, .int .i64 0, .bool false] 39)).alloc (.cells #[.string s, .int .i64 0, .bool false] 111)) 39 (rc0.vals lay0) #[.int .i64 0, .int .i64 0, .int .i64 0, .int .i64 0, .slice none 0 0, .slice none 0 0, .int .i64 0, .int .i64 0, .int .i64 0, .int .i64 0, .int .i64 0, .int .i64 0, .int .i64 0, .int .i64 0, .bool false] rfl
    rw [World.size_alloc] at q2
    rw [World.size_alloc, World.size_alloc] at q3
    exact ⟨q2.later (below_alloc _ _), Go.Joins.below_alloc3 _ _ _ _, by simp, q3, (q1.later (below_alloc _ _)).later (below_alloc _ _), World.ownsRow_nil _ _ _ _, World.ownsRow_nil _ _ _ _, fun i hi => by cases hi⟩)
  go_enter Try.func17, Try.ntmps17
  go_wp2_with fail
  rw [← hw3]
  clear hw3
  refine (in_any 0 s 0 false (w.heap.size + 1) w3 (by decide) HST.out.inn (Nat.zero_le _) HSZ.out).mono ?_
  rintro e wa ⟨rfl, hia, hoa⟩
  have h1 := HST.out.step hia hoa
  have HS1 := Lib.hid h1
  rw [HKV.out]
  obtain ⟨pa, ha1⟩ : ∃ pa, inA 0 s 0 false = pa := ⟨_, rfl⟩
  obtain ⟨pb, hb1⟩ : ∃ pb, inB 0 s 0 false = pb := ⟨_, rfl⟩
  rw [ha1, hb1] at HS1 HSIM0
  have c0 := h1.rcd.cell (j := 0) rfl
  have f0 := h1.rcd.frozen (j := 0) (by simp [Rc.vals])
  obtain ⟨wb, hwb⟩ : ∃ wb, wb = wa.setCell ⟨w.heap.size + 1 + 1, 0, none⟩ (.int .i64 7) := ⟨_, rfl⟩
  have HS2 : Hid (rfSt w wb (rcK 7) s pa pb lay0) := Lib.hid (by
    rw [hwb]
    exact HS1.out.put (x' := rcK 7) (Only.of_set wa ⟨w.heap.size + 1 + 1, 0, none⟩ _) (HS1.out.rcd.set_ 0 (.int .i64 7)) rfl rfl)
  clear h1 hia hoa ha1 hb1
  go_wp2_with fail
  rw [← hwb]
  clear hwb c0 f0
  refine (refFields_all 7 wb).mono ?_
  rintro e wc ⟨FA, fc, rfl, hnu, hnew, hbc⟩
  have HS3 := Lib.hid (HS2.out.later hbc)
  have HNU := Lib.hid hnu
  have HFR : Hid (∀ b off, FA = some ⟨b, off, none⟩ → w.heap.size + 3 ≤ b) := Lib.hid (fun b off e => Nat.le_trans HS2.out.low (hnew b off e))
  clear hnu hnew hbc
  have HSIM1 := Lib.hid HSIM0.out.tid
  unfold tidD a3 c3 at HSIM1
  have HLE := Lib.hid HSIM0.out.pos.le
  rw [rl_nil 7 (by decide)] at HNU ⊢
  simp only [List.length_nil]
  go_wp2_with fail
  go_loopw [7, 8] (fun i _ wr => i = .int .i64 0 ∧ wc = wr) (fun _ _ _ => 0)
  case atStart => exact ⟨rfl, rfl⟩
  case round =>
    obtain ⟨rfl, rfl⟩ := hrel
    have c0 := HS3.out.rcd.cell (j := 0) rfl
    go_wp2_with fail
    refine (refNamed_any 7 wc).mono ?_
    rintro e w' ⟨rfl, rfl⟩
    rw [show named 7 = true from rfl]
    clear c0
    go_wp2_with fail
    refine (in_any 3 s pa pb (w.heap.size + 1) wc (by decide) HS3.out.inn HLE.out HSZ.out).mono ?_
    rintro e wt1 ⟨rfl, hi, ho⟩
    have HLE1 := Lib.hid (inA_le 3 s pa pb HLE.out)
    have HT1 := Lib.hid (HS3.out.step hi ho)
    obtain ⟨t1, hv⟩ : ∃ v, inV 3 s pa pb = v := ⟨_, rfl⟩
    obtain ⟨pa1, hA⟩ : ∃ v, inA 3 s pa pb = v := ⟨_, rfl⟩
    obtain ⟨pb1, hB⟩ : ∃ v, inB 3 s pa pb = v := ⟨_, rfl⟩
    rw [hv, hA, hB] at HSIM1
    rw [hA, hB] at HT1
    rw [hA] at HLE1
    rw [hv]
    clear hi ho hv hA hB
    have f0 := HT1.out.rcd.frozen (j := 1) (by simp [Rc.vals])
    have g0 := HT1.out.rcd.cell (j := 1) rfl
    obtain ⟨wt2, hW2⟩ : ∃ v, v = wt1.setCell ⟨w.heap.size + 1 + 1, 1, none⟩ (.int .i64 t1) := ⟨_, rfl⟩
    have HT2 : Hid (rfSt w wt2 (⟨7, ⟨t1, 0, 0⟩, [], [], 0, 0, 0, 0, 0, 0, 0, 0, false⟩ : Rc) s pa1 pb1 lay0) := Lib.hid (by
      rw [hW2]
      exact HT1.out.put (x' := (⟨7, ⟨t1, 0, 0⟩, [], [], 0, 0, 0, 0, 0, 0, 0, 0, false⟩ : Rc)) (Only.of_set wt1 ⟨w.heap.size + 1 + 1, 1, none⟩ _) (HT1.out.rcd.set_ 1 (.int .i64 t1)) rfl rfl)
    go_wp2_with fail
    rw [← hW2]
    clear hW2 f0 g0
    refine (in_any 3 s pa1 pb1 (w.heap.size + 1) wt2 (by decide) HT2.out.inn HLE1.out HSZ.out).mono ?_
    rintro e wt3 ⟨rfl, hi, ho⟩
    have HLE2 := Lib.hid (inA_le 3 s pa1 pb1 HLE1.out)
    have HT3 := Lib.hid (HT2.out.step hi ho)
    obtain ⟨t2, hv⟩ : ∃ v, inV 3 s pa1 pb1 = v := ⟨_, rfl⟩
    obtain ⟨pa2, hA⟩ : ∃ v, inA 3 s pa1 pb1 = v := ⟨_, rfl⟩
    obtain ⟨pb2, hB⟩ : ∃ v, inB 3 s pa1 pb1 = v := ⟨_, rfl⟩
    rw [hv, hA, hB] at HSIM1
    rw [hA, hB] at HT3
    rw [hA] at HLE2
    rw [hv]
    clear hi ho hv hA hB
    have f0 := HT3.out.rcd.frozen (j := 2) (by simp [Rc.vals])
    have g0 := HT3.out.rcd.cell (j := 2) rfl
    obtain ⟨wt4, hW2⟩ : ∃ v, v = wt3.setCell ⟨w.heap.size + 1 + 1, 2, none⟩ (.int .i64 t2) := ⟨_, rfl⟩
    have HT4 : Hid (rfSt w wt4 (⟨7, ⟨t1, t2, 0⟩, [], [], 0, 0, 0, 0, 0, 0, 0, 0, false⟩ : Rc) s pa2 pb2 lay0) := Lib.hid (by
      rw [hW2]
      exact HT3.out.put (x' := (⟨7, ⟨t1, t2, 0⟩, [], [], 0, 0, 0, 0, 0, 0, 0, 0, false⟩ : Rc)) (Only.of_set wt3 ⟨w.heap.size + 1 + 1, 2, none⟩ _) (HT3.out.rcd.set_ 2 (.int .i64 t2)) rfl rfl)
    go_wp2_with fail
    rw [← hW2]
    clear hW2 f0 g0
    refine (in_any 3 s pa2 pb2 (w.heap.size + 1) wt4 (by decide) HT4.out.inn HLE2.out HSZ.out).mono ?_
    rintro e wt5 ⟨rfl, hi, ho⟩
    have HLE3 := Lib.hid (inA_le 3 s pa2 pb2 HLE2.out)
    have HT5 := Lib.hid (HT4.out.step hi ho)
    obtain ⟨t3, hv⟩ : ∃ v, inV 3 s pa2 pb2 = v := ⟨_, rfl⟩
    obtain ⟨pa3, hA⟩ : ∃ v, inA 3 s pa2 pb2 = v := ⟨_, rfl⟩
    obtain ⟨pb3, hB⟩ : ∃ v, inB 3 s pa2 pb2 = v := ⟨_, rfl⟩
    rw [hv, hA, hB] at HSIM1
    rw [hA, hB] at HT5
    rw [hA] at HLE3
    rw [hv]
    clear hi ho hv hA hB
    have f0 := HT5.out.rcd.frozen (j := 3) (by simp [Rc.vals])
    have g0 := HT5.out.rcd.cell (j := 3) rfl
    obtain ⟨wt6, hW2⟩ : ∃ v, v = wt5.setCell ⟨w.heap.size + 1 + 1, 3, none⟩ (.int .i64 t3) := ⟨_, rfl⟩
    have HT6 : Hid (rfSt w wt6 (⟨7, ⟨t1, t2, t3⟩, [], [], 0, 0, 0, 0, 0, 0, 0, 0, false⟩ : Rc) s pa3 pb3 lay0) := Lib.hid (by
      rw [hW2]
      exact HT5.out.put (x' := (⟨7, ⟨t1, t2, t3⟩, [], [], 0, 0, 0, 0, 0, 0, 0, 0, false⟩ : Rc)) (Only.of_set wt5 ⟨w.heap.size + 1 + 1, 3, none⟩ _) (HT5.out.rcd.set_ 3 (.int .i64 t3)) rfl rfl)
    go_upto_region 14 with (fail)
    rw [← hW2]
    clear hW2 f0 g0
    have HSIM : Hid (Sim s (⟨7, ⟨t1, t2, t3⟩, [], [], 0, 0, 0, 0, 0, 0, 0, 0, false⟩ : Rc) pa3 pb3 (dec0 s)) := Lib.hid (by rw [HD0.out]; exact HSIM1.out)
    obtain ⟨wy, hwy⟩ : ∃ wy, wy = wt6 := ⟨_, rfl⟩
    subst hwy
    obtain ⟨a, ha⟩ : ∃ a, a = pa3 := ⟨_, rfl⟩
    obtain ⟨b, hb⟩ : ∃ b, b = pb3 := ⟨_, rfl⟩
    subst ha
    subst hb
    have HST := HT6
    clear HT6
    have c0 := HST.out.rcd.cell (j := 0) rfl
    have HLM : Hid (([] : List It).length = 0 ∧ ([] : List Int).length = 0) := Lib.hid ⟨rfl, rfl⟩
    have i1 := HST.out.inn.cell (j := 1) rfl
    have i2 := HST.out.inn.cell (j := 2) rfl
    go_upto_region 38 with (fail)
    go_cut [153] from 136 to 153 (FinOut s w (⟨7, ⟨t1, t2, t3⟩, [], [], 0, 0, 0, 0, 0, 0, 0, 0, false⟩ : Rc) a b lay0)
    case first =>
      cases b with
      | true =>
        have HNO := Lib.hid (HSIM.out.fin.1 rfl)
        go_wp2_with fail
        go_meet
        exact ⟨true, rfl, HST.out, fun _ => HNO.out, fun h => by cases h⟩
      | false =>
        by_cases ha : a = s.size
        · subst ha
          have HF3 := Lib.hid (HSIM.out.fin.2.2 rfl rfl)
          have hcq : Cells wy (w.heap.size + 1 + 1) 39 [.int .i64 7, .int .i64 t1, .int .i64 t2, .int .i64 t3, .slice none 0 0, .slice none 0 0, .int .i64 0, .int .i64 0, .int .i64 0, .int .i64 0, .int .i64 0, .int .i64 0, .int .i64 0, .int .i64 0, .bool false] := by
            have hq := HST.out.rcd
            have hlm := HLM.out
            unfold Rc.vals at hq
            simp only [hlm.1, hlm.2] at hq
            exact hq
          have q0 := hcq.cell (j := 0) rfl
          have q1 := hcq.cell (j := 1) rfl
          have q2 := hcq.cell (j := 2) rfl
          have q3 := hcq.cell (j := 3) rfl
          have q4 := hcq.cell (j := 4) rfl
          have q5 := hcq.cell (j := 5) rfl
          have q6 := hcq.cell (j := 6) rfl
          have q7 := hcq.cell (j := 7) rfl
          have q8 := hcq.cell (j := 8) rfl
          have q9 := hcq.cell (j := 9) rfl
          have q10 := hcq.cell (j := 10) rfl
          have q11 := hcq.cell (j := 11) rfl
          have q12 := hcq.cell (j := 12) rfl
          have q13 := hcq.cell (j := 13) rfl
          have q14 := hcq.cell (j := 14) rfl
          have HRR := Lib.hid (refRight_any (⟨7, ⟨t1, t2, t3⟩, [], [], 0, 0, 0, 0, 0, 0, 0, 0, false⟩ : Rc) lay0 wy HST.out.has (Nat.le_trans HF3.out.2.1.items (by decide)) (Nat.le_trans HF3.out.2.1.nodes (by decide)))
          rw [refRight_eq _ HF3.out.1] at HRR
          have HF4 := Lib.hid HF3.out.2.2
          obtain ⟨rt, hrt⟩ : ∃ rt, right (⟨7, ⟨t1, t2, t3⟩, [], [], 0, 0, 0, 0, 0, 0, 0, 0, false⟩ : Rc) = rt := ⟨_, rfl⟩
          rw [hrt] at HRR HF4
          clear hrt HF3 hcq
          have hlm := HLM.out
          unfold Rc.val at HRR
          simp only [hlm.1, hlm.2] at HRR
          clear hlm
          go_wp2_with fail
          refine HRR.out.mono ?_
          rintro e wz ⟨rfl, hbz⟩
          have HEND := Lib.hid (HST.out.later hbz)
          clear hbz
          go_wp2_with fail
          go_meet
          exact ⟨!rt, rfl, HEND.out, fun h => by rw [HF4.out, if_neg (by intro h2; rw [h2] at h; cases h)], fun h => by rw [HF4.out, if_pos (by simpa using h)]⟩
        · have HNO := Lib.hid (HSIM.out.fin.2.1 rfl ha)
          have e1 : ((a : Int) == (s.size : Int)) = false := by simp; omega
          have e2 : ((a : Int) != (s.size : Int)) = true := by simp; omega
          clear ha
          go_wp2_with fail
          go_meet
          exact ⟨true, rfl, HST.out, fun _ => HNO.out, fun h => by cases h⟩
    case rest =>
      obtain ⟨o, rfl, hst, hno, hyes⟩ := hcut
      obtain ⟨wz, hwz⟩ : ∃ wz, wz = wc := ⟨_, rfl⟩
      rw [← hwz] at hst ⊢
      have HEND := Lib.hid hst
      have HNY := Lib.hid (And.intro hno hyes)
      clear hst hno hyes hwz i1 i2
      cases o with
      | true =>
        have HNO := Lib.hid (HFIN0.out.1 (HNY.out.1 rfl))
        go_upto_region 39 with (fail)
        apply wp_region_lit
        refine wpList_buildTo rfl 39 _ rfl (some 154) rfl #[.int .i64 0, .int .i64 0, .int .i64 0, .int .i64 0, .slice none 0 0, .slice none 0 0, .int .i64 0, .int .i64 0, .int .i64 0, .int .i64 0, .int .i64 0, .int .i64 0, .int .i64 0, .int .i64 0, .bool false] (by kernel_rfl) ?_
        refine wpList_store_cells rfl 39 _ _ rfl w.heap.size #[.int .i64 0, .int .i64 0, .int .i64 0, .int .i64 0, .slice none 0 0, .slice none 0 0, .int .i64 0, .int .i64 0, .int .i64 0, .int .i64 0, .int .i64 0, .int .i64 0, .int .i64 0, .int .i64 0, .bool false] [.int .i64 0, .int .i64 0, .int .i64 0, .int .i64 0, .slice none 0 0, .slice none 0 0, .int .i64 0, .int .i64 0, .int .i64 0, .int .i64 0, .int .i64 0, .int .i64 0, .int .i64 0, .int .i64 0, .bool false] rfl rfl rfl HEND.out.res rfl (by kernel_rfl) (by kernel_rfl) fun wv hpt hov => ?_
        have HPT := Lib.hid hpt
        have HO := Lib.hid (HEND.out.ended hov)
        clear hpt hov
        go_wp2_with fail
        refine bodyPost_ret (v := .tuple #[.agg #[.int .i64 0, .int .i64 0, .int .i64 0, .int .i64 0, .slice none 0 0, .slice none 0 0, .int .i64 0, .int .i64 0, .int .i64 0, .int .i64 0, .int .i64 0, .int .i64 0, .int .i64 0, .int .i64 0, .bool false], .bool false]) ?_ rfl ?_
        · exact (ret_cell_tmp (p := 2) (q := 3) (ty := 39) (by rfl) _ HPT.out _ (by rfl) Try.underlying39 rfl (by kernel_rfl)).trans (by rfl)
        · exact ⟨⟨lay0, by rw [HNO.out.1, HNO.out.2]; rfl, by rw [HNO.out.1]; exact has0 _⟩, HO.out.2⟩
      | false =>
        have HNO := Lib.hid (HFIN0.out.2 _ (HNY.out.2 rfl))
        have hcq : Cells wz (w.heap.size + 1 + 1) 39 [.int .i64 7, .int .i64 t1, .int .i64 t2, .int .i64 t3, .slice none 0 0, .slice none 0 0, .int .i64 0, .int .i64 0, .int .i64 0, .int .i64 0, .int .i64 0, .int .i64 0, .int .i64 0, .int .i64 0, .bool false] := by
          have hq := HEND.out.rcd
          have hlm := HLM.out
          unfold Rc.vals at hq
          simp only [hlm.1, hlm.2] at hq
          exact hq
        have HCQ := Lib.hid hcq
        clear hcq
        go_upto_region 40 with (fail)
        apply wp_region_lit
        refine wpList_load_cells rfl 39 _ rfl (w.heap.size + 1 + 1) #[.int .i64 7, .int .i64 t1, .int .i64 t2, .int .i64 t3, .slice none 0 0, .slice none 0 0, .int .i64 0, .int .i64 0, .int .i64 0, .int .i64 0, .int .i64 0, .int .i64 0, .int .i64 0, .int .i64 0, .bool false] rfl rfl HCQ.out Try.underlying39 rfl (by kernel_rfl) ?_
        refine wpList_store_cells rfl 39 _ _ rfl w.heap.size #[.int .i64 7, .int .i64 t1, .int .i64 t2, .int .i64 t3, .slice none 0 0, .slice none 0 0, .int .i64 0, .int .i64 0, .int .i64 0, .int .i64 0, .int .i64 0, .int .i64 0, .int .i64 0, .int .i64 0, .bool false] [.int .i64 7, .int .i64 t1, .int .i64 t2, .int .i64 t3, .slice none 0 0, .slice none 0 0, .int .i64 0, .int .i64 0, .int .i64 0, .int .i64 0, .int .i64 0, .int .i64 0, .int .i64 0, .int .i64 0, .bool false] rfl rfl rfl HEND.out.res rfl (by kernel_rfl) (by kernel_rfl) fun wv hpt hov => ?_
        have HPT := Lib.hid hpt
        have HO := Lib.hid (HEND.out.ended hov)
        clear hpt hov
        go_wp2_with fail
        refine bodyPost_ret (v := .tuple #[.agg #[.int .i64 7, .int .i64 t1, .int .i64 t2, .int .i64 t3, .slice none 0 0, .slice none 0 0, .int .i64 0, .int .i64 0, .int .i64 0, .int .i64 0, .int .i64 0, .int .i64 0, .int .i64 0, .int .i64 0, .bool false], .bool true]) ?_ rfl ?_
        · exact (ret_cell_tmp (p := 2) (q := 3) (ty := 39) (by rfl) _ HPT.out _ (by rfl) Try.underlying39 rfl (by kernel_rfl)).trans (by rfl)
        · exact ⟨⟨lay0, by rw [HNO.out.1, HNO.out.2]; unfold Rc.val; simp only [HLM.out.1, HLM.out.2, lay0], by rw [HNO.out.1]; exact HO.out.1⟩, HO.out.2⟩
set_option maxHeartbeats 4000000 in
theorem refRead6 (s : ByteArray) (w : World) (hs : s.size ≤ 1000000) (hkn : ((Wire.num s 1 : Nat) : Int) = 6) :
    Calls Try.prog 17 #[.string s] w fun e w' => (∃ y, e = .returned (.tuple #[(decR s).val y, .bool (dec s).isSome]) ∧ Has w' (decR s) y) ∧ Below w.heap.size w w' := by
  have HSIM0 : Hid (Sim s (rcK 6) (inA 0 s 0 false) (inB 0 s 0 false) (rcK 6, rest s 1, brk s false 1)) := Lib.hid (by have := sim_start s; rw [hkn] at this; exact this)
  have HD0 : Hid (dec0 s = foldF (fl 6) (rcK 6, rest s 1, brk s false 1)) := Lib.hid (by unfold dec0; rw [hkn])
  have HKV : Hid (inV 0 s 0 false = 6) := Lib.hid ((sim_kind s).1.trans hkn)
  have HSZ := Lib.hid hs
  clear hkn hs
  have HFIN0 : Hid ((dec s = none → decR s = rc0 ∧ (dec s).isSome = false) ∧ ∀ x, dec s = some x → decR s = x ∧ (dec s).isSome = true) := Lib.hid (by
    unfold decR
    exact ⟨fun h => by rw [h]; exact ⟨rfl, rfl⟩, fun x h => by rw [h]; exact ⟨rfl, rfl⟩⟩)
  obtain ⟨R, hR⟩ : ∃ R, decR s = R := ⟨_, rfl⟩
  obtain ⟨D, hD⟩ : ∃ D, (dec s).isSome = D := ⟨_, rfl⟩
  rw [hR, hD] at HFIN0
  rw [hR, hD]
  clear hR hD
  obtain ⟨w3, hw3⟩ : ∃ w3, w3 = ((w.alloc (.cells #[.int .i64 0, .int .i64 0, .int .i64 0, .int .i64 0, .slice none 0 0, .slice none 0 0, .int .i64 0, .int .i64 0, .int .i64 0, .int .i64 0, .int .i64 0, .int .i64 0, .int .i64 0, .int .i64 0, .bool false] 39)).alloc (.cells #[.string s, .int .i64 0, .bool false] 111)).alloc (.cells #[.int .i64 0, .int .i64 0, .int .i64 0, .int .i64 0, .slice none 0 0, .slice none 0 0, .int .i64 0, .int .i64 0, .int .i64 0, .int .i64 0, .int .i64 0, .int .i64 0, .int .i64 0, .int .i64 0, .bool false] 39) := ⟨_, rfl⟩
  have HST : Hid (rfSt w w3 rc0 s 0 false lay0) := Lib.hid (by
    rw [hw3]
    have q1 := cells_new w 39 zeroC #[.int .i64 0, .int .i64 0, .int .i64 0, .int .i64 0, .slice none 0 0, .slice none 0 0, .int .i64 0, .int .i64 0, .int .i64 0, .int .i64 0, .int .i64 0, .int .i64 0, .int .i64 0, .int .i64 0, .bool false] rfl
    have q2 := cells_new (w.alloc (.cells #[.int .i64 0, .int .i64 0, .int .i64 0, .int .i64 0, .slice none 0 0, .slice none 0 0, .int .i64 0, .int .i64 0, .int .i64 0, .int .i64 0, .int .i64 0, .int .i64 0, .int .i64 0, .int .i64 0, .bool false] 39)) 111 _ #[.string s, .int .i64 0, .bool false] rfl
    have q3 := cells_new ((w.alloc (.cells #[.int .i64 0, .int .i64 0, .int .i64 0, .int .i64 0, .slice none 0 0, .slice none 0 0, .int .i64 0, .int .i64 0, .int .i64 0, .int .i64 0, .int .i64 0, .int .i64 0, .int .i64 0, .int .i64 0, .bool false] 39)).alloc (.cells #[.string s, .int .i64 0, .bool false] 111)) 39 (rc0.vals lay0) #[.int .i64 0, .int .i64 0, .int .i64 0, .int .i64 0, .slice none 0 0, .slice none 0 0, .int .i64 0, .int .i64 0, .int .i64 0, .int .i64 0, .int .i64 0, .int .i64 0, .int .i64 0, .int .i64 0, .bool false] rfl
    rw [World.size_alloc] at q2
    rw [World.size_alloc, World.size_alloc] at q3
    exact ⟨q2.later (below_alloc _ _), Go.Joins.below_alloc3 _ _ _ _, by simp, q3, (q1.later (below_alloc _ _)).later (below_alloc _ _), World.ownsRow_nil _ _ _ _, World.ownsRow_nil _ _ _ _, fun i hi => by cases hi⟩)
  go_enter Try.func17, Try.ntmps17
  go_wp2_with fail
  rw [← hw3]
  clear hw3
  refine (in_any 0 s 0 false (w.heap.size + 1) w3 (by decide) HST.out.inn (Nat.zero_le _) HSZ.out).mono ?_
  rintro e wa ⟨rfl, hia, hoa⟩
  have h1 := HST.out.step hia hoa
  have HS1 := Lib.hid h1
  rw [HKV.out]
  obtain ⟨pa, ha1⟩ : ∃ pa, inA 0 s 0 false = pa := ⟨_, rfl⟩
  obtain ⟨pb, hb1⟩ : ∃ pb, inB 0 s 0 false = pb := ⟨_, rfl⟩
  rw [ha1, hb1] at HS1 HSIM0
  have c0 := h1.rcd.cell (j := 0) rfl
  have f0 := h1.rcd.frozen (j := 0) (by simp [Rc.vals])
  obtain ⟨wb, hwb⟩ : ∃ wb, wb = wa.setCell ⟨w.heap.size + 1 + 1, 0, none⟩ (.int .i64 6) := ⟨_, rfl⟩
  have HS2 : Hid (rfSt w wb (rcK 6) s pa pb lay0) := Lib.hid (by
    rw [hwb]
    exact HS1.out.put (x' := rcK 6) (Only.of_set wa ⟨w.heap.size + 1 + 1, 0, none⟩ _) (HS1.out.rcd.set_ 0 (.int .i64 6)) rfl rfl)
  clear h1 hia hoa ha1 hb1
  go_wp2_with fail
  rw [← hwb]
  clear hwb c0 f0
  refine (refFields_all 6 wb).mono ?_
  rintro e wc ⟨FA, fc, rfl, hnu, hnew, hbc⟩
  have HS3 := Lib.hid (HS2.out.later hbc)
  have HNU := Lib.hid hnu
  have HFR : Hid (∀ b off, FA = some ⟨b, off, none⟩ → w.heap.size + 3 ≤ b) := Lib.hid (fun b off e => Nat.le_trans HS2.out.low (hnew b off e))
  clear hnu hnew hbc
  have HSIM1 := Lib.hid HSIM0.out.tid
  unfold tidD a3 c3 at HSIM1
  have HLE := Lib.hid HSIM0.out.pos.le
  rw [rl_nil 6 (by decide)] at HNU ⊢
  simp only [List.length_nil]
  go_wp2_with fail
  go_loopw [7, 8] (fun i _ wr => i = .int .i64 0 ∧ wc = wr) (fun _ _ _ => 0)
  case atStart => exact ⟨rfl, rfl⟩
  case round =>
    obtain ⟨rfl, rfl⟩ := hrel
    have c0 := HS3.out.rcd.cell (j := 0) rfl
    go_wp2_with fail
    refine (refNamed_any 6 wc).mono ?_
    rintro e w' ⟨rfl, rfl⟩
    rw [show named 6 = true from rfl]
    clear c0
    go_wp2_with fail
    refine (in_any 3 s pa pb (w.heap.size + 1) wc (by decide) HS3.out.inn HLE.out HSZ.out).mono ?_
    rintro e wt1 ⟨rfl, hi, ho⟩
    have HLE1 := Lib.hid (inA_le 3 s pa pb HLE.out)
    have HT1 := Lib.hid (HS3.out.step hi ho)
    obtain ⟨t1, hv⟩ : ∃ v, inV 3 s pa pb = v := ⟨_, rfl⟩
    obtain ⟨pa1, hA⟩ : ∃ v, inA 3 s pa pb = v := ⟨_, rfl⟩
    obtain ⟨pb1, hB⟩ : ∃ v, inB 3 s pa pb = v := ⟨_, rfl⟩
    rw [hv, hA, hB] at HSIM1
    rw [hA, hB] at HT1
    rw [hA] at HLE1
    rw [hv]
    clear hi ho hv hA hB
    have f0 := HT1.out.rcd.frozen (j := 1) (by simp [Rc.vals])
    have g0 := HT1.out.rcd.cell (j := 1) rfl
    obtain ⟨wt2, hW2⟩ : ∃ v, v = wt1.setCell ⟨w.heap.size + 1 + 1, 1, none⟩ (.int .i64 t1) := ⟨_, rfl⟩
    have HT2 : Hid (rfSt w wt2 (⟨6, ⟨t1, 0, 0⟩, [], [], 0, 0, 0, 0, 0, 0, 0, 0, false⟩ : Rc) s pa1 pb1 lay0) := Lib.hid (by
      rw [hW2]
      exact HT1.out.put (x' := (⟨6, ⟨t1, 0, 0⟩, [], [], 0, 0, 0, 0, 0, 0, 0, 0, false⟩ : Rc)) (Only.of_set wt1 ⟨w.heap.size + 1 + 1, 1, none⟩ _) (HT1.out.rcd.set_ 1 (.int .i64 t1)) rfl rfl)
    go_wp2_with fail
    rw [← hW2]
    clear hW2 f0 g0
    refine (in_any 3 s pa1 pb1 (w.heap.size + 1) wt2 (by decide) HT2.out.inn HLE1.out HSZ.out).mono ?_
    rintro e wt3 ⟨rfl, hi, ho⟩
    have HLE2 := Lib.hid (inA_le 3 s pa1 pb1 HLE1.out)
    have HT3 := Lib.hid (HT2.out.step hi ho)
    obtain ⟨t2, hv⟩ : ∃ v, inV 3 s pa1 pb1 = v := ⟨_, rfl⟩
    obtain ⟨pa2, hA⟩ : ∃ v, inA 3 s pa1 pb1 = v := ⟨_, rfl⟩
    obtain ⟨pb2, hB⟩ : ∃ v, inB 3 s pa1 pb1 = v := ⟨_, rfl⟩
    rw [hv, hA, hB] at HSIM1
    rw [hA, hB] at HT3
    rw [hA] at HLE2
    rw [hv]
    clear hi ho hv hA hB
    have f0 := HT3.out.rcd.frozen (j := 2) (by simp [Rc.vals])
    have g0 := HT3.out.rcd.cell (j := 2) rfl
    obtain ⟨wt4, hW2⟩ : ∃ v, v = wt3.setCell ⟨w.heap.size + 1 + 1, 2, none⟩ (.int .i64 t2) := ⟨_, rfl⟩
    have HT4 : Hid (rfSt w wt4 (⟨6, ⟨t1, t2, 0⟩, [], [], 0, 0, 0, 0, 0, 0, 0, 0, false⟩ : Rc) s pa2 pb2 lay0) := Lib.hid (by
      rw [hW2]
      exact HT3.out.put (x' := (⟨6, ⟨t1, t2, 0⟩, [], [], 0, 0, 0, 0, 0, 0, 0, 0, false⟩ : Rc)) (Only.of_set wt3 ⟨w.heap.size + 1 + 1, 2, none⟩ _) (HT3.out.rcd.set_ 2 (.int .i64 t2)) rfl rfl)
    go_wp2_with fail
    rw [← hW2]
    clear hW2 f0 g0
    refine (in_any 3 s pa2 pb2 (w.heap.size + 1) wt4 (by decide) HT4.out.inn HLE2.out HSZ.out).mono ?_
    rintro e wt5 ⟨rfl, hi, ho⟩
    have HLE3 := Lib.hid (inA_le 3 s pa2 pb2 HLE2.out)
    have HT5 := Lib.hid (HT4.out.step hi ho)
    obtain ⟨t3, hv⟩ : ∃ v, inV 3 s pa2 pb2 = v := ⟨_, rfl⟩
    obtain ⟨pa3, hA⟩ : ∃ v, inA 3 s pa2 pb2 = v := ⟨_, rfl⟩
    obtain ⟨pb3, hB⟩ : ∃ v, inB 3 s pa2 pb2 = v := ⟨_, rfl⟩
    rw [hv, hA, hB] at HSIM1
    rw [hA, hB] at HT5
    rw [hA] at HLE3
    rw [hv]
    clear hi ho hv hA hB
    have f0 := HT5.out.rcd.frozen (j := 3) (by simp [Rc.vals])
    have g0 := HT5.out.rcd.cell (j := 3) rfl
    obtain ⟨wt6, hW2⟩ : ∃ v, v = wt5.setCell ⟨w.heap.size + 1 + 1, 3, none⟩ (.int .i64 t3) := ⟨_, rfl⟩
    have HT6 : Hid (rfSt w wt6 (⟨6, ⟨t1, t2, t3⟩, [], [], 0, 0, 0, 0, 0, 0, 0, 0, false⟩ : Rc) s pa3 pb3 lay0) := Lib.hid (by
      rw [hW2]
      exact HT5.out.put (x' := (⟨6, ⟨t1, t2, t3⟩, [], [], 0, 0, 0, 0, 0, 0, 0, 0, false⟩ : Rc)) (Only.of_set wt5 ⟨w.heap.size + 1 + 1, 3, none⟩ _) (HT5.out.rcd.set_ 3 (.int .i64 t3)) rfl rfl)
    go_upto_region 14 with (fail)
    rw [← hW2]
    clear hW2 f0 g0
    have c0 := HT6.out.rcd.cell (j := 0) rfl
    have HSIM2 := Lib.hid HSIM1.out.yes
    go_wp2_with fail
    refine (in_any 1 s pa3 pb3 (w.heap.size + 1) wt6 (by decide) HT6.out.inn HLE3.out HSZ.out).mono ?_
    rintro e wt7 ⟨rfl, hi, ho⟩
    have HLE4 := Lib.hid (inA_le 1 s pa3 pb3 HLE3.out)
    have HT7 := Lib.hid (HT6.out.step hi ho)
    obtain ⟨yn, hv⟩ : ∃ v, inV 1 s pa3 pb3 = v := ⟨_, rfl⟩
    obtain ⟨pa4, hA⟩ : ∃ v, inA 1 s pa3 pb3 = v := ⟨_, rfl⟩
    obtain ⟨pb4, hB⟩ : ∃ v, inB 1 s pa3 pb3 = v := ⟨_, rfl⟩
    rw [hv, hA, hB] at HSIM2
    rw [hA, hB] at HT7
    rw [hA] at HLE4
    rw [hv]
    clear hi ho hv hA hB
    obtain ⟨yv, hy⟩ : ∃ v, (yn == 1) = v := ⟨_, rfl⟩
    rw [hy] at HSIM2
    have f0 := HT7.out.rcd.frozen (j := 14) (by simp [Rc.vals])
    have g0 := HT7.out.rcd.cell (j := 14) rfl
    obtain ⟨wt8, hW2⟩ : ∃ v, v = wt7.setCell ⟨w.heap.size + 1 + 1, 14, none⟩ (.bool yv) := ⟨_, rfl⟩
    have HT8 : Hid (rfSt w wt8 (⟨6, ⟨t1, t2, t3⟩, [], [], 0, 0, 0, 0, 0, 0, 0, 0, yv⟩ : Rc) s pa4 pb4 lay0) := Lib.hid (by
      rw [hW2]
      exact HT7.out.put (x' := (⟨6, ⟨t1, t2, t3⟩, [], [], 0, 0, 0, 0, 0, 0, 0, 0, yv⟩ : Rc)) (Only.of_set wt7 ⟨w.heap.size + 1 + 1, 14, none⟩ _) (HT7.out.rcd.set_ 14 (.bool yv)) rfl rfl)
    clear c0
    go_upto_region 38 with (fail)
    rw [← hW2]
    clear hW2 f0 g0 hy
    have HSIM : Hid (Sim s (⟨6, ⟨t1, t2, t3⟩, [], [], 0, 0, 0, 0, 0, 0, 0, 0, yv⟩ : Rc) pa4 pb4 (dec0 s)) := Lib.hid (by rw [HD0.out]; exact HSIM2.out)
    obtain ⟨wy, hwy⟩ : ∃ wy, wy = wt8 := ⟨_, rfl⟩
    subst hwy
    obtain ⟨a, ha⟩ : ∃ a, a = pa4 := ⟨_, rfl⟩
    obtain ⟨b, hb⟩ : ∃ b, b = pb4 := ⟨_, rfl⟩
    subst ha
    subst hb
    have HST := HT8
    clear HT8
    have c0 := HST.out.rcd.cell (j := 0) rfl
    have HLM : Hid (([] : List It).length = 0 ∧ ([] : List Int).length = 0) := Lib.hid ⟨rfl, rfl⟩
    have i1 := HST.out.inn.cell (j := 1) rfl
    have i2 := HST.out.inn.cell (j := 2) rfl
    go_cut [153] from 136 to 153 (FinOut s w (⟨6, ⟨t1, t2, t3⟩, [], [], 0, 0, 0, 0, 0, 0, 0, 0, yv⟩ : Rc) a b lay0)
    case first =>
      cases b with
      | true =>
        have HNO := Lib.hid (HSIM.out.fin.1 rfl)
        go_wp2_with fail
        go_meet
        exact ⟨true, rfl, HST.out, fun _ => HNO.out, fun h => by cases h⟩
      | false =>
        by_cases ha : a = s.size
        · subst ha
          have HF3 := Lib.hid (HSIM.out.fin.2.2 rfl rfl)
          have hcq : Cells wy (w.heap.size + 1 + 1) 39 [.int .i64 6, .int .i64 t1, .int .i64 t2, .int .i64 t3, .slice none 0 0, .slice none 0 0, .int .i64 0, .int .i64 0, .int .i64 0, .int .i64 0, .int .i64 0, .int .i64 0, .int .i64 0, .int .i64 0, .bool yv] := by
            have hq := HST.out.rcd
            have hlm := HLM.out
            unfold Rc.vals at hq
            simp only [hlm.1, hlm.2] at hq
            exact hq
          have q0 := hcq.cell (j := 0) rfl
          have q1 := hcq.cell (j := 1) rfl
          have q2 := hcq.cell (j := 2) rfl
          have q3 := hcq.cell (j := 3) rfl
          have q4 := hcq.cell (j := 4) rfl
          have q5 := hcq.cell (j := 5) rfl
          have q6 := hcq.cell (j := 6) rfl
          have q7 := hcq.cell (j := 7) rfl
          have q8 := hcq.cell (j := 8) rfl
          have q9 := hcq.cell (j := 9) rfl
          have q10 := hcq.cell (j := 10) rfl
          have q11 := hcq.cell (j := 11) rfl
          have q12 := hcq.cell (j := 12) rfl
          have q13 := hcq.cell (j := 13) rfl
          have q14 := hcq.cell (j := 14) rfl
          have HRR := Lib.hid (refRight_any (⟨6, ⟨t1, t2, t3⟩, [], [], 0, 0, 0, 0, 0, 0, 0, 0, yv⟩ : Rc) lay0 wy HST.out.has (Nat.le_trans HF3.out.2.1.items (by decide)) (Nat.le_trans HF3.out.2.1.nodes (by decide)))
          rw [refRight_eq _ HF3.out.1] at HRR
          have HF4 := Lib.hid HF3.out.2.2
          obtain ⟨rt, hrt⟩ : ∃ rt, right (⟨6, ⟨t1, t2, t3⟩, [], [], 0, 0, 0, 0, 0, 0, 0, 0, yv⟩ : Rc) = rt := ⟨_, rfl⟩
          rw [hrt] at HRR HF4
          clear hrt HF3 hcq
          have hlm := HLM.out
          unfold Rc.val at HRR
          simp only [hlm.1, hlm.2] at HRR
          clear hlm
          go_wp2_with fail
          refine HRR.out.mono ?_
          rintro e wz ⟨rfl, hbz⟩
          have HEND := Lib.hid (HST.out.later hbz)
          clear hbz
          go_wp2_with fail
          go_meet
          exact ⟨!rt, rfl, HEND.out, fun h => by rw [HF4.out, if_neg (by intro h2; rw [h2] at h; cases h)], fun h => by rw [HF4.out, if_pos (by simpa using h)]⟩
        · have HNO := Lib.hid (HSIM.out.fin.2.1 rfl ha)
          have e1 : ((a : Int) == (s.size : Int)) = false := by simp; omega
          have e2 : ((a : Int) != (s.size : Int)) = true := by simp; omega
          clear ha
          go_wp2_with fail
          go_meet
          exact ⟨true, rfl, HST.out, fun _ => HNO.out, fun h => by cases h⟩
    case rest =>
      obtain ⟨o, rfl, hst, hno, hyes⟩ := hcut
      obtain ⟨wz, hwz⟩ : ∃ wz, wz = wc := ⟨_, rfl⟩
      rw [← hwz] at hst ⊢
      have HEND := Lib.hid hst
      have HNY := Lib.hid (And.intro hno hyes)
      clear hst hno hyes hwz i1 i2
      cases o with
      | true =>
        have HNO := Lib.hid (HFIN0.out.1 (HNY.out.1 rfl))
        go_upto_region 39 with (fail)
        apply wp_region_lit
        refine wpList_buildTo rfl 39 _ rfl (some 154) rfl #[.int .i64 0, .int .i64 0, .int .i64 0, .int .i64 0, .slice none 0 0, .slice none 0 0, .int .i64 0, .int .i64 0, .int .i64 0, .int .i64 0, .int .i64 0, .int .i64 0, .int .i64 0, .int .i64 0, .bool false] (by kernel_rfl) ?_
        refine wpList_store_cells rfl 39 _ _ rfl w.heap.size #[.int .i64 0, .int .i64 0, .int .i64 0, .int .i64 0, .slice none 0 0, .slice none 0 0, .int .i64 0, .int .i64 0, .int .i64 0, .int .i64 0, .int .i64 0, .int .i64 0, .int .i64 0, .int .i64 0, .bool false] [.int .i64 0, .int .i64 0, .int .i64 0, .int .i64 0, .slice none 0 0, .slice none 0 0, .int .i64 0, .int .i64 0, .int .i64 0, .int .i64 0, .int .i64 0, .int .i64 0, .int .i64 0, .int .i64 0, .bool false] rfl rfl rfl HEND.out.res rfl (by kernel_rfl) (by kernel_rfl) fun wv hpt hov => ?_
        have HPT := Lib.hid hpt
        have HO := Lib.hid (HEND.out.ended hov)
        clear hpt hov
        go_wp2_with fail
        refine bodyPost_ret (v := .tuple #[.agg #[.int .i64 0, .int .i64 0, .int .i64 0, .int .i64 0, .slice none 0 0, .slice none 0 0, .int .i64 0, .int .i64 0, .int .i64 0, .int .i64 0, .int .i64 0, .int .i64 0, .int .i64 0, .int .i64 0, .bool false], .bool false]) ?_ rfl ?_
        · exact (ret_cell_tmp (p := 2) (q := 3) (ty := 39) (by rfl) _ HPT.out _ (by rfl) Try.underlying39 rfl (by kernel_rfl)).trans (by rfl)
        · exact ⟨⟨lay0, by rw [HNO.out.1, HNO.out.2]; rfl, by rw [HNO.out.1]; exact has0 _⟩, HO.out.2⟩
      | false =>
        have HNO := Lib.hid (HFIN0.out.2 _ (HNY.out.2 rfl))
        have hcq : Cells wz (w.heap.size + 1 + 1) 39 [.int .i64 6, .int .i64 t1, .int .i64 t2, .int .i64 t3, .slice none 0 0, .slice none 0 0, .int .i64 0, .int .i64 0, .int .i64 0, .int .i64 0, .int .i64 0, .int .i64 0, .int .i64 0, .int .i64 0, .bool yv] := by
          have hq := HEND.out.rcd
          have hlm := HLM.out
          unfold Rc.vals at hq
          simp only [hlm.1, hlm.2] at hq
          exact hq
        have HCQ := Lib.hid hcq
        clear hcq
        go_upto_region 40 with (fail)
        apply wp_region_lit
        refine wpList_load_cells rfl 39 _ rfl (w.heap.size + 1 + 1) #[.int .i64 6, .int .i64 t1, .int .i64 t2, .int .i64 t3, .slice none 0 0, .slice none 0 0, .int .i64 0, .int .i64 0, .int .i64 0, .int .i64 0, .int .i64 0, .int .i64 0, .int .i64 0, .int .i64 0, .bool yv] rfl rfl HCQ.out Try.underlying39 rfl (by kernel_rfl) ?_
        refine wpList_store_cells rfl 39 _ _ rfl w.heap.size #[.int .i64 6, .int .i64 t1, .int .i64 t2, .int .i64 t3, .slice none 0 0, .slice none 0 0, .int .i64 0, .int .i64 0, .int .i64 0, .int .i64 0, .int .i64 0, .int .i64 0, .int .i64 0, .int .i64 0, .bool yv] [.int .i64 6, .int .i64 t1, .int .i64 t2, .int .i64 t3, .slice none 0 0, .slice none 0 0, .int .i64 0, .int .i64 0, .int .i64 0, .int .i64 0, .int .i64 0, .int .i64 0, .int .i64 0, .int .i64 0, .bool yv] rfl rfl rfl HEND.out.res rfl (by kernel_rfl) (by kernel_rfl) fun wv hpt hov => ?_
        have HPT := Lib.hid hpt
        have HO := Lib.hid (HEND.out.ended hov)
        clear hpt hov
        go_wp2_with fail
        refine bodyPost_ret (v := .tuple #[.agg #[.int .i64 6, .int .i64 t1, .int .i64 t2, .int .i64 t3, .slice none 0 0, .slice none 0 0, .int .i64 0, .int .i64 0, .int .i64 0, .int .i64 0, .int .i64 0, .int .i64 0, .int .i64 0, .int .i64 0, .bool yv], .bool true]) ?_ rfl ?_
        · exact (ret_cell_tmp (p := 2) (q := 3) (ty := 39) (by rfl) _ HPT.out _ (by rfl) Try.underlying39 rfl (by kernel_rfl)).trans (by rfl)
        · exact ⟨⟨lay0, by rw [HNO.out.1, HNO.out.2]; unfold Rc.val; simp only [HLM.out.1, HLM.out.2, lay0], by rw [HNO.out.1]; exact HO.out.1⟩, HO.out.2⟩
set_option maxHeartbeats 4000000 in
theorem refRead11 (s : ByteArray) (w : World) (hs : s.size ≤ 1000000) (hkn : ((Wire.num s 1 : Nat) : Int) = 11) :
    Calls Try.prog 17 #[.string s] w fun e w' => (∃ y, e = .returned (.tuple #[(decR s).val y, .bool (dec s).isSome]) ∧ Has w' (decR s) y) ∧ Below w.heap.size w w' := by
  have HSIM0 : Hid (Sim s (rcK 11) (inA 0 s 0 false) (inB 0 s 0 false) (rcK 11, rest s 1, brk s false 1)) := Lib.hid (by have := sim_start s; rw [hkn] at this; exact this)
  have HD0 : Hid (dec0 s = foldF (fl 11) (rcK 11, rest s 1, brk s false 1)) := Lib.hid (by unfold dec0; rw [hkn])
  have HKV : Hid (inV 0 s 0 false = 11) := Lib.hid ((sim_kind s).1.trans hkn)
  have HSZ := Lib.hid hs
  clear hkn hs
  have HFIN0 : Hid ((dec s = none → decR s = rc0 ∧ (dec s).isSome = false) ∧ ∀ x, dec s = some x → decR s = x ∧ (dec s).isSome = true) := Lib.hid (by
    unfold decR
    exact ⟨fun h => by rw [h]; exact ⟨rfl, rfl⟩, fun x h => by rw [h]; exact ⟨rfl, rfl⟩⟩)
  obtain ⟨R, hR⟩ : ∃ R, decR s = R := ⟨_, rfl⟩
  obtain ⟨D, hD⟩ : ∃ D, (dec s).isSome = D := ⟨_, rfl⟩
  rw [hR, hD] at HFIN0
  rw [hR, hD]
  clear hR hD
  obtain ⟨w3, hw3⟩ : ∃ w3, w3 = ((w.alloc (.cells #[.int .i64 0, .int .i64 0, .int .i64 0, .int .i64 0, .slice none 0 0, .slice none 0 0, .int .i64 0, .int .i64 0, .int .i64 0, .int .i64 0, .int .i64 0, .int .i64 0, .int .i64 0, .int .i64 0, .bool false] 39)).alloc (.cells #[.string s, .int .i64 0, .bool false] 111)).alloc (.cells #[.int .i64 0, .int .i64 0, .int .i64 0, .int .i64 0, .slice none 0 0, .slice none 0 0, .int .i64 0, .int .i64 0, .int .i64 0, .int .i64 0, .int .i64 0, .int .i64 0, .int .i64 0, .int .i64 0, .bool false] 39) := ⟨_, rfl⟩
  have HST : Hid (rfSt w w3 rc0 s 0 false lay0) := Lib.hid (by
    rw [hw3]
    have q1 := cells_new w 39 zeroC #[.int .i64 0, .int .i64 0, .int .i64 0, .int .i64 0, .slice none 0 0, .slice none 0 0, .int .i64 0, .int .i64 0, .int .i64 0, .int .i64 0, .int .i64 0, .int .i64 0, .int .i64 0, .int .i64 0, .bool false] rfl
    have q2 := cells_new (w.alloc (.cells #[.int .i64 0, .int .i64 0, .int .i64 0, .int .i64 0, .slice none 0 0, .slice none 0 0, .int .i64 0, .int .i64 0, .int .i64 0, .int .i64 0, .int .i64 0, .int .i64 0, .int .i64 0, .int .i64 0, .bool false] 39)) 111 _ #[.string s, .int .i64 0, .bool false] rfl
    have q3 := cells_new ((w.alloc (.cells #[.int .i64 0, .int .i64 0, .int .i64 0, .int .i64 0, .slice none 0 0, .slice none 0 0, .int .i64 0, .int .i64 0, .int .i64 0, .int .i64 0, .int .i64 0, .int .i64 0, .int .i64 0, .int .i64 0, .bool false] 39)).alloc (.cells #[.string s, .int .i64 0, .bool false] 111)) 39 (rc0.vals lay0) #[.int .i64 0, .int .i64 0, .int .i64 0, .int .i64 0, .slice none 0 0, .slice none 0 0, .int .i64 0, .int .i64 0, .int .i64 0, .int .i64 0, .int .i64 0, .int .i64 0, .int .i64 0, .int .i64 0, .bool false] rfl
    rw [World.size_alloc] at q2
    rw [World.size_alloc, World.size_alloc] at q3
    exact ⟨q2.later (below_alloc _ _), Go.Joins.below_alloc3 _ _ _ _, by simp, q3, (q1.later (below_alloc _ _)).later (below_alloc _ _), World.ownsRow_nil _ _ _ _, World.ownsRow_nil _ _ _ _, fun i hi => by cases hi⟩)
  go_enter Try.func17, Try.ntmps17
  go_wp2_with fail
  rw [← hw3]
  clear hw3
  refine (in_any 0 s 0 false (w.heap.size + 1) w3 (by decide) HST.out.inn (Nat.zero_le _) HSZ.out).mono ?_
  rintro e wa ⟨rfl, hia, hoa⟩
  have h1 := HST.out.step hia hoa
  have HS1 := Lib.hid h1
  rw [HKV.out]
  obtain ⟨pa, ha1⟩ : ∃ pa, inA 0 s 0 false = pa := ⟨_, rfl⟩
  obtain ⟨pb, hb1⟩ : ∃ pb, inB 0 s 0 false = pb := ⟨_, rfl⟩
  rw [ha1, hb1] at HS1 HSIM0
  have c0 := h1.rcd.cell (j := 0) rfl
  have f0 := h1.rcd.frozen (j := 0) (by simp [Rc.vals])
  obtain ⟨wb, hwb⟩ : ∃ wb, wb = wa.setCell ⟨w.heap.size + 1 + 1, 0, none⟩ (.int .i64 11) := ⟨_, rfl⟩
  have HS2 : Hid (rfSt w wb (rcK 11) s pa pb lay0) := Lib.hid (by
    rw [hwb]
    exact HS1.out.put (x' := rcK 11) (Only.of_set wa ⟨w.heap.size + 1 + 1, 0, none⟩ _) (HS1.out.rcd.set_ 0 (.int .i64 11)) rfl rfl)
  clear h1 hia hoa ha1 hb1
  go_wp2_with fail
  rw [← hwb]
  clear hwb c0 f0
  refine (refFields_all 11 wb).mono ?_
  rintro e wc ⟨FA, fc, rfl, hnu, hnew, hbc⟩
  have HS3 := Lib.hid (HS2.out.later hbc)
  have HNU := Lib.hid hnu
  have HFR : Hid (∀ b off, FA = some ⟨b, off, none⟩ → w.heap.size + 3 ≤ b) := Lib.hid (fun b off e => Nat.le_trans HS2.out.low (hnew b off e))
  clear hnu hnew hbc
  have HSIM1 := Lib.hid HSIM0.out.tid
  unfold tidD a3 c3 at HSIM1
  have HLE := Lib.hid HSIM0.out.pos.le
  rw [rl_nil 11 (by decide)] at HNU ⊢
  simp only [List.length_nil]
  go_wp2_with fail
  go_loopw [7, 8] (fun i _ wr => i = .int .i64 0 ∧ wc = wr) (fun _ _ _ => 0)
  case atStart => exact ⟨rfl, rfl⟩
  case round =>
    obtain ⟨rfl, rfl⟩ := hrel
    have c0 := HS3.out.rcd.cell (j := 0) rfl
    go_wp2_with fail
    refine (refNamed_any 11 wc).mono ?_
    rintro e w' ⟨rfl, rfl⟩
    rw [show named 11 = true from rfl]
    clear c0
    go_wp2_with fail
    refine (in_any 3 s pa pb (w.heap.size + 1) wc (by decide) HS3.out.inn HLE.out HSZ.out).mono ?_
    rintro e wt1 ⟨rfl, hi, ho⟩
    have HLE1 := Lib.hid (inA_le 3 s pa pb HLE.out)
    have HT1 := Lib.hid (HS3.out.step hi ho)
    obtain ⟨t1, hv⟩ : ∃ v, inV 3 s pa pb = v := ⟨_, rfl⟩
    obtain ⟨pa1, hA⟩ : ∃ v, inA 3 s pa pb = v := ⟨_, rfl⟩
    obtain ⟨pb1, hB⟩ : ∃ v, inB 3 s pa pb = v := ⟨_, rfl⟩
    rw [hv, hA, hB] at HSIM1
    rw [hA, hB] at HT1
    rw [hA] at HLE1
    rw [hv]
    clear hi ho hv hA hB
    have f0 := HT1.out.rcd.frozen (j := 1) (by simp [Rc.vals])
    have g0 := HT1.out.rcd.cell (j := 1) rfl
    obtain ⟨wt2, hW2⟩ : ∃ v, v = wt1.setCell ⟨w.heap.size + 1 + 1, 1, none⟩ (.int .i64 t1) := ⟨_, rfl⟩
    have HT2 : Hid (rfSt w wt2 (⟨11, ⟨t1, 0, 0⟩, [], [], 0, 0, 0, 0, 0, 0, 0, 0, false⟩ : Rc) s pa1 pb1 lay0) := Lib.hid (by
      rw [hW2]
      exact HT1.out.put (x' := (⟨11, ⟨t1, 0, 0⟩, [], [], 0, 0, 0, 0, 0, 0, 0, 0, false⟩ : Rc)) (Only.of_set wt1 ⟨w.heap.size + 1 + 1, 1, none⟩ _) (HT1.out.rcd.set_ 1 (.int .i64 t1)) rfl rfl)
    go_wp2_with fail
    rw [← hW2]
    clear hW2 f0 g0
    refine (in_any 3 s pa1 pb1 (w.heap.size + 1) wt2 (by decide) HT2.out.inn HLE1.out HSZ.out).mono ?_
    rintro e wt3 ⟨rfl, hi, ho⟩
    have HLE2 := Lib.hid (inA_le 3 s pa1 pb1 HLE1.out)
    have HT3 := Lib.hid (HT2.out.step hi ho)
    obtain ⟨t2, hv⟩ : ∃ v, inV 3 s pa1 pb1 = v := ⟨_, rfl⟩
    obtain ⟨pa2, hA⟩ : ∃ v, inA 3 s pa1 pb1 = v := ⟨_, rfl⟩
    obtain ⟨pb2, hB⟩ : ∃ v, inB 3 s pa1 pb1 = v := ⟨_, rfl⟩
    rw [hv, hA, hB] at HSIM1
    rw [hA, hB] at HT3
    rw [hA] at HLE2
    rw [hv]
    clear hi ho hv hA hB
    have f0 := HT3.out.rcd.frozen (j := 2) (by simp [Rc.vals])
    have g0 := HT3.out.rcd.cell (j := 2) rfl
    obtain ⟨wt4, hW2⟩ : ∃ v, v = wt3.setCell ⟨w.heap.size + 1 + 1, 2, none⟩ (.int .i64 t2) := ⟨_, rfl⟩
    have HT4 : Hid (rfSt w wt4 (⟨11, ⟨t1, t2, 0⟩, [], [], 0, 0, 0, 0, 0, 0, 0, 0, false⟩ : Rc) s pa2 pb2 lay0) := Lib.hid (by
      rw [hW2]
      exact HT3.out.put (x' := (⟨11, ⟨t1, t2, 0⟩, [], [], 0, 0, 0, 0, 0, 0, 0, 0, false⟩ : Rc)) (Only.of_set wt3 ⟨w.heap.size + 1 + 1, 2, none⟩ _) (HT3.out.rcd.set_ 2 (.int .i64 t2)) rfl rfl)
    go_wp2_with fail
    rw [← hW2]
    clear hW2 f0 g0
    refine (in_any 3 s pa2 pb2 (w.heap.size + 1) wt4 (by decide) HT4.out.inn HLE2.out HSZ.out).mono ?_
    rintro e wt5 ⟨rfl, hi, ho⟩
    have HLE3 := Lib.hid (inA_le 3 s pa2 pb2 HLE2.out)
    have HT5 := Lib.hid (HT4.out.step hi ho)
    obtain ⟨t3, hv⟩ : ∃ v, inV 3 s pa2 pb2 = v := ⟨_, rfl⟩
    obtain ⟨pa3, hA⟩ : ∃ v, inA 3 s pa2 pb2 = v := ⟨_, rfl⟩
    obtain ⟨pb3, hB⟩ : ∃ v, inB 3 s pa2 pb2 = v := ⟨_, rfl⟩
    rw [hv, hA, hB] at HSIM1
    rw [hA, hB] at HT5
    rw [hA] at HLE3
    rw [hv]
    clear hi ho hv hA hB
    have f0 := HT5.out.rcd.frozen (j := 3) (by simp [Rc.vals])
    have g0 := HT5.out.rcd.cell (j := 3) rfl
    obtain ⟨wt6, hW2⟩ : ∃ v, v = wt5.setCell ⟨w.heap.size + 1 + 1, 3, none⟩ (.int .i64 t3) := ⟨_, rfl⟩
    have HT6 : Hid (rfSt w wt6 (⟨11, ⟨t1, t2, t3⟩, [], [], 0, 0, 0, 0, 0, 0, 0, 0, false⟩ : Rc) s pa3 pb3 lay0) := Lib.hid (by
      rw [hW2]
      exact HT5.out.put (x' := (⟨11, ⟨t1, t2, t3⟩, [], [], 0, 0, 0, 0, 0, 0, 0, 0, false⟩ : Rc)) (Only.of_set wt5 ⟨w.heap.size + 1 + 1, 3, none⟩ _) (HT5.out.rcd.set_ 3 (.int .i64 t3)) rfl rfl)
    go_upto_region 14 with (fail)
    rw [← hW2]
    clear hW2 f0 g0
    have c0 := HT6.out.rcd.cell (j := 0) rfl
    have HSIM2 := Lib.hid HSIM1.out.yes
    go_wp2_with fail
    refine (in_any 1 s pa3 pb3 (w.heap.size + 1) wt6 (by decide) HT6.out.inn HLE3.out HSZ.out).mono ?_
    rintro e wt7 ⟨rfl, hi, ho⟩
    have HLE4 := Lib.hid (inA_le 1 s pa3 pb3 HLE3.out)
    have HT7 := Lib.hid (HT6.out.step hi ho)
    obtain ⟨yn, hv⟩ : ∃ v, inV 1 s pa3 pb3 = v := ⟨_, rfl⟩
    obtain ⟨pa4, hA⟩ : ∃ v, inA 1 s pa3 pb3 = v := ⟨_, rfl⟩
    obtain ⟨pb4, hB⟩ : ∃ v, inB 1 s pa3 pb3 = v := ⟨_, rfl⟩
    rw [hv, hA, hB] at HSIM2
    rw [hA, hB] at HT7
    rw [hA] at HLE4
    rw [hv]
    clear hi ho hv hA hB
    obtain ⟨yv, hy⟩ : ∃ v, (yn == 1) = v := ⟨_, rfl⟩
    rw [hy] at HSIM2
    have f0 := HT7.out.rcd.frozen (j := 14) (by simp [Rc.vals])
    have g0 := HT7.out.rcd.cell (j := 14) rfl
    obtain ⟨wt8, hW2⟩ : ∃ v, v = wt7.setCell ⟨w.heap.size + 1 + 1, 14, none⟩ (.bool yv) := ⟨_, rfl⟩
    have HT8 : Hid (rfSt w wt8 (⟨11, ⟨t1, t2, t3⟩, [], [], 0, 0, 0, 0, 0, 0, 0, 0, yv⟩ : Rc) s pa4 pb4 lay0) := Lib.hid (by
      rw [hW2]
      exact HT7.out.put (x' := (⟨11, ⟨t1, t2, t3⟩, [], [], 0, 0, 0, 0, 0, 0, 0, 0, yv⟩ : Rc)) (Only.of_set wt7 ⟨w.heap.size + 1 + 1, 14, none⟩ _) (HT7.out.rcd.set_ 14 (.bool yv)) rfl rfl)
    clear c0
    go_upto_region 38 with (fail)
    rw [← hW2]
    clear hW2 f0 g0 hy
    have HSIM : Hid (Sim s (⟨11, ⟨t1, t2, t3⟩, [], [], 0, 0, 0, 0, 0, 0, 0, 0, yv⟩ : Rc) pa4 pb4 (dec0 s)) := Lib.hid (by rw [HD0.out]; exact HSIM2.out)
    obtain ⟨wy, hwy⟩ : ∃ wy, wy = wt8 := ⟨_, rfl⟩
    subst hwy
    obtain ⟨a, ha⟩ : ∃ a, a = pa4 := ⟨_, rfl⟩
    obtain ⟨b, hb⟩ : ∃ b, b = pb4 := ⟨_, rfl⟩
    subst ha
    subst hb
    have HST := HT8
    clear HT8
    have c0 := HST.out.rcd.cell (j := 0) rfl
    have HLM : Hid (([] : List It).length = 0 ∧ ([] : List Int).length = 0) := Lib.hid ⟨rfl, rfl⟩
    have i1 := HST.out.inn.cell (j := 1) rfl
    have i2 := HST.out.inn.cell (j := 2) rfl
    go_cut [153] from 136 to 153 (FinOut s w (⟨11, ⟨t1, t2, t3⟩, [], [], 0, 0, 0, 0, 0, 0, 0, 0, yv⟩ : Rc) a b lay0)
    case first =>
      cases b with
      | true =>
        have HNO := Lib.hid (HSIM.out.fin.1 rfl)
        go_wp2_with fail
        go_meet
        exact ⟨true, rfl, HST.out, fun _ => HNO.out, fun h => by cases h⟩
      | false =>
        by_cases ha : a = s.size
        · subst ha
          have HF3 := Lib.hid (HSIM.out.fin.2.2 rfl rfl)
          have hcq : Cells wy (w.heap.size + 1 + 1) 39 [.int .i64 11, .int .i64 t1, .int .i64 t2, .int .i64 t3, .slice none 0 0, .slice none 0 0, .int .i64 0, .int .i64 0, .int .i64 0, .int .i64 0, .int .i64 0, .int .i64 0, .int .i64 0, .int .i64 0, .bool yv] := by
            have hq := HST.out.rcd
            have hlm := HLM.out
            unfold Rc.vals at hq
            simp only [hlm.1, hlm.2] at hq
            exact hq
          have q0 := hcq.cell (j := 0) rfl
          have q1 := hcq.cell (j := 1) rfl
          have q2 := hcq.cell (j := 2) rfl
          have q3 := hcq.cell (j := 3) rfl
          have q4 := hcq.cell (j := 4) rfl
          have q5 := hcq.cell (j := 5) rfl
          have q6 := hcq.cell (j := 6) rfl
          have q7 := hcq.cell (j := 7) rfl
          have q8 := hcq.cell (j := 8) rfl
          have q9 := hcq.cell (j := 9) rfl
          have q10 := hcq.cell (j := 10) rfl
          have q11 := hcq.cell (j := 11) rfl
          have q12 := hcq.cell (j := 12) rfl
          have q13 := hcq.cell (j := 13) rfl
          have q14 := hcq.cell (j := 14) rfl
          have HRR := Lib.hid (refRight_any (⟨11, ⟨t1, t2, t3⟩, [], [], 0, 0, 0, 0, 0, 0, 0, 0, yv⟩ : Rc) lay0 wy HST.out.has (Nat.le_trans HF3.out.2.1.items (by decide)) (Nat.le_trans HF3.out.2.1.nodes (by decide)))
          rw [refRight_eq _ HF3.out.1] at HRR
          have HF4 := Lib.hid HF3.out.2.2
          obtain ⟨rt, hrt⟩ : ∃ rt, right (⟨11, ⟨t1, t2, t3⟩, [], [], 0, 0, 0, 0, 0, 0, 0, 0, yv⟩ : Rc) = rt := ⟨_, rfl⟩
          rw [hrt] at HRR HF4
          clear hrt HF3 hcq
          have hlm := HLM.out
          unfold Rc.val at HRR
          simp only [hlm.1, hlm.2] at HRR
          clear hlm
          go_wp2_with fail
          refine HRR.out.mono ?_
          rintro e wz ⟨rfl, hbz⟩
          have HEND := Lib.hid (HST.out.later hbz)
          clear hbz
          go_wp2_with fail
          go_meet
          exact ⟨!rt, rfl, HEND.out, fun h => by rw [HF4.out, if_neg (by intro h2; rw [h2] at h; cases h)], fun h => by rw [HF4.out, if_pos (by simpa using h)]⟩
        · have HNO := Lib.hid (HSIM.out.fin.2.1 rfl ha)
          have e1 : ((a : Int) == (s.size : Int)) = false := by simp; omega
          have e2 : ((a : Int) != (s.size : Int)) = true := by simp; omega
          clear ha
          go_wp2_with fail
          go_meet
          exact ⟨true, rfl, HST.out, fun _ => HNO.out, fun h => by cases h⟩
    case rest =>
      obtain ⟨o, rfl, hst, hno, hyes⟩ := hcut
      obtain ⟨wz, hwz⟩ : ∃ wz, wz = wc := ⟨_, rfl⟩
      rw [← hwz] at hst ⊢
      have HEND := Lib.hid hst
      have HNY := Lib.hid (And.intro hno hyes)
      clear hst hno hyes hwz i1 i2
      cases o with
      | true =>
        have HNO := Lib.hid (HFIN0.out.1 (HNY.out.1 rfl))
        go_upto_region 39 with (fail)
        apply wp_region_lit
        refine wpList_buildTo rfl 39 _ rfl (some 154) rfl #[.int .i64 0, .int .i64 0, .int .i64 0, .int .i64 0, .slice none 0 0, .slice none 0 0, .int .i64 0, .int .i64 0, .int .i64 0, .int .i64 0, .int .i64 0, .int .i64 0, .int .i64 0, .int .i64 0, .bool false] (by kernel_rfl) ?_
        refine wpList_store_cells rfl 39 _ _ rfl w.heap.size #[.int .i64 0, .int .i64 0, .int .i64 0, .int .i64 0, .slice none 0 0, .slice none 0 0, .int .i64 0, .int .i64 0, .int .i64 0, .int .i64 0, .int .i64 0, .int .i64 0, .int .i64 0, .int .i64 0, .bool false] [.int .i64 0, .int .i64 0, .int .i64 0, .int .i64 0, .slice none 0 0, .slice none 0 0, .int .i64 0, .int .i64 0, .int .i64 0, .int .i64 0, .int .i64 0, .int .i64 0, .int .i64 0, .int .i64 0, .bool false] rfl rfl rfl HEND.out.res rfl (by kernel_rfl) (by kernel_rfl) fun wv hpt hov => ?_
        have HPT := Lib.hid hpt
        have HO := Lib.hid (HEND.out.ended hov)
        clear hpt hov
        go_wp2_with fail
        refine bodyPost_ret (v := .tuple #[.agg #[.int .i64 0, .int .i64 0, .int .i64 0, .int .i64 0, .slice none 0 0, .slice none 0 0, .int .i64 0, .int .i64 0, .int .i64 0, .int .i64 0, .int .i64 0, .int .i64 0, .int .i64 0, .int .i64 0, .bool false], .bool false]) ?_ rfl ?_
        · exact (ret_cell_tmp (p := 2) (q := 3) (ty := 39) (by rfl) _ HPT.out _ (by rfl) Try.underlying39 rfl (by kernel_rfl)).trans (by rfl)
        · exact ⟨⟨lay0, by rw [HNO.out.1, HNO.out.2]; rfl, by rw [HNO.out.1]; exact has0 _⟩, HO.out.2⟩
      | false =>
        have HNO := Lib.hid (HFIN0.out.2 _ (HNY.out.2 rfl))
        have hcq : Cells wz (w.heap.size + 1 + 1) 39 [.int .i64 11, .int .i64 t1, .int .i64 t2, .int .i64 t3, .slice none 0 0, .slice none 0 0, .int .i64 0, .int .i64 0, .int .i64 0, .int .i64 0, .int .i64 0, .int .i64 0, .int .i64 0, .int .i64 0, .bool yv] := by
          have hq := HEND.out.rcd
          have hlm := HLM.out
          unfold Rc.vals at hq
          simp only [hlm.1, hlm.2] at hq
          exact hq
        have HCQ := Lib.hid hcq
        clear hcq
        go_upto_region 40 with (fail)
        apply wp_region_lit
        refine wpList_load_cells rfl 39 _ rfl (w.heap.size + 1 + 1) #[.int .i64 11, .int .i64 t1, .int .i64 t2, .int .i64 t3, .slice none 0 0, .slice none 0 0, .int .i64 0, .int .i64 0, .int .i64 0, .int .i64 0, .int .i64 0, .int .i64 0, .int .i64 0, .int .i64 0, .bool yv] rfl rfl HCQ.out Try.underlying39 rfl (by kernel_rfl) ?_
        refine wpList_store_cells rfl 39 _ _ rfl w.heap.size #[.int .i64 11, .int .i64 t1, .int .i64 t2, .int .i64 t3, .slice none 0 0, .slice none 0 0, .int .i64 0, .int .i64 0, .int .i64 0, .int .i64 0, .int .i64 0, .int .i64 0, .int .i64 0, .int .i64 0, .bool yv] [.int .i64 11, .int .i64 t1, .int .i64 t2, .int .i64 t3, .slice none 0 0, .slice none 0 0, .int .i64 0, .int .i64 0, .int .i64 0, .int .i64 0, .int .i64 0, .int .i64 0, .int .i64 0, .int .i64 0, .bool yv] rfl rfl rfl HEND.out.res rfl (by kernel_rfl) (by kernel_rfl) fun wv hpt hov => ?_
        have HPT := Lib.hid hpt
        have HO := Lib.hid (HEND.out.ended hov)
        clear hpt hov
        go_wp2_with fail
        refine bodyPost_ret (v := .tuple #[.agg #[.int .i64 11, .int .i64 t1, .int .i64 t2, .int .i64 t3, .slice none 0 0, .slice none 0 0, .int .i64 0, .int .i64 0, .int .i64 0, .int .i64 0, .int .i64 0, .int .i64 0, .int .i64 0, .int .i64 0, .bool yv], .bool true]) ?_ rfl ?_
        · exact (ret_cell_tmp (p := 2) (q := 3) (ty := 39) (by rfl) _ HPT.out _ (by rfl) Try.underlying39 rfl (by kernel_rfl)).trans (by rfl)
        · exact ⟨⟨lay0, by rw [HNO.out.1, HNO.out.2]; unfold Rc.val; simp only [HLM.out.1, HLM.out.2, lay0], by rw [HNO.out.1]; exact HO.out.1⟩, HO.out.2⟩
end Go.Proofs.Ytdmekfeggdodnaa.Rec
