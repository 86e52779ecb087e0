/-
  Layer 7: the document reads a record: one kind. Conditions: none.
-/
import Derived.Test.YtdmekfeggdodnaaRecRd5
namespace Go.Proofs.Ytdmekfeggdodnaa.Rec
set_option maxRecDepth 100000
open Go.RowKit Go.Proofs.Ytdmekfeggdodnaa.Mem Go.Proofs.Ytdmekfeggdodnaa.Item Go.Proofs.Ytdmekfeggdodnaa.Wire

set_option maxHeartbeats 4000000 in
theorem refRead4 (s : ByteArray) (w : World) (hs : s.size ≤ 1000000) (hkn : ((Wire.num s 1 : Nat) : Int) = 4) :
    Calls Try.prog 17 #[.string s] w fun e w' => (∃ y, e = .returned (.tuple #[(decR s).val y, .bool (dec s).isSome]) ∧ Has w' (decR s) y) ∧ Below w.heap.size w w' := by
  have HSIM0 : Hid (Sim s (rcK 4) (inA 0 s 0 false) (inB 0 s 0 false) (rcK 4, rest s 1, brk s false 1)) := Lib.hid (by have := sim_start s; rw [hkn] at this; exact this)
  have HD0 : Hid (dec0 s = foldF (fl 4) (rcK 4, rest s 1, brk s false 1)) := Lib.hid (by unfold dec0; rw [hkn])
  have HKV : Hid (inV 0 s 0 false = 4) := Lib.hid ((sim_kind s).1.trans hkn)
  have HSZ := Lib.hid hs
  clear hkn hs
  have HFIN0 : Hid ((dec s = none → decR s = rc0 ∧ (dec s).isSome = false) ∧ ∀ x, dec s = some x → decR s = x ∧ (dec s).isSome = true) := Lib.hid (by
    unfold decR
    exact ⟨fun h => by rw [h]; exact ⟨rfl, rfl⟩, fun x h => by rw [h]; exact ⟨rfl, rfl⟩⟩)
  obtain ⟨R, hR⟩ : ∃ R, decR s = R := ⟨_, rfl⟩
  obtain ⟨D, hD⟩ : ∃ D, (dec s).isSome = D := ⟨_, rfl⟩
  rw [hR, hD] at HFIN0
  rw [hR, hD]
  clear hR hD
  obtain ⟨w3, hw3⟩ : ∃ w3, w3 = ((w.alloc (.cells #[.int .i64 0, .int .i64 0, .int .i64 0, .int .i64 0, .slice none 0 0, .slice none 0 0, .int .i64 0, .int .i64 0, .int .i64 0, .int .i64 0, .int .i64 0, .int .i64 0, .int .i64 0, .int .i64 0, .bool false] 39)).alloc (.cells #[.string s, .int .i64 0, .bool false] 111)).alloc (.cells #[.int .i64 0, .int .i64 0, .int .i64 0, .int .i64 0, .slice none 0 0, .slice none 0 0, .int .i64 0, .int .i64 0, .int .i64 0, .int .i64 0, .int .i64 0, .int .i64 0, .int .i64 0, .int .i64 0, .bool false] 39) := ⟨_, rfl⟩
  have HST : Hid (rfSt w w3 rc0 s 0 false lay0) := Lib.hid (by
    rw [hw3]
    have q1 := cells_new w 39 zeroC #[.int .i64 0, .int .i64 0, .int .i64 0, .int .i64 0, .slice none 0 0, .slice none 0 0, .int .i64 0, .int .i64 0, .int .i64 0, .int .i64 0, .int .i64 0, .int .i64 0, .int .i64 0, .int .i64 0, .bool false] rfl
    have q2 := cells_new (w.alloc (.cells #[.int .i64 0, .int .i64 0, .int .i64 0, .int .i64 0, .slice none 0 0, .slice none 0 0, .int .i64 0, .int .i64 0, .int .i64 0, .int .i64 0, .int .i64 0, .int .i64 0, .int .i64 0, .int .i64 0, .bool false] 39)) 111 _ #[.string s, .int .i64 0, .bool false] rfl
    have q3 := cells_new ((w.alloc (.cells #[.int .i64 0, .int .i64 0, .int .i64 0, .int .i64 0, .slice none 0 0, .slice none 0 0, .int .i64 0, .int .i64 0, .int .i64 0, .int .i64 0, .int .i64 0, .int .i64 0, .int .i64 0, .int .i64 0, .bool false] 39)).alloc (.cells #[.string s, .int .i64 0, .bool false] 111)) 39 (rc0.vals lay0) #[.int .i64 0, .int .i64 0, .int .i64 0, .int .i64 0, .slice none 0 0, .slice none 0 0, .int .i64 0, .int .i64 0, .int .i64 0, .int .i64 0, .int .i64 0, .int .i64 0, .int .i64 0, .int .i64 0, .bool false] rfl
    rw [World.size_alloc] at q2
    rw [World.size_alloc, World.size_alloc] at q3
    exact ⟨q2.later (below_alloc _ _), Go.Joins.below_alloc3 _ _ _ _, by simp, q3, (q1.later (below_alloc _ _)).later (below_alloc _ _), World.ownsRow_nil _ _ _ _, World.ownsRow_nil _ _ _ _, fun i hi => by cases hi⟩)
  go_enter Try.func17, Try.ntmps17
  go_wp2_with fail
  rw [← hw3]
  clear hw3
  refine (in_any 0 s 0 false (w.heap.size + 1) w3 (by decide) HST.out.inn (Nat.zero_le _) HSZ.out).mono ?_
  rintro e wa ⟨rfl, hia, hoa⟩
  have h1 := HST.out.step hia hoa
  have HS1 := Lib.hid h1
  rw [HKV.out]
  obtain ⟨pa, ha1⟩ : ∃ pa, inA 0 s 0 false = pa := ⟨_, rfl⟩
  obtain ⟨pb, hb1⟩ : ∃ pb, inB 0 s 0 false = pb := ⟨_, rfl⟩
  rw [ha1, hb1] at HS1 HSIM0
  have c0 := h1.rcd.cell (j := 0) rfl
  have f0 := h1.rcd.frozen (j := 0) (by simp [Rc.vals])
  obtain ⟨wb, hwb⟩ : ∃ wb, wb = wa.setCell ⟨w.heap.size + 1 + 1, 0, none⟩ (.int .i64 4) := ⟨_, rfl⟩
  have HS2 : Hid (rfSt w wb (rcK 4) s pa pb lay0) := Lib.hid (by
    rw [hwb]
    exact HS1.out.put (x' := rcK 4) (Only.of_set wa ⟨w.heap.size + 1 + 1, 0, none⟩ _) (HS1.out.rcd.set_ 0 (.int .i64 4)) rfl rfl)
  clear h1 hia hoa ha1 hb1
  go_wp2_with fail
  rw [← hwb]
  clear hwb c0 f0
  refine (refFields_all 4 wb).mono ?_
  rintro e wc ⟨FA, fc, rfl, hnu, hnew, hbc⟩
  have HS3 := Lib.hid (HS2.out.later hbc)
  have HNU := Lib.hid hnu
  have HFR : Hid (∀ b off, FA = some ⟨b, off, none⟩ → w.heap.size + 3 ≤ b) := Lib.hid (fun b off e => Nat.le_trans HS2.out.low (hnew b off e))
  clear hnu hnew hbc
  have HSIM1 := Lib.hid HSIM0.out.tid
  unfold tidD a3 c3 at HSIM1
  have HLE := Lib.hid HSIM0.out.pos.le
  rw [rl_nil 4 (by decide)] at HNU ⊢
  simp only [List.length_nil]
  go_wp2_with fail
  go_loopw [7, 8] (fun i _ wr => i = .int .i64 0 ∧ wc = wr) (fun _ _ _ => 0)
  case atStart => exact ⟨rfl, rfl⟩
  case round =>
    obtain ⟨rfl, rfl⟩ := hrel
    have c0 := HS3.out.rcd.cell (j := 0) rfl
    go_wp2_with fail
    refine (refNamed_any 4 wc).mono ?_
    rintro e w' ⟨rfl, rfl⟩
    rw [show named 4 = true from rfl]
    clear c0
    go_wp2_with fail
    refine (in_any 3 s pa pb (w.heap.size + 1) wc (by decide) HS3.out.inn HLE.out HSZ.out).mono ?_
    rintro e wt1 ⟨rfl, hi, ho⟩
    have HLE1 := Lib.hid (inA_le 3 s pa pb HLE.out)
    have HT1 := Lib.hid (HS3.out.step hi ho)
    obtain ⟨t1, hv⟩ : ∃ v, inV 3 s pa pb = v := ⟨_, rfl⟩
    obtain ⟨pa1, hA⟩ : ∃ v, inA 3 s pa pb = v := ⟨_, rfl⟩
    obtain ⟨pb1, hB⟩ : ∃ v, inB 3 s pa pb = v := ⟨_, rfl⟩
    rw [hv, hA, hB] at HSIM1
    rw [hA, hB] at HT1
    rw [hA] at HLE1
    rw [hv]
    clear hi ho hv hA hB
    have f0 := HT1.out.rcd.frozen (j := 1) (by simp [Rc.vals])
    have g0 := HT1.out.rcd.cell (j := 1) rfl
    obtain ⟨wt2, hW2⟩ : ∃ v, v = wt1.setCell ⟨w.heap.size + 1 + 1, 1, none⟩ (.int .i64 t1) := ⟨_, rfl⟩
    have HT2 : Hid (rfSt w wt2 (⟨4, ⟨t1, 0, 0⟩, [], [], 0, 0, 0, 0, 0, 0, 0, 0, false⟩ : Rc) s pa1 pb1 lay0) := Lib.hid (by
      rw [hW2]
      exact HT1.out.put (x' := (⟨4, ⟨t1, 0, 0⟩, [], [], 0, 0, 0, 0, 0, 0, 0, 0, false⟩ : Rc)) (Only.of_set wt1 ⟨w.heap.size + 1 + 1, 1, none⟩ _) (HT1.out.rcd.set_ 1 (.int .i64 t1)) rfl rfl)
    go_wp2_with fail
    rw [← hW2]
    clear hW2 f0 g0
    refine (in_any 3 s pa1 pb1 (w.heap.size + 1) wt2 (by decide) HT2.out.inn HLE1.out HSZ.out).mono ?_
    rintro e wt3 ⟨rfl, hi, ho⟩
    have HLE2 := Lib.hid (inA_le 3 s pa1 pb1 HLE1.out)
    have HT3 := Lib.hid (HT2.out.step hi ho)
    obtain ⟨t2, hv⟩ : ∃ v, inV 3 s pa1 pb1 = v := ⟨_, rfl⟩
    obtain ⟨pa2, hA⟩ : ∃ v, inA 3 s pa1 pb1 = v := ⟨_, rfl⟩
    obtain ⟨pb2, hB⟩ : ∃ v, inB 3 s pa1 pb1 = v := ⟨_, rfl⟩
    rw [hv, hA, hB] at HSIM1
    rw [hA, hB] at HT3
    rw [hA] at HLE2
    rw [hv]
    clear hi ho hv hA hB
    have f0 := HT3.out.rcd.frozen (j := 2) (by simp [Rc.vals])
    have g0 := HT3.out.rcd.cell (j := 2) rfl
    obtain ⟨wt4, hW2⟩ : ∃ v, v = wt3.setCell ⟨w.heap.size + 1 + 1, 2, none⟩ (.int .i64 t2) := ⟨_, rfl⟩
    have HT4 : Hid (rfSt w wt4 (⟨4, ⟨t1, t2, 0⟩, [], [], 0, 0, 0, 0, 0, 0, 0, 0, false⟩ : Rc) s pa2 pb2 lay0) := Lib.hid (by
      rw [hW2]
      exact HT3.out.put (x' := (⟨4, ⟨t1, t2, 0⟩, [], [], 0, 0, 0, 0, 0, 0, 0, 0, false⟩ : Rc)) (Only.of_set wt3 ⟨w.heap.size + 1 + 1, 2, none⟩ _) (HT3.out.rcd.set_ 2 (.int .i64 t2)) rfl rfl)
    go_wp2_with fail
    rw [← hW2]
    clear hW2 f0 g0
    refine (in_any 3 s pa2 pb2 (w.heap.size + 1) wt4 (by decide) HT4.out.inn HLE2.out HSZ.out).mono ?_
    rintro e wt5 ⟨rfl, hi, ho⟩
    have HLE3 := Lib.hid (inA_le 3 s pa2 pb2 HLE2.out)
    have HT5 := Lib.hid (HT4.out.step hi ho)
    obtain ⟨t3, hv⟩ : ∃ v, inV 3 s pa2 pb2 = v := ⟨_, rfl⟩
    obtain ⟨pa3, hA⟩ : ∃ v, inA 3 s pa2 pb2 = v := ⟨_, rfl⟩
    obtain ⟨pb3, hB⟩ : ∃ v, inB 3 s pa2 pb2 = v := ⟨_, rfl⟩
    rw [hv, hA, hB] at HSIM1
    rw [hA, hB] at HT5
    rw [hA] at HLE3
    rw [hv]
    clear hi ho hv hA hB
    have f0 := HT5.out.rcd.frozen (j := 3) (by simp [Rc.vals])
    have g0 := HT5.out.rcd.cell (j := 3) rfl
    obtain ⟨wt6, hW2⟩ : ∃ v, v = wt5.setCell ⟨w.heap.size + 1 + 1, 3, none⟩ (.int .i64 t3) := ⟨_, rfl⟩
    have HT6 : Hid (rfSt w wt6 (⟨4, ⟨t1, t2, t3⟩, [], [], 0, 0, 0, 0, 0, 0, 0, 0, false⟩ : Rc) s pa3 pb3 lay0) := Lib.hid (by
      rw [hW2]
      exact HT5.out.put (x' := (⟨4, ⟨t1, t2, t3⟩, [], [], 0, 0, 0, 0, 0, 0, 0, 0, false⟩ : Rc)) (Only.of_set wt5 ⟨w.heap.size + 1 + 1, 3, none⟩ _) (HT5.out.rcd.set_ 3 (.int .i64 t3)) rfl rfl)
    go_upto_region 14 with (fail)
    rw [← hW2]
    clear hW2 f0 g0
    have c0 := HT6.out.rcd.cell (j := 0) rfl
    go_wp2_with fail
    refine (in_any 2 s pa3 pb3 (w.heap.size + 1) wt6 (by decide) HT6.out.inn HLE3.out HSZ.out).mono ?_
    rintro e wc1 ⟨rfl, hi, ho⟩
    have HC1 := Lib.hid (HT6.out.step hi ho)
    have HLE4 := Lib.hid (inA_le 2 s pa3 pb3 HLE3.out)
    rw [cnt_eq s pa3 pb3]
    have HSN := Lib.hid (fun h => HSIM1.out.items h)
    have HSNO := Lib.hid (fun h => HSIM1.out.items_no h)
    obtain ⟨N, hN⟩ : ∃ N, cnt s pa3 pb3 = N := ⟨_, rfl⟩
    obtain ⟨qa, hA⟩ : ∃ v, inA 2 s pa3 pb3 = v := ⟨_, rfl⟩
    obtain ⟨qb, hB⟩ : ∃ v, inB 2 s pa3 pb3 = v := ⟨_, rfl⟩
    rw [hN, hA, hB] at HSN
    rw [hN] at HSNO
    rw [hA, hB] at HC1
    rw [hA] at HLE4
    rw [hN]
    clear hi ho hN hA hB c0 HT6
    by_cases h16 : N ≤ 16
    · have HSIM2 := Lib.hid (HSN.out h16)
      have h17 : ¬ 16 < N := by omega
      clear HSN HSNO
      go_wp2_with fail
      go_loopw [10, 11] (fun i _ wr => ∃ (k : Nat) (A : Option Addr) (c : Nat), k ≤ N ∧ i = .int .i64 (k : Int) ∧ rfSt w wr (⟨4, ⟨t1, t2, t3⟩, (itsA s k qa qb).2.2, [], 0, 0, 0, 0, 0, 0, 0, 0, false⟩ : Rc) s (itsA s k qa qb).1 (itsA s k qa qb).2.1 ⟨A, c, none, 0⟩) (fun i _ _ => N - (intOf i).toNat)
      case atStart => exact ⟨0, none, 0, Nat.zero_le _, rfl, HC1.out⟩
      case round =>
        obtain ⟨k, A, c, hk, rfl, hst⟩ := hrel
        by_cases hlt : k < N
        · have HK : Hid (itsA s (k + 1) qa qb = (itA s (itsA s k qa qb).1 (itsA s k qa qb).2.1, itC s (itsA s k qa qb).1 (itsA s k qa qb).2.1, (itsA s k qa qb).2.2 ++ [itD s (itsA s k qa qb).1 (itsA s k qa qb).2.1])) := Lib.hid rfl
          have HIL0 := Lib.hid (itsA_le s k (b := qb) HLE4.out)
          have HLL := Lib.hid (itsA_length s k qa qb)
          obtain ⟨t, ht⟩ : ∃ t, itsA s k qa qb = t := ⟨_, rfl⟩
          rw [ht] at hst HK HIL0 HLL
          obtain ⟨a, b, Ls⟩ := t
          simp only at hst HK HIL0 HLL
          have HST1 := HK
          unfold itA itC itD a3 c3 at HST1
          have HST := Lib.hid hst
          have HNE : Hid (¬ wr.heap.size = w.heap.size + 1) := Lib.hid (by have := hst.low; omega)
          obtain ⟨wi0, hwi⟩ : ∃ v, v = wr.alloc (.cells #[.int .i64 0, .int .i64 0, .int .i64 0, .bool false, .int .i64 0] 29) := ⟨_, rfl⟩
          have HIN0 : Hid (In wi0 (w.heap.size + 1) s a b) := Lib.hid (by rw [hwi]; exact Cells.later hst.inn (below_alloc _ _))
          have HCI0 : Hid (Cells wi0 wr.heap.size 29 [.int .i64 0, .int .i64 0, .int .i64 0, .bool false, .int .i64 0]) := Lib.hid (by rw [hwi]; exact cells_new wr _ _ _ rfl)
          have HON0 : Hid (Only (fun k => k = w.heap.size + 1 ∨ wr.heap.size ≤ k) wr wi0) := Lib.hid (by rw [hwi]; exact Only.of_below (below_alloc _ _))
          clear hst ht HK
          go_wp2_with fail
          rw [← hwi]
          clear hwi
          refine (in_any 3 s a b (w.heap.size + 1) wi0 (by decide) HIN0.out HIL0.out HSZ.out).mono ?_
          rintro e wi1 ⟨rfl, hi, ho⟩
          have HIL1 := Lib.hid (inA_le 3 s a b HIL0.out)
          obtain ⟨v1, hv⟩ : ∃ v, inV 3 s a b = v := ⟨_, rfl⟩
          obtain ⟨a1, hA⟩ : ∃ v, inA 3 s a b = v := ⟨_, rfl⟩
          obtain ⟨b1, hB⟩ : ∃ v, inB 3 s a b = v := ⟨_, rfl⟩
          rw [hv, hA, hB] at HST1
          rw [hA] at HIL1
          rw [hA, hB] at hi
          rw [hv]
          have HIJ := Lib.hid hi
          have HOJ := Lib.hid ho
          have HCJ : Hid (Cells wi1 wr.heap.size 29 [.int .i64 0, .int .i64 0, .int .i64 0, .bool false, .int .i64 0]) := Lib.hid (cells_only HCI0.out ho HNE.out)
          have f0 := HCJ.out.frozen (j := 0) (by simp)
          have g0 := HCJ.out.cell (j := 0) rfl
          clear hi ho hv hA hB
          obtain ⟨wi2, hW2⟩ : ∃ v, v = wi1.setCell ⟨wr.heap.size, 0, none⟩ (.int .i64 v1) := ⟨_, rfl⟩
          have HIN1 : Hid (In wi2 (w.heap.size + 1) s a1 b1) := Lib.hid (by rw [hW2]; exact Cells.far HIJ.out (fun e => HNE.out e.symm) _)
          have HCI1 : Hid (Cells wi2 wr.heap.size 29 [.int .i64 v1, .int .i64 0, .int .i64 0, .bool false, .int .i64 0]) := Lib.hid (by rw [hW2]; exact HCJ.out.set_ 0 (.int .i64 v1))
          have HON1 : Hid (Only (fun k => k = w.heap.size + 1 ∨ wr.heap.size ≤ k) wr wi2) := Lib.hid (by
            rw [hW2]
            exact (HON0.out.trans HOJ.out fun _ _ e => Or.inl e).trans (Only.of_set wi1 ⟨wr.heap.size, 0, none⟩ _) fun k _ e => Or.inr (by rw [show k = wr.heap.size from e]; exact Nat.le_refl _))
          clear HIJ HOJ HCJ HIN0 HCI0 HON0 HIL0
          go_wp2_with fail
          rw [← hW2]
          clear hW2 f0 g0
          refine (in_any 3 s a1 b1 (w.heap.size + 1) wi2 (by decide) HIN1.out HIL1.out HSZ.out).mono ?_
          rintro e wi3 ⟨rfl, hi, ho⟩
          have HIL2 := Lib.hid (inA_le 3 s a1 b1 HIL1.out)
          obtain ⟨v2, hv⟩ : ∃ v, inV 3 s a1 b1 = v := ⟨_, rfl⟩
          obtain ⟨a2, hA⟩ : ∃ v, inA 3 s a1 b1 = v := ⟨_, rfl⟩
          obtain ⟨b2, hB⟩ : ∃ v, inB 3 s a1 b1 = v := ⟨_, rfl⟩
          rw [hv, hA, hB] at HST1
          rw [hA] at HIL2
          rw [hA, hB] at hi
          rw [hv]
          have HIJ := Lib.hid hi
          have HOJ := Lib.hid ho
          have HCJ : Hid (Cells wi3 wr.heap.size 29 [.int .i64 v1, .int .i64 0, .int .i64 0, .bool false, .int .i64 0]) := Lib.hid (cells_only HCI1.out ho HNE.out)
          have f0 := HCJ.out.frozen (j := 1) (by simp)
          have g0 := HCJ.out.cell (j := 1) rfl
          clear hi ho hv hA hB
          obtain ⟨wi4, hW2⟩ : ∃ v, v = wi3.setCell ⟨wr.heap.size, 1, none⟩ (.int .i64 v2) := ⟨_, rfl⟩
          have HIN2 : Hid (In wi4 (w.heap.size + 1) s a2 b2) := Lib.hid (by rw [hW2]; exact Cells.far HIJ.out (fun e => HNE.out e.symm) _)
          have HCI2 : Hid (Cells wi4 wr.heap.size 29 [.int .i64 v1, .int .i64 v2, .int .i64 0, .bool false, .int .i64 0]) := Lib.hid (by rw [hW2]; exact HCJ.out.set_ 1 (.int .i64 v2))
          have HON2 : Hid (Only (fun k => k = w.heap.size + 1 ∨ wr.heap.size ≤ k) wr wi4) := Lib.hid (by
            rw [hW2]
            exact (HON1.out.trans HOJ.out fun _ _ e => Or.inl e).trans (Only.of_set wi3 ⟨wr.heap.size, 1, none⟩ _) fun k _ e => Or.inr (by rw [show k = wr.heap.size from e]; exact Nat.le_refl _))
          clear HIJ HOJ HCJ HIN1 HCI1 HON1 HIL1
          go_wp2_with fail
          rw [← hW2]
          clear hW2 f0 g0
          refine (in_any 3 s a2 b2 (w.heap.size + 1) wi4 (by decide) HIN2.out HIL2.out HSZ.out).mono ?_
          rintro e wi5 ⟨rfl, hi, ho⟩
          have HIL3 := Lib.hid (inA_le 3 s a2 b2 HIL2.out)
          obtain ⟨v3, hv⟩ : ∃ v, inV 3 s a2 b2 = v := ⟨_, rfl⟩
          obtain ⟨a3, hA⟩ : ∃ v, inA 3 s a2 b2 = v := ⟨_, rfl⟩
          obtain ⟨b3, hB⟩ : ∃ v, inB 3 s a2 b2 = v := ⟨_, rfl⟩
          rw [hv, hA, hB] at HST1
          rw [hA] at HIL3
          rw [hA, hB] at hi
          rw [hv]
          have HIJ := Lib.hid hi
          have HOJ := Lib.hid ho
          have HCJ : Hid (Cells wi5 wr.heap.size 29 [.int .i64 v1, .int .i64 v2, .int .i64 0, .bool false, .int .i64 0]) := Lib.hid (cells_only HCI2.out ho HNE.out)
          have f0 := HCJ.out.frozen (j := 2) (by simp)
          have g0 := HCJ.out.cell (j := 2) rfl
          clear hi ho hv hA hB
          obtain ⟨wi6, hW2⟩ : ∃ v, v = wi5.setCell ⟨wr.heap.size, 2, none⟩ (.int .i64 v3) := ⟨_, rfl⟩
          have HIN3 : Hid (In wi6 (w.heap.size + 1) s a3 b3) := Lib.hid (by rw [hW2]; exact Cells.far HIJ.out (fun e => HNE.out e.symm) _)
          have HCI3 : Hid (Cells wi6 wr.heap.size 29 [.int .i64 v1, .int .i64 v2, .int .i64 v3, .bool false, .int .i64 0]) := Lib.hid (by rw [hW2]; exact HCJ.out.set_ 2 (.int .i64 v3))
          have HON3 : Hid (Only (fun k => k = w.heap.size + 1 ∨ wr.heap.size ≤ k) wr wi6) := Lib.hid (by
            rw [hW2]
            exact (HON2.out.trans HOJ.out fun _ _ e => Or.inl e).trans (Only.of_set wi5 ⟨wr.heap.size, 2, none⟩ _) fun k _ e => Or.inr (by rw [show k = wr.heap.size from e]; exact Nat.le_refl _))
          clear HIJ HOJ HCJ HIN2 HCI2 HON2 HIL2
          go_wp2_with fail
          rw [← hW2]
          clear hW2 f0 g0
          refine (in_any 1 s a3 b3 (w.heap.size + 1) wi6 (by decide) HIN3.out HIL3.out HSZ.out).mono ?_
          rintro e wi7 ⟨rfl, hi, ho⟩
          have HIL4 := Lib.hid (inA_le 1 s a3 b3 HIL3.out)
          obtain ⟨vn, hv⟩ : ∃ v, inV 1 s a3 b3 = v := ⟨_, rfl⟩
          obtain ⟨a4, hA⟩ : ∃ v, inA 1 s a3 b3 = v := ⟨_, rfl⟩
          obtain ⟨b4, hB⟩ : ∃ v, inB 1 s a3 b3 = v := ⟨_, rfl⟩
          rw [hv, hA, hB] at HST1
          rw [hA] at HIL4
          rw [hA, hB] at hi
          rw [hv]
          obtain ⟨v4, hy⟩ : ∃ v, (vn == 1) = v := ⟨_, rfl⟩
          rw [hy] at HST1
          have HIJ := Lib.hid hi
          have HOJ := Lib.hid ho
          have HCJ : Hid (Cells wi7 wr.heap.size 29 [.int .i64 v1, .int .i64 v2, .int .i64 v3, .bool false, .int .i64 0]) := Lib.hid (cells_only HCI3.out ho HNE.out)
          have f0 := HCJ.out.frozen (j := 3) (by simp)
          have g0 := HCJ.out.cell (j := 3) rfl
          clear hi ho hv hA hB
          obtain ⟨wi8, hW2⟩ : ∃ v, v = wi7.setCell ⟨wr.heap.size, 3, none⟩ (.bool v4) := ⟨_, rfl⟩
          have HIN4 : Hid (In wi8 (w.heap.size + 1) s a4 b4) := Lib.hid (by rw [hW2]; exact Cells.far HIJ.out (fun e => HNE.out e.symm) _)
          have HCI4 : Hid (Cells wi8 wr.heap.size 29 [.int .i64 v1, .int .i64 v2, .int .i64 v3, .bool v4, .int .i64 0]) := Lib.hid (by rw [hW2]; exact HCJ.out.set_ 3 (.bool v4))
          have HON4 : Hid (Only (fun k => k = w.heap.size + 1 ∨ wr.heap.size ≤ k) wr wi8) := Lib.hid (by
            rw [hW2]
            exact (HON3.out.trans HOJ.out fun _ _ e => Or.inl e).trans (Only.of_set wi7 ⟨wr.heap.size, 3, none⟩ _) fun k _ e => Or.inr (by rw [show k = wr.heap.size from e]; exact Nat.le_refl _))
          clear HIJ HOJ HCJ HIN3 HCI3 HON3 HIL3
          go_wp2_with fail
          rw [← hW2]
          clear hW2 f0 g0 hy
          refine (in_any 3 s a4 b4 (w.heap.size + 1) wi8 (by decide) HIN4.out HIL4.out HSZ.out).mono ?_
          rintro e wi9 ⟨rfl, hi, ho⟩
          have HIL5 := Lib.hid (inA_le 3 s a4 b4 HIL4.out)
          obtain ⟨v5, hv⟩ : ∃ v, inV 3 s a4 b4 = v := ⟨_, rfl⟩
          obtain ⟨a5, hA⟩ : ∃ v, inA 3 s a4 b4 = v := ⟨_, rfl⟩
          obtain ⟨b5, hB⟩ : ∃ v, inB 3 s a4 b4 = v := ⟨_, rfl⟩
          rw [hv, hA, hB] at HST1
          rw [hA] at HIL5
          rw [hA, hB] at hi
          rw [hv]
          have HIJ := Lib.hid hi
          have HOJ := Lib.hid ho
          have HCJ : Hid (Cells wi9 wr.heap.size 29 [.int .i64 v1, .int .i64 v2, .int .i64 v3, .bool v4, .int .i64 0]) := Lib.hid (cells_only HCI4.out ho HNE.out)
          have f0 := HCJ.out.frozen (j := 4) (by simp)
          have g0 := HCJ.out.cell (j := 4) rfl
          clear hi ho hv hA hB
          obtain ⟨wi10, hW2⟩ : ∃ v, v = wi9.setCell ⟨wr.heap.size, 4, none⟩ (.int .i64 v5) := ⟨_, rfl⟩
          have HIN5 : Hid (In wi10 (w.heap.size + 1) s a5 b5) := Lib.hid (by rw [hW2]; exact Cells.far HIJ.out (fun e => HNE.out e.symm) _)
          have HCI5 : Hid (Cells wi10 wr.heap.size 29 [.int .i64 v1, .int .i64 v2, .int .i64 v3, .bool v4, .int .i64 v5]) := Lib.hid (by rw [hW2]; exact HCJ.out.set_ 4 (.int .i64 v5))
          have HON5 : Hid (Only (fun k => k = w.heap.size + 1 ∨ wr.heap.size ≤ k) wr wi10) := Lib.hid (by
            rw [hW2]
            exact (HON4.out.trans HOJ.out fun _ _ e => Or.inl e).trans (Only.of_set wi9 ⟨wr.heap.size, 4, none⟩ _) fun k _ e => Or.inr (by rw [show k = wr.heap.size from e]; exact Nat.le_refl _))
          clear HIJ HOJ HCJ HIN4 HCI4 HON4 HIL4
          go_upto_region 25 with (fail)
          rw [← hW2]
          clear hW2 f0 g0
          have HF := Lib.hid (HST.out.both HIN5.out HON5.out)
          have HQ4 : Hid (wi10.cell? ⟨w.heap.size + 1 + 1, 4, none⟩ = some (.slice A k c)) := Lib.hid (by
            have h := HF.out.rcd.cell (j := 4) rfl
            rw [HLL.out] at h
            exact h)
          have q4 := HQ4.out
          have fq4 := HF.out.rcd.frozen (j := 4) (by simp [Rc.vals])
          have x0 := HCI5.out.cell (j := 0) rfl
          have x1 := HCI5.out.cell (j := 1) rfl
          have x2 := HCI5.out.cell (j := 2) rfl
          have x3 := HCI5.out.cell (j := 3) rfl
          have x4 := HCI5.out.cell (j := 4) rfl
          have HKB := Lib.hid (show k ≤ 1000000 by omega)
          have hb2 := below_alloc wi10 (.cells #[.int .i64 v1, .int .i64 v2, .int .i64 v3, .bool v4, .int .i64 v5] 29)
          have hcn := cells_new wi10 29 [.int .i64 v1, .int .i64 v2, .int .i64 v3, .bool v4, .int .i64 v5] #[.int .i64 v1, .int .i64 v2, .int .i64 v3, .bool v4, .int .i64 v5] rfl
          obtain ⟨w3, hw3⟩ : ∃ v, v = wi10.alloc (.cells #[.int .i64 v1, .int .i64 v2, .int .i64 v3, .bool v4, .int .i64 v5] 29) := ⟨_, rfl⟩
          rw [← hw3] at hb2 hcn
          have HB2 := Lib.hid hb2
          have HCN := Lib.hid hcn
          have HROW : Hid (w3.ownsRow (w.heap.size + 3) 29 5 (.slice A k c) k (flat Ls)) := Lib.hid (by
            have h := (HF.out.later hb2).rowA
            simp only [HLL.out] at h
            exact h)
          clear hb2 hcn
          obtain ⟨i0, hi, hz0, hz1, hz2⟩ := info_parts infoItem
          go_wp2_with (at_builtin
                       rw [← hw3]
                       have hown3 := HROW.out
                       have hcell3 := HCN.out
                       refine wpList_append_own_at _ rfl (.tmp 91) (.tmp 93) 22 rfl (w.heap.size + 3) 29 i0 _ 5 40 Try.underlying22 hi hz0 hz1 hz2 rfl (by decide) (.slice A k c) k (flat Ls) rfl hown3 ⟨wi10.heap.size, 0, none⟩ 1 1 (It.vals ⟨v1, v2, v3, v4, v5⟩) rfl rfl (fun j u hu => by rw [addr_add]; exact hcell3.cell hu) (vals_one _) (by have := HKB.out; unfold maxLen; omega) (by have := HKB.out; omega) (by have h1 := HB2.out.size; have h2 := HF.out.low; omega) ?_
                       intro v' w4 ho4 hg4 hx4 hat4
                       obtain ⟨A2, n2, c2, hv2⟩ := own_slice ho4
                       subst hv2
                       clear hx4 hown3 hcell3
                       have HPU : Hid (rfSt w (w4.setCell ⟨w.heap.size + 1 + 1, 4, none⟩ (.slice A2 n2 c2)) (⟨4, ⟨t1, t2, t3⟩, (Ls ++ [⟨v1, v2, v3, v4, v5⟩]), [], 0, 0, 0, 0, 0, 0, 0, 0, false⟩ : Rc) s a5 b5 ⟨A2, c2, none, 0⟩) := Lib.hid (HF.out.push_item (it := ⟨v1, v2, v3, v4, v5⟩) HB2.out (by rw [HLL.out]; exact ho4) (by rw [HLL.out]; exact hg4) (by rw [HLL.out]; exact hat4))
                       have hq5 := (cells_only (HF.out.later HB2.out).rcd (Only.of_grown hg4) (fun e => by have := (HROW.out.lt _ e.symm).1; omega)).cell (j := 4) rfl
                       have fq5 : w4.frozen? ⟨w.heap.size + 1 + 1, 4, none⟩ = false := (cells_only (HF.out.later HB2.out).rcd (Only.of_grown hg4) (fun e => by have := (HROW.out.lt _ e.symm).1; omega)).frozen (j := 4) (by simp [Rc.vals])
                       clear ho4 hg4 hat4)
          go_roundw
          case rel =>
            refine ⟨k + 1, A2, c2, by omega, by go_num, ?_⟩
            rw [HST1.out]
            exact HPU.out
          case measure => simp [intOf]; omega
        · obtain rfl : k = N := by omega
          have HLL := Lib.hid (itsA_length s k qa qb)
          have HLE5 := Lib.hid (itsA_le s k (b := qb) HLE4.out)
          obtain ⟨t, ht⟩ : ∃ t, itsA s k qa qb = t := ⟨_, rfl⟩
          rw [ht] at hst HSIM2 HLL HLE5
          obtain ⟨ra, rb, Ls⟩ := t
          simp only at hst HSIM2 HLL HLE5
          have HC2 := Lib.hid hst
          have c0 := hst.rcd.cell (j := 0) rfl
          obtain ⟨wd, hwd⟩ : ∃ wd, wd = wr := ⟨_, rfl⟩
          subst hwd
          clear hst ht
          go_wp2_with fail
          refine (in_any 2 s ra rb (w.heap.size + 1) wd (by decide) HC2.out.inn HLE5.out HSZ.out).mono ?_
          rintro e we ⟨rfl, hi, ho⟩
          have HC3 := Lib.hid (HC2.out.step hi ho)
          have HLE6 := Lib.hid (inA_le 2 s ra rb HLE5.out)
          rw [cnt_eq s ra rb]
          have HSN := Lib.hid (fun h => HSIM2.out.nodes h)
          have HSNO := Lib.hid (fun h => HSIM2.out.nodes_no h)
          obtain ⟨M, hN⟩ : ∃ N, cnt s ra rb = N := ⟨_, rfl⟩
          obtain ⟨ua, hA⟩ : ∃ v, inA 2 s ra rb = v := ⟨_, rfl⟩
          obtain ⟨ub, hB⟩ : ∃ v, inB 2 s ra rb = v := ⟨_, rfl⟩
          rw [hN, hA, hB] at HSN
          rw [hN] at HSNO
          rw [hA, hB] at HC3
          rw [hA] at HLE6
          rw [hN]
          clear hi ho hN hA hB c0 HC2
          by_cases h16' : M ≤ 16
          · have HSIM3 := Lib.hid (HSN.out h16')
            have h17' : ¬ 16 < M := by omega
            clear HSN HSNO
            go_wp2_with fail
            go_loopw [13] (fun i wr => ∃ (k2 : Nat) (B : Option Addr) (d : Nat), k2 ≤ M ∧ i = .int .i64 (k2 : Int) ∧ rfSt w wr (⟨4, ⟨t1, t2, t3⟩, Ls, (ndsA s k2 ua ub).2.2, 0, 0, 0, 0, 0, 0, 0, 0, false⟩ : Rc) s (ndsA s k2 ua ub).1 (ndsA s k2 ua ub).2.1 ⟨A, c, B, d⟩) (fun i _ => M - (intOf i).toNat)
            case atStart => exact ⟨0, none, 0, Nat.zero_le _, rfl, HC3.out⟩
            case round =>
              obtain ⟨k2, B, d, hk2, rfl, hst⟩ := hrel
              by_cases hlt2 : k2 < M
              · have HST1 : Hid (ndsA s (k2 + 1) ua ub = (inA 3 s (ndsA s k2 ua ub).1 (ndsA s k2 ua ub).2.1, inB 3 s (ndsA s k2 ua ub).1 (ndsA s k2 ua ub).2.1, (ndsA s k2 ua ub).2.2 ++ [inV 3 s (ndsA s k2 ua ub).1 (ndsA s k2 ua ub).2.1])) := Lib.hid rfl
                have HIL := Lib.hid (ndsA_le s k2 (b := ub) HLE6.out)
                have HLM2 := Lib.hid (ndsA_length s k2 ua ub)
                obtain ⟨t, ht⟩ : ∃ t, ndsA s k2 ua ub = t := ⟨_, rfl⟩
                rw [ht] at hst HST1 HIL HLM2
                obtain ⟨a, b, Ms⟩ := t
                simp only at hst HST1 HIL HLM2
                have HST := Lib.hid hst
                have HKB := Lib.hid (show k2 ≤ 1000000 by omega)
                have HI : Hid (∀ V : Nat → Value, ndSt s a b (⟨4, ⟨t1, t2, t3⟩, Ls, Ms, 0, 0, 0, 0, 0, 0, 0, 0, false⟩ : Rc) ⟨A, c, B, d⟩ w wr false false false false (V 4) (V 5) wr.drew) := Lib.hid fun V =>
                  ⟨Cells.later hst.inn (Below.refl _ _).drew, Only.of_below (Below.refl _ _).drew, hst, fun _ => hst.rcd.later (Below.refl _ _).drew, fun hd => (by cases hd), fun _ => hst.rowB.drew, fun hd => (by cases hd), fun hd => (by cases hd)⟩
                clear hst ht
                go_wp2_with fail
                refine Reg.region_inv (by kernel_rfl) (fun i => ([some (.pointer (some ⟨w.heap.size + 1 + 1, 5, none⟩)), some (.slice B k2 d), some (.pointer (some ⟨w.heap.size + 1, 0, none⟩)), some (.int .i64 (inV 3 s a b)), none, none, some (.pointer (some ⟨w.heap.size + 1 + 1, 5, none⟩)), none] : List (Option Value)).getD i none) (fun D V W => ndSt s a b (⟨4, ⟨t1, t2, t3⟩, Ls, Ms, 0, 0, 0, 0, 0, 0, 0, 0, false⟩ : Rc) ⟨A, c, B, d⟩ w wr (D 3) (D 4) (D 5) (D 7) (V 4) (V 5) W) (fun V => [(some 117, V 0), (some 118, V 1), (some 119, V 2), (some 120, V 3), (some 121, V 4), (some 122, V 5), (some 123, V 6), (none, V 7)]) (by kernel_rfl) (by kernel_rfl) (fun V => rfl) ?_ ?_ ?_
                · intro V
                  exact HI.out V
                · intro i o ho
                  have hi : i < 8 := (Array.getElem?_eq_some_iff.1 ho).1
                  rcases i with _ | _ | _ | _ | _ | _ | _ | _ | i
                  · obtain rfl := Option.some.inj ho
                    intro D V ρ wi hE hI hDi hT hF hs hd hk
                    replace hI : ndSt s a b (⟨4, ⟨t1, t2, t3⟩, Ls, Ms, 0, 0, 0, 0, 0, 0, 0, 0, false⟩ : Rc) ⟨A, c, B, d⟩ w wr (D 3) (D 4) (D 5) (D 7) (V 4) (V 5) wi := hI
                    have e5 : ρ (.tmp 5) = .pointer (some ⟨w.heap.size + 1 + 1, 0, none⟩) := hs 5 (by kernel_rfl)
                    clear hT hF hk
                    exact Reg.Gives.value (v := .pointer (some ⟨w.heap.size + 1 + 1, 5, none⟩)) (w' := wi) (by go_simp) ⟨fun x h => Option.some.inj h, hI⟩
                  · obtain rfl := Option.some.inj ho
                    intro D V ρ wi hE hI hDi hT hF hs hd hk
                    replace hI : ndSt s a b (⟨4, ⟨t1, t2, t3⟩, Ls, Ms, 0, 0, 0, 0, 0, 0, 0, 0, false⟩ : Rc) ⟨A, c, B, d⟩ w wr (D 3) (D 4) (D 5) (D 7) (V 4) (V 5) wi := hI
                    have e117 : ρ (.tmp 117) = .pointer (some ⟨w.heap.size + 1 + 1, 5, none⟩) := (hd 0 117 (by kernel_rfl) (by kernel_rfl) (by show _ < 156; decide)).trans (hk 0 (by kernel_rfl) _ rfl)
                    have hD5 : D 5 = false := hF 1 5 (by show _ < 8; decide) (by kernel_rfl)
                    have hD7 : D 7 = false := hF 1 7 (by show _ < 8; decide) (by kernel_rfl)
                    clear hT hF
                    rw [hD7] at hI
                    have hq := (hI.rcd rfl).cell (j := 5) rfl
                    rw [HLM2.out] at hq
                    exact Reg.Gives.value (v := .slice B k2 d) (w' := wi) (by go_simp) ⟨fun x h => Option.some.inj h, by show ndSt s a b (⟨4, ⟨t1, t2, t3⟩, Ls, Ms, 0, 0, 0, 0, 0, 0, 0, 0, false⟩ : Rc) ⟨A, c, B, d⟩ w wr (D 3) (D 4) (D 5) (D 7) (V 4) (V 5) wi; rw [hD7]; exact hI⟩
                  · obtain rfl := Option.some.inj ho
                    intro D V ρ wi hE hI hDi hT hF hs hd hk
                    replace hI : ndSt s a b (⟨4, ⟨t1, t2, t3⟩, Ls, Ms, 0, 0, 0, 0, 0, 0, 0, 0, false⟩ : Rc) ⟨A, c, B, d⟩ w wr (D 3) (D 4) (D 5) (D 7) (V 4) (V 5) wi := hI
                    have e4 : ρ (.tmp 4) = .pointer (some ⟨w.heap.size + 1, 0, none⟩) := hs 4 (by kernel_rfl)
                    clear hT hF hk
                    exact Reg.Gives.value (v := .pointer (some ⟨w.heap.size + 1, 0, none⟩)) (w' := wi) (by go_simp) ⟨fun x h => Option.some.inj h, hI⟩
                  · obtain rfl := Option.some.inj ho
                    intro D V ρ wi hE hI hDi hT hF hs hd hk
                    replace hI : ndSt s a b (⟨4, ⟨t1, t2, t3⟩, Ls, Ms, 0, 0, 0, 0, 0, 0, 0, 0, false⟩ : Rc) ⟨A, c, B, d⟩ w wr (D 3) (D 4) (D 5) (D 7) (V 4) (V 5) wi := hI
                    have e119 : ρ (.tmp 119) = .pointer (some ⟨w.heap.size + 1, 0, none⟩) := (hd 2 119 (by kernel_rfl) (by kernel_rfl) (by show _ < 156; decide)).trans (hk 2 (by kernel_rfl) _ rfl)
                    have hc := hE.const
                    have hf := hE.func
                    have hD3 : D 3 = false := hDi
                    have hD4 : D 4 = false := hF 1 4 (by show _ < 8; decide) (by kernel_rfl)
                    have hD5 : D 5 = false := hF 1 5 (by show _ < 8; decide) (by kernel_rfl)
                    have hD7 : D 7 = false := hF 1 7 (by show _ < 8; decide) (by kernel_rfl)
                    clear hT hF
                    rw [hD3] at hI
                    have hin := hI.inn
                    simp only [cond_false] at hin
                    refine Reg.Gives.call (f := 50) (args := #[.pointer (some ⟨w.heap.size + 1, 0, none⟩), .int .i64 3]) (w' := wi) (by go_simp) ?_
                    refine (in_any 3 s a b (w.heap.size + 1) wi (by decide) hin HIL.out HSZ.out).mono ?_
                    rintro e w'' ⟨rfl, hi', ho'⟩
                    refine ⟨_, rfl, fun x h => Option.some.inj h, ?_⟩
                    show ndSt s a b (⟨4, ⟨t1, t2, t3⟩, Ls, Ms, 0, 0, 0, 0, 0, 0, 0, 0, false⟩ : Rc) ⟨A, c, B, d⟩ w wr true (D 4) (D 5) (D 7) (V 4) (V 5) w''
                    exact hI.call hi' ho'
                  · obtain rfl := Option.some.inj ho
                    intro D V ρ wi hE hI hDi hT hF hs hd hk
                    replace hI : ndSt s a b (⟨4, ⟨t1, t2, t3⟩, Ls, Ms, 0, 0, 0, 0, 0, 0, 0, 0, false⟩ : Rc) ⟨A, c, B, d⟩ w wr (D 3) (D 4) (D 5) (D 7) (V 4) (V 5) wi := hI
                    have e120 : ρ (.tmp 120) = .int .i64 (inV 3 s a b) := (hd 3 120 (by kernel_rfl) (by kernel_rfl) (by show _ < 156; decide)).trans (hk 3 (by kernel_rfl) _ rfl)
                    have hD3 : D 3 = true := hT 1 3 (by kernel_rfl)
                    have hD4 : D 4 = false := hDi
                    have hD5 : D 5 = false := hF 1 5 (by show _ < 8; decide) (by kernel_rfl)
                    have hD7 : D 7 = false := hF 1 7 (by show _ < 8; decide) (by kernel_rfl)
                    clear hT hF
                    rw [hD4, hD5] at hI
                    exact Reg.Gives.value (v := .slice (some ⟨wi.heap.size, 0, none⟩) 1 1) (w' := wi.alloc (.cells #[.int .i64 (inV 3 s a b)] 3)) (by go_simp) ⟨fun x h => (by cases h), by show ndSt s a b (⟨4, ⟨t1, t2, t3⟩, Ls, Ms, 0, 0, 0, 0, 0, 0, 0, 0, false⟩ : Rc) ⟨A, c, B, d⟩ w wr (D 3) true (D 5) (D 7) (.slice (some ⟨wi.heap.size, 0, none⟩) 1 1) (V 5) _; rw [hD5]; exact hI.alloc⟩
                  · obtain rfl := Option.some.inj ho
                    intro D V ρ wi hE hI hDi hT hF hs hd hk
                    replace hI : ndSt s a b (⟨4, ⟨t1, t2, t3⟩, Ls, Ms, 0, 0, 0, 0, 0, 0, 0, 0, false⟩ : Rc) ⟨A, c, B, d⟩ w wr (D 3) (D 4) (D 5) (D 7) (V 4) (V 5) wi := hI
                    have e118 : ρ (.tmp 118) = .slice B k2 d := (hd 1 118 (by kernel_rfl) (by kernel_rfl) (by show _ < 156; decide)).trans (hk 1 (by kernel_rfl) _ rfl)
                    have e121 : ρ (.tmp 121) = V 4 := hd 4 121 (by kernel_rfl) (by kernel_rfl) (by show _ < 156; decide)
                    have hD3 : D 3 = true := hT 1 3 (by kernel_rfl)
                    have hD4 : D 4 = true := hT 1 4 (by kernel_rfl)
                    have hD5 : D 5 = false := hDi
                    have hD7 : D 7 = false := hF 1 7 (by show _ < 8; decide) (by kernel_rfl)
                    clear hT hF
                    rw [hD4, hD5, hD7] at hI
                    obtain ⟨j, hv, hj0, hcj⟩ := hI.blk rfl rfl
                    rw [hv] at e121
                    have hold := hI.old rfl
                    simp only [HLM2.out] at hold
                    obtain ⟨v', w'', hrun, hrow, hgr, hat⟩ := append_node hold hcj HKB.out (by have h1 := hI.foot.size; have h2 := HST.out.low; omega)
                    exact Reg.Gives.value (v := v') (w' := w'') (Reg.exec_append rfl e118 e121 hrun) ⟨fun x h => (by cases h), by show ndSt s a b (⟨4, ⟨t1, t2, t3⟩, Ls, Ms, 0, 0, 0, 0, 0, 0, 0, 0, false⟩ : Rc) ⟨A, c, B, d⟩ w wr (D 3) (D 4) true (D 7) (V 4) v' w''; rw [hD4, hD7]; exact hI.append (by rw [HLM2.out]; exact hrow) (by rw [HLM2.out]; exact hgr) (by rw [HLM2.out]; exact hat)⟩
                  · obtain rfl := Option.some.inj ho
                    intro D V ρ wi hE hI hDi hT hF hs hd hk
                    replace hI : ndSt s a b (⟨4, ⟨t1, t2, t3⟩, Ls, Ms, 0, 0, 0, 0, 0, 0, 0, 0, false⟩ : Rc) ⟨A, c, B, d⟩ w wr (D 3) (D 4) (D 5) (D 7) (V 4) (V 5) wi := hI
                    have e5 : ρ (.tmp 5) = .pointer (some ⟨w.heap.size + 1 + 1, 0, none⟩) := hs 5 (by kernel_rfl)
                    clear hT hF hk
                    exact Reg.Gives.value (v := .pointer (some ⟨w.heap.size + 1 + 1, 5, none⟩)) (w' := wi) (by go_simp) ⟨fun x h => Option.some.inj h, hI⟩
                  · obtain rfl := Option.some.inj ho
                    intro D V ρ wi hE hI hDi hT hF hs hd hk
                    replace hI : ndSt s a b (⟨4, ⟨t1, t2, t3⟩, Ls, Ms, 0, 0, 0, 0, 0, 0, 0, 0, false⟩ : Rc) ⟨A, c, B, d⟩ w wr (D 3) (D 4) (D 5) (D 7) (V 4) (V 5) wi := hI
                    have e123 : ρ (.tmp 123) = .pointer (some ⟨w.heap.size + 1 + 1, 5, none⟩) := (hd 6 123 (by kernel_rfl) (by kernel_rfl) (by show _ < 156; decide)).trans (hk 6 (by kernel_rfl) _ rfl)
                    have e122 : ρ (.tmp 122) = V 5 := hd 5 122 (by kernel_rfl) (by kernel_rfl) (by show _ < 156; decide)
                    have hD3 : D 3 = true := hT 1 3 (by kernel_rfl)
                    have hD4 : D 4 = true := hT 1 4 (by kernel_rfl)
                    have hD5 : D 5 = true := hT 1 5 (by kernel_rfl)
                    have hD7 : D 7 = false := hDi
                    clear hT hF
                    rw [hD3, hD4, hD5, hD7] at hI
                    have fq := (hI.rcd rfl).frozen (j := 5) (by simp [Rc.vals])
                    have hq := (hI.rcd rfl).cell (j := 5) rfl
                    obtain ⟨A5, n5, c5, hv5⟩ := own_slice (hI.new rfl).1
                    have e122v := e122
                    rw [hv5] at e122v
                    exact Reg.Gives.skip (w' := wi.setCell ⟨w.heap.size + 1 + 1, 5, none⟩ (V 5)) (by rw [hv5]; go_simp) ⟨fun x h => (by cases h), by show ndSt s a b (⟨4, ⟨t1, t2, t3⟩, Ls, Ms, 0, 0, 0, 0, 0, 0, 0, 0, false⟩ : Rc) ⟨A, c, B, d⟩ w wr (D 3) (D 4) (D 5) true (V 4) (V 5) _; rw [hD3, hD4, hD5]; exact hI.store⟩
                  · omega
                · intro V w1 hk hI
                  simp only [Reg.putsO, List.foldl_cons, List.foldl_nil, Act.put, List.setIfInBounds_toArray, List.set_cons_succ, List.set_cons_zero]
                  replace hI : ndSt s a b (⟨4, ⟨t1, t2, t3⟩, Ls, Ms, 0, 0, 0, 0, 0, 0, 0, 0, false⟩ : Rc) ⟨A, c, B, d⟩ w wr true true true true (V 4) (V 5) w1 := hI
                  clear hk
                  obtain ⟨B2, d2, hd2⟩ := hI.done
                  have HPU := Lib.hid hd2
                  clear hI hd2
                  go_wp2_with fail
                  go_roundw
                  case rel =>
                    refine ⟨k2 + 1, B2, d2, by omega, by go_num, ?_⟩
                    rw [HST1.out]
                    exact HPU.out
                  case measure => simp [intOf]; omega
              · obtain rfl : k2 = M := by omega
                have HLM2 := Lib.hid (ndsA_length s k2 ua ub)
                have HSIM4 : Hid (Sim s (⟨4, ⟨t1, t2, t3⟩, Ls, (ndsA s k2 ua ub).2.2, 0, 0, 0, 0, 0, 0, 0, 0, false⟩ : Rc) (ndsA s k2 ua ub).1 (ndsA s k2 ua ub).2.1 (dec0 s)) := Lib.hid (by rw [HD0.out]; exact HSIM3.out)
                obtain ⟨t, ht⟩ : ∃ t, ndsA s k2 ua ub = t := ⟨_, rfl⟩
                rw [ht] at hst HSIM4 HLM2
                obtain ⟨a, b, Ms⟩ := t
                simp only at hst HSIM4 HLM2
                have HSIM := HSIM4
                have HST := Lib.hid hst
                have c0 := hst.rcd.cell (j := 0) rfl
                have HLM : Hid (Ls.length = k ∧ Ms.length = k2) := Lib.hid ⟨HLL.out, HLM2.out⟩
                obtain ⟨wy, hwy⟩ : ∃ wy, wy = wr := ⟨_, rfl⟩
                subst hwy
                clear hst ht HSIM4
                have i1 := HST.out.inn.cell (j := 1) rfl
                have i2 := HST.out.inn.cell (j := 2) rfl
                go_upto_region 38 with (fail)
                go_cut [153] from 136 to 153 (FinOut s w (⟨4, ⟨t1, t2, t3⟩, Ls, Ms, 0, 0, 0, 0, 0, 0, 0, 0, false⟩ : Rc) a b (⟨A, c, B, d⟩ : Lay))
                case first =>
                  cases b with
                  | true =>
                    have HNO := Lib.hid (HSIM.out.fin.1 rfl)
                    go_wp2_with fail
                    go_meet
                    exact ⟨true, rfl, HST.out, fun _ => HNO.out, fun h => by cases h⟩
                  | false =>
                    by_cases ha : a = s.size
                    · subst ha
                      have HF3 := Lib.hid (HSIM.out.fin.2.2 rfl rfl)
                      have hcq : Cells wy (w.heap.size + 1 + 1) 39 [.int .i64 4, .int .i64 t1, .int .i64 t2, .int .i64 t3, .slice A k c, .slice B k2 d, .int .i64 0, .int .i64 0, .int .i64 0, .int .i64 0, .int .i64 0, .int .i64 0, .int .i64 0, .int .i64 0, .bool false] := by
                        have hq := HST.out.rcd
                        have hlm := HLM.out
                        unfold Rc.vals at hq
                        simp only [hlm.1, hlm.2] at hq
                        exact hq
                      have q0 := hcq.cell (j := 0) rfl
                      have q1 := hcq.cell (j := 1) rfl
                      have q2 := hcq.cell (j := 2) rfl
                      have q3 := hcq.cell (j := 3) rfl
                      have q4 := hcq.cell (j := 4) rfl
                      have q5 := hcq.cell (j := 5) rfl
                      have q6 := hcq.cell (j := 6) rfl
                      have q7 := hcq.cell (j := 7) rfl
                      have q8 := hcq.cell (j := 8) rfl
                      have q9 := hcq.cell (j := 9) rfl
                      have q10 := hcq.cell (j := 10) rfl
                      have q11 := hcq.cell (j := 11) rfl
                      have q12 := hcq.cell (j := 12) rfl
                      have q13 := hcq.cell (j := 13) rfl
                      have q14 := hcq.cell (j := 14) rfl
                      have HRR := Lib.hid (refRight_any (⟨4, ⟨t1, t2, t3⟩, Ls, Ms, 0, 0, 0, 0, 0, 0, 0, 0, false⟩ : Rc) (⟨A, c, B, d⟩ : Lay) wy HST.out.has (Nat.le_trans HF3.out.2.1.items (by decide)) (Nat.le_trans HF3.out.2.1.nodes (by decide)))
                      rw [refRight_eq _ HF3.out.1] at HRR
                      have HF4 := Lib.hid HF3.out.2.2
                      obtain ⟨rt, hrt⟩ : ∃ rt, right (⟨4, ⟨t1, t2, t3⟩, Ls, Ms, 0, 0, 0, 0, 0, 0, 0, 0, false⟩ : Rc) = rt := ⟨_, rfl⟩
                      rw [hrt] at HRR HF4
                      clear hrt HF3 hcq
                      have hlm := HLM.out
                      unfold Rc.val at HRR
                      simp only [hlm.1, hlm.2] at HRR
                      clear hlm
                      go_wp2_with fail
                      refine HRR.out.mono ?_
                      rintro e wz ⟨rfl, hbz⟩
                      have HEND := Lib.hid (HST.out.later hbz)
                      clear hbz
                      go_wp2_with fail
                      go_meet
                      exact ⟨!rt, rfl, HEND.out, fun h => by rw [HF4.out, if_neg (by intro h2; rw [h2] at h; cases h)], fun h => by rw [HF4.out, if_pos (by simpa using h)]⟩
                    · have HNO := Lib.hid (HSIM.out.fin.2.1 rfl ha)
                      have e1 : ((a : Int) == (s.size : Int)) = false := by simp; omega
                      have e2 : ((a : Int) != (s.size : Int)) = true := by simp; omega
                      clear ha
                      go_wp2_with fail
                      go_meet
                      exact ⟨true, rfl, HST.out, fun _ => HNO.out, fun h => by cases h⟩
                case rest =>
                  obtain ⟨o, rfl, hst, hno, hyes⟩ := hcut
                  obtain ⟨wz, hwz⟩ : ∃ wz, wz = wc := ⟨_, rfl⟩
                  rw [← hwz] at hst ⊢
                  have HEND := Lib.hid hst
                  have HNY := Lib.hid (And.intro hno hyes)
                  clear hst hno hyes hwz i1 i2
                  cases o with
                  | true =>
                    have HNO := Lib.hid (HFIN0.out.1 (HNY.out.1 rfl))
                    go_upto_region 39 with (fail)
                    apply wp_region_lit
                    refine wpList_buildTo rfl 39 _ rfl (some 154) rfl #[.int .i64 0, .int .i64 0, .int .i64 0, .int .i64 0, .slice none 0 0, .slice none 0 0, .int .i64 0, .int .i64 0, .int .i64 0, .int .i64 0, .int .i64 0, .int .i64 0, .int .i64 0, .int .i64 0, .bool false] (by kernel_rfl) ?_
                    refine wpList_store_cells rfl 39 _ _ rfl w.heap.size #[.int .i64 0, .int .i64 0, .int .i64 0, .int .i64 0, .slice none 0 0, .slice none 0 0, .int .i64 0, .int .i64 0, .int .i64 0, .int .i64 0, .int .i64 0, .int .i64 0, .int .i64 0, .int .i64 0, .bool false] [.int .i64 0, .int .i64 0, .int .i64 0, .int .i64 0, .slice none 0 0, .slice none 0 0, .int .i64 0, .int .i64 0, .int .i64 0, .int .i64 0, .int .i64 0, .int .i64 0, .int .i64 0, .int .i64 0, .bool false] rfl rfl rfl HEND.out.res rfl (by kernel_rfl) (by kernel_rfl) fun wv hpt hov => ?_
                    have HPT := Lib.hid hpt
                    have HO := Lib.hid (HEND.out.ended hov)
                    clear hpt hov
                    go_wp2_with fail
                    refine bodyPost_ret (v := .tuple #[.agg #[.int .i64 0, .int .i64 0, .int .i64 0, .int .i64 0, .slice none 0 0, .slice none 0 0, .int .i64 0, .int .i64 0, .int .i64 0, .int .i64 0, .int .i64 0, .int .i64 0, .int .i64 0, .int .i64 0, .bool false], .bool false]) ?_ rfl ?_
                    · exact (ret_cell_tmp (p := 2) (q := 3) (ty := 39) (by rfl) _ HPT.out _ (by rfl) Try.underlying39 rfl (by kernel_rfl)).trans (by rfl)
                    · exact ⟨⟨lay0, by rw [HNO.out.1, HNO.out.2]; rfl, by rw [HNO.out.1]; exact has0 _⟩, HO.out.2⟩
                  | false =>
                    have HNO := Lib.hid (HFIN0.out.2 _ (HNY.out.2 rfl))
                    have hcq : Cells wz (w.heap.size + 1 + 1) 39 [.int .i64 4, .int .i64 t1, .int .i64 t2, .int .i64 t3, .slice A k c, .slice B k2 d, .int .i64 0, .int .i64 0, .int .i64 0, .int .i64 0, .int .i64 0, .int .i64 0, .int .i64 0, .int .i64 0, .bool false] := by
                      have hq := HEND.out.rcd
                      have hlm := HLM.out
                      unfold Rc.vals at hq
                      simp only [hlm.1, hlm.2] at hq
                      exact hq
                    have HCQ := Lib.hid hcq
                    clear hcq
                    go_upto_region 40 with (fail)
                    apply wp_region_lit
                    refine wpList_load_cells rfl 39 _ rfl (w.heap.size + 1 + 1) #[.int .i64 4, .int .i64 t1, .int .i64 t2, .int .i64 t3, .slice A k c, .slice B k2 d, .int .i64 0, .int .i64 0, .int .i64 0, .int .i64 0, .int .i64 0, .int .i64 0, .int .i64 0, .int .i64 0, .bool false] rfl rfl HCQ.out Try.underlying39 rfl (by kernel_rfl) ?_
                    refine wpList_store_cells rfl 39 _ _ rfl w.heap.size #[.int .i64 4, .int .i64 t1, .int .i64 t2, .int .i64 t3, .slice A k c, .slice B k2 d, .int .i64 0, .int .i64 0, .int .i64 0, .int .i64 0, .int .i64 0, .int .i64 0, .int .i64 0, .int .i64 0, .bool false] [.int .i64 4, .int .i64 t1, .int .i64 t2, .int .i64 t3, .slice A k c, .slice B k2 d, .int .i64 0, .int .i64 0, .int .i64 0, .int .i64 0, .int .i64 0, .int .i64 0, .int .i64 0, .int .i64 0, .bool false] rfl rfl rfl HEND.out.res rfl (by kernel_rfl) (by kernel_rfl) fun wv hpt hov => ?_
                    have HPT := Lib.hid hpt
                    have HO := Lib.hid (HEND.out.ended hov)
                    clear hpt hov
                    go_wp2_with fail
                    refine bodyPost_ret (v := .tuple #[.agg #[.int .i64 4, .int .i64 t1, .int .i64 t2, .int .i64 t3, .slice A k c, .slice B k2 d, .int .i64 0, .int .i64 0, .int .i64 0, .int .i64 0, .int .i64 0, .int .i64 0, .int .i64 0, .int .i64 0, .bool false], .bool true]) ?_ rfl ?_
                    · exact (ret_cell_tmp (p := 2) (q := 3) (ty := 39) (by rfl) _ HPT.out _ (by rfl) Try.underlying39 rfl (by kernel_rfl)).trans (by rfl)
                    · exact ⟨⟨(⟨A, c, B, d⟩ : Lay), by rw [HNO.out.1, HNO.out.2]; unfold Rc.val; simp only [HLM.out.1, HLM.out.2], by rw [HNO.out.1]; exact HO.out.1⟩, HO.out.2⟩
          · have HNO := Lib.hid (HFIN0.out.1 (dec_broken (by rw [HD0.out]; exact HSNO.out (by omega))))
            have h17' : 16 < M := by omega
            go_upto_region 31 with (fail)
            apply wp_region_lit
            refine wpList_buildTo rfl 39 _ rfl (some 111) rfl #[.int .i64 0, .int .i64 0, .int .i64 0, .int .i64 0, .slice none 0 0, .slice none 0 0, .int .i64 0, .int .i64 0, .int .i64 0, .int .i64 0, .int .i64 0, .int .i64 0, .int .i64 0, .int .i64 0, .bool false] (by kernel_rfl) ?_
            refine wpList_store_cells rfl 39 _ _ rfl w.heap.size #[.int .i64 0, .int .i64 0, .int .i64 0, .int .i64 0, .slice none 0 0, .slice none 0 0, .int .i64 0, .int .i64 0, .int .i64 0, .int .i64 0, .int .i64 0, .int .i64 0, .int .i64 0, .int .i64 0, .bool false] [.int .i64 0, .int .i64 0, .int .i64 0, .int .i64 0, .slice none 0 0, .slice none 0 0, .int .i64 0, .int .i64 0, .int .i64 0, .int .i64 0, .int .i64 0, .int .i64 0, .int .i64 0, .int .i64 0, .bool false] rfl rfl rfl HC3.out.res rfl (by kernel_rfl) (by kernel_rfl) fun wv hpt hov => ?_
            have HPT := Lib.hid hpt
            have HO := Lib.hid (HC3.out.ended hov)
            clear hpt hov
            go_wp2_with fail
            refine bodyPost_ret (v := .tuple #[.agg #[.int .i64 0, .int .i64 0, .int .i64 0, .int .i64 0, .slice none 0 0, .slice none 0 0, .int .i64 0, .int .i64 0, .int .i64 0, .int .i64 0, .int .i64 0, .int .i64 0, .int .i64 0, .int .i64 0, .bool false], .bool false]) ?_ rfl ?_
            · exact (ret_cell_tmp (p := 2) (q := 3) (ty := 39) (by rfl) _ HPT.out _ (by rfl) Try.underlying39 rfl (by kernel_rfl)).trans (by rfl)
            · exact ⟨⟨lay0, by rw [HNO.out.1, HNO.out.2]; rfl, by rw [HNO.out.1]; exact has0 _⟩, HO.out.2⟩
    · have HNO := Lib.hid (HFIN0.out.1 (dec_broken (by rw [HD0.out]; exact step_true 10 _ (HSNO.out (by omega)))))
      have h0 : 0 < N := by omega
      have h17 : 16 < N := by omega
      go_wp2_with fail
      go_loopw [10, 11] (fun i _ wr => i = .int .i64 0 ∧ wc1 = wr) (fun _ _ _ => 0)
      case atStart => exact ⟨rfl, rfl⟩
      case round =>
        obtain ⟨rfl, rfl⟩ := hrel
        go_upto_region 27 with (fail)
        apply wp_region_lit
        refine wpList_buildTo rfl 39 _ rfl (some 98) rfl #[.int .i64 0, .int .i64 0, .int .i64 0, .int .i64 0, .slice none 0 0, .slice none 0 0, .int .i64 0, .int .i64 0, .int .i64 0, .int .i64 0, .int .i64 0, .int .i64 0, .int .i64 0, .int .i64 0, .bool false] (by kernel_rfl) ?_
        refine wpList_store_cells rfl 39 _ _ rfl w.heap.size #[.int .i64 0, .int .i64 0, .int .i64 0, .int .i64 0, .slice none 0 0, .slice none 0 0, .int .i64 0, .int .i64 0, .int .i64 0, .int .i64 0, .int .i64 0, .int .i64 0, .int .i64 0, .int .i64 0, .bool false] [.int .i64 0, .int .i64 0, .int .i64 0, .int .i64 0, .slice none 0 0, .slice none 0 0, .int .i64 0, .int .i64 0, .int .i64 0, .int .i64 0, .int .i64 0, .int .i64 0, .int .i64 0, .int .i64 0, .bool false] rfl rfl rfl HC1.out.res rfl (by kernel_rfl) (by kernel_rfl) fun wv hpt hov => ?_
        have HPT := Lib.hid hpt
        have HO := Lib.hid (HC1.out.ended hov)
        clear hpt hov
        go_wp2_with fail
        refine bodyPost_ret (v := .tuple #[.agg #[.int .i64 0, .int .i64 0, .int .i64 0, .int .i64 0, .slice none 0 0, .slice none 0 0, .int .i64 0, .int .i64 0, .int .i64 0, .int .i64 0, .int .i64 0, .int .i64 0, .int .i64 0, .int .i64 0, .bool false], .bool false]) ?_ rfl ?_
        · exact (ret_cell_tmp (p := 2) (q := 3) (ty := 39) (by rfl) _ HPT.out _ (by rfl) Try.underlying39 rfl (by kernel_rfl)).trans (by rfl)
        · exact ⟨⟨lay0, by rw [HNO.out.1, HNO.out.2]; rfl, by rw [HNO.out.1]; exact has0 _⟩, HO.out.2⟩
end Go.Proofs.Ytdmekfeggdodnaa.Rec
