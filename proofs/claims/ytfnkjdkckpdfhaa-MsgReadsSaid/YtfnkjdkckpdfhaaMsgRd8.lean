/-
  Layer 10: the document reads a message, from some place of its code on. Conditions: none.
-/
import Derived.Test.YtfnkjdkckpdfhaaMsgRd7
namespace Go.Proofs.Ytfnkjdkckpdfhaa.Msg
set_option maxRecDepth 100000
open Go.RowKit Go.Proofs.Ytfnkjdkckpdfhaa.Mem Go.Proofs.Ytfnkjdkckpdfhaa.Item Go.Proofs.Ytfnkjdkckpdfhaa.Wire

set_option maxHeartbeats 4000000 in
theorem t17 (s : ByteArray) (w : World) (hs : s.size ≤ 1000000) {m : Nat} {wr : World} {k t1 t2 t3 a0 a1 a2 a3 a4 a5 : Int} {a : Nat} {b : Bool} 
    (hk : 1 ≤ k ∧ k ≤ 15) (hst : rfSt w m wr (⟨k, ⟨t1, t2, t3⟩, [], [], a0, a1, a2, a3, a4, a5, false⟩ : Rc) s a b lay0) {T : Rc × ByteArray × Bool} (hsim : Sim s (⟨k, ⟨t1, t2, t3⟩, [], [], a0, a1, a2, a3, a4, a5, false⟩ : Rc) a b T) (hd : dec0 s = e17 k T)
    {cc : Code} (hc : cc = sub [1, 1, 1, 1, 1, 1, 1, 1, 1] ((Try.f15.body).getD .skip)) {s1 s3 s7 s8 s9 s10 s11 s12 s13 s14 s15 s16 s17 s18 s19 s20 s21 s22 s23 s24 s25 s26 s27 s28 s29 s30 s31 s32 s33 s34 s35 s36 s37 s38 s39 s40 s41 s42 s43 s44 s45 s46 s47 s48 s49 s50 s51 s52 s53 s54 s55 s56 s57 s58 s59 s60 s61 s62 s63 s64 s65 s66 s67 s68 s69 s70 s71 s72 s73 s74 s75 s76 s77 s78 s79 s80 s81 s82 s83 s84 s85 s86 s87 s88 s89 s90 s91 s92 s93 s94 s95 s96 s97 s98 s99 s100 s101 s102 s103 s104 s105 s106 s107 s108 s109 s110 s111 s112 s113 s114 s115 s116 s117 s118 s119 s120 s121 s122 s123 s124 s125 s126 s127 s128 s129 s130 s131 s132 s133 s134 s135 s136 s137 s138 s139 s140 s141 s142 s143 s144 s145 s146 s147 s148 s149 s150 s151 s152 s153 s154 s155 s156 s157 s158 s159 s160 s161 s162 s163 : Value} :
    cc.wp Try.prog (bodyPost Try.prog Try.f15 (fun e w' => (∃ y, e = .returned (.tuple #[(decR s).val y, .bool (dec s).isSome]) ∧ Has w' (decR s) y) ∧ Below w.heap.size w w')) { tmps := List.toArray (.string s::s1::.pointer (some ⟨w.heap.size, 0, none⟩)::s3::.pointer (some ⟨w.heap.size + 1, 0, none⟩)::.pointer (some ⟨m, 0, none⟩)::.int .i64 k::s7::s8::s9::s10::s11::s12::s13::s14::s15::s16::s17::s18::s19::s20::s21::s22::s23::s24::s25::s26::s27::s28::s29::s30::s31::s32::s33::s34::s35::s36::s37::s38::s39::s40::s41::s42::s43::s44::s45::s46::s47::s48::s49::s50::s51::s52::s53::s54::s55::s56::s57::s58::s59::s60::s61::s62::s63::s64::s65::s66::s67::s68::s69::s70::s71::s72::s73::s74::s75::s76::s77::s78::s79::s80::s81::s82::s83::s84::s85::s86::s87::s88::s89::s90::s91::s92::s93::s94::s95::s96::s97::s98::s99::s100::s101::s102::s103::s104::s105::s106::s107::s108::s109::s110::s111::s112::s113::s114::s115::s116::s117::s118::s119::s120::s121::s122::s123::s124::s125::s126::s127::s128::s129::s130::s131::s132::s133::s134::s135::s136::s137::s138::s139::s140::s141::s142::s143::s144::s145::s146::s147::s148::s149::s150::s151::s152::s153::s154::s155::s156::s157::s158::s159::s160::s161::s162::s163::[]), defers := [] } wr := by
  conv at hc => rhs; whnf
  subst hc
  have HSZ := Lib.hid hs
  apply wp_seq_k
  intro K hK
  have HKT := Lib.hid hK
  clear hK
  have HST := Lib.hid hst
  have HK := Lib.hid hk
  have HLE := Lib.hid hsim.pos.le
  have HSIM := Lib.hid hsim
  have HD := Lib.hid hd
  clear hst hk hsim hd hs
  by_cases h9 : k = 9
  · have HD2 : Hid (dec0 s = e31 k (stepF 7 T)) := Lib.hid (by rw [HD.out]; unfold e17; rw [if_pos h9])
    have e9 : (k == 9) = true := by simpa using h9
    clear h9 HD
    go_wp2_with fail
    refine (in_any 2 s a b (w.heap.size + 1) wr (by decide) HST.out.inn HLE.out HSZ.out).mono ?_
    rintro e w1 ⟨rfl, hi, ho⟩
    have HC1 := Lib.hid (HST.out.step hi ho)
    have HLE1 := Lib.hid (inA_le 2 s a b HLE.out)
    rw [cnt_eq s a b]
    have HSN := Lib.hid (fun h => HSIM.out.items h)
    have HSNO := Lib.hid (fun h => HSIM.out.items_no h)
    obtain ⟨N, hN⟩ : ∃ N, cnt s a b = N := ⟨_, rfl⟩
    obtain ⟨qa, hA⟩ : ∃ v, inA 2 s a b = v := ⟨_, rfl⟩
    obtain ⟨qb, hB⟩ : ∃ v, inB 2 s a b = v := ⟨_, rfl⟩
    rw [hN, hA, hB] at HSN
    rw [hN] at HSNO
    rw [hA, hB] at HC1
    rw [hA] at HLE1
    rw [hN]
    clear hi ho hN hA hB
    by_cases h16 : N ≤ 16
    · have HSN2 := Lib.hid (HSN.out h16)
      have h17 : ¬ 16 < N := by omega
      clear HSN HSNO
      go_wp2_with fail
      go_loopw [10, 11] (fun i _ wr => ∃ (j : Nat) (A : Option Addr) (c : Nat), j ≤ N ∧ i = .int .i64 (j : Int) ∧ rfSt w m wr (⟨k, ⟨t1, t2, t3⟩, (itsA s j qa qb).2.2, [], a0, a1, a2, a3, a4, a5, false⟩ : Rc) s (itsA s j qa qb).1 (itsA s j qa qb).2.1 ⟨A, c, none, 0⟩) (fun i _ _ => N - (intOf i).toNat)
      case atStart => exact ⟨0, none, 0, Nat.zero_le _, rfl, HC1.out⟩
      case round =>
        obtain ⟨j, A, c, hj, rfl, hst⟩ := hrel
        by_cases hlt : j < N
        · have HK2 : Hid (itsA s (j + 1) qa qb = (itA s (itsA s j qa qb).1 (itsA s j qa qb).2.1, itC s (itsA s j qa qb).1 (itsA s j qa qb).2.1, (itsA s j qa qb).2.2 ++ [itD s (itsA s j qa qb).1 (itsA s j qa qb).2.1])) := Lib.hid rfl
          have HIL0 := Lib.hid (itsA_le s j (b := qb) HLE1.out)
          have HLL := Lib.hid (itsA_length s j qa qb)
          obtain ⟨t, ht⟩ : ∃ t, itsA s j qa qb = t := ⟨_, rfl⟩
          rw [ht] at hst HK2 HIL0 HLL
          obtain ⟨a, b, Ls⟩ := t
          simp only at hst HK2 HIL0 HLL
          have HST1 := HK2
          unfold itA itC itD Go.Proofs.Ytfnkjdkckpdfhaa.Msg.a3 c3 at HST1
          have HST := Lib.hid hst
          have HNE : Hid (¬ wr.heap.size = w.heap.size + 1) := Lib.hid (by have := hst.low; have := hst.gt; omega)
          obtain ⟨wi0, hwi⟩ : ∃ v, v = wr.alloc (.cells #[.int .i64 0, .int .i64 0, .int .i64 0, .bool false, .int .i64 0] 83) := ⟨_, rfl⟩
          have HIN0 : Hid (In wi0 (w.heap.size + 1) s a b) := Lib.hid (by rw [hwi]; exact Cells.later hst.inn (below_alloc _ _))
          have HCI0 : Hid (Cells wi0 wr.heap.size 83 [.int .i64 0, .int .i64 0, .int .i64 0, .bool false, .int .i64 0]) := Lib.hid (by rw [hwi]; exact cells_new wr _ _ _ rfl)
          have HON0 : Hid (Only (fun k => k = w.heap.size + 1 ∨ wr.heap.size ≤ k) wr wi0) := Lib.hid (by rw [hwi]; exact Only.of_below (below_alloc _ _))
          clear hst ht HK2
          go_wp2_with fail
          rw [← hwi]
          clear hwi
          refine (in_any 3 s a b (w.heap.size + 1) wi0 (by decide) HIN0.out HIL0.out HSZ.out).mono ?_
          rintro e wi1 ⟨rfl, hi, ho⟩
          have HIL1 := Lib.hid (inA_le 3 s a b HIL0.out)
          obtain ⟨v1, hv⟩ : ∃ v, inV 3 s a b = v := ⟨_, rfl⟩
          obtain ⟨pa1, hA⟩ : ∃ v, inA 3 s a b = v := ⟨_, rfl⟩
          obtain ⟨pb1, hB⟩ : ∃ v, inB 3 s a b = v := ⟨_, rfl⟩
          rw [hv, hA, hB] at HST1
          rw [hA] at HIL1
          rw [hA, hB] at hi
          rw [hv]
          have HIJ := Lib.hid hi
          have HOJ := Lib.hid ho
          have HCJ : Hid (Cells wi1 wr.heap.size 83 [.int .i64 0, .int .i64 0, .int .i64 0, .bool false, .int .i64 0]) := Lib.hid (cells_only HCI0.out ho HNE.out)
          have f0 := HCJ.out.frozen (j := 0) (by simp)
          have g0 := HCJ.out.cell (j := 0) rfl
          clear hi ho hv hA hB
          obtain ⟨wi2, hW2⟩ : ∃ v, v = wi1.setCell ⟨wr.heap.size, 0, none⟩ (.int .i64 v1) := ⟨_, rfl⟩
          have HIN1 : Hid (In wi2 (w.heap.size + 1) s pa1 pb1) := Lib.hid (by rw [hW2]; exact Cells.far HIJ.out (fun e => HNE.out e.symm) _)
          have HCI1 : Hid (Cells wi2 wr.heap.size 83 [.int .i64 v1, .int .i64 0, .int .i64 0, .bool false, .int .i64 0]) := Lib.hid (by rw [hW2]; exact HCJ.out.set_ 0 (.int .i64 v1))
          have HON1 : Hid (Only (fun k => k = w.heap.size + 1 ∨ wr.heap.size ≤ k) wr wi2) := Lib.hid (by
            rw [hW2]
            exact (HON0.out.trans HOJ.out fun _ _ e => Or.inl e).trans (Only.of_set wi1 ⟨wr.heap.size, 0, none⟩ _) fun k _ e => Or.inr (by rw [show k = wr.heap.size from e]; exact Nat.le_refl _))
          clear HIJ HOJ HCJ HIN0 HCI0 HON0 HIL0
          go_wp2_with fail
          rw [← hW2]
          clear hW2 f0 g0
          refine (in_any 3 s pa1 pb1 (w.heap.size + 1) wi2 (by decide) HIN1.out HIL1.out HSZ.out).mono ?_
          rintro e wi3 ⟨rfl, hi, ho⟩
          have HIL2 := Lib.hid (inA_le 3 s pa1 pb1 HIL1.out)
          obtain ⟨v2, hv⟩ : ∃ v, inV 3 s pa1 pb1 = v := ⟨_, rfl⟩
          obtain ⟨pa2, hA⟩ : ∃ v, inA 3 s pa1 pb1 = v := ⟨_, rfl⟩
          obtain ⟨pb2, hB⟩ : ∃ v, inB 3 s pa1 pb1 = v := ⟨_, rfl⟩
          rw [hv, hA, hB] at HST1
          rw [hA] at HIL2
          rw [hA, hB] at hi
          rw [hv]
          have HIJ := Lib.hid hi
          have HOJ := Lib.hid ho
          have HCJ : Hid (Cells wi3 wr.heap.size 83 [.int .i64 v1, .int .i64 0, .int .i64 0, .bool false, .int .i64 0]) := Lib.hid (cells_only HCI1.out ho HNE.out)
          have f0 := HCJ.out.frozen (j := 1) (by simp)
          have g0 := HCJ.out.cell (j := 1) rfl
          clear hi ho hv hA hB
          obtain ⟨wi4, hW2⟩ : ∃ v, v = wi3.setCell ⟨wr.heap.size, 1, none⟩ (.int .i64 v2) := ⟨_, rfl⟩
          have HIN2 : Hid (In wi4 (w.heap.size + 1) s pa2 pb2) := Lib.hid (by rw [hW2]; exact Cells.far HIJ.out (fun e => HNE.out e.symm) _)
          have HCI2 : Hid (Cells wi4 wr.heap.size 83 [.int .i64 v1, .int .i64 v2, .int .i64 0, .bool false, .int .i64 0]) := Lib.hid (by rw [hW2]; exact HCJ.out.set_ 1 (.int .i64 v2))
          have HON2 : Hid (Only (fun k => k = w.heap.size + 1 ∨ wr.heap.size ≤ k) wr wi4) := Lib.hid (by
            rw [hW2]
            exact (HON1.out.trans HOJ.out fun _ _ e => Or.inl e).trans (Only.of_set wi3 ⟨wr.heap.size, 1, none⟩ _) fun k _ e => Or.inr (by rw [show k = wr.heap.size from e]; exact Nat.le_refl _))
          clear HIJ HOJ HCJ HIN1 HCI1 HON1 HIL1
          go_wp2_with fail
          rw [← hW2]
          clear hW2 f0 g0
          refine (in_any 3 s pa2 pb2 (w.heap.size + 1) wi4 (by decide) HIN2.out HIL2.out HSZ.out).mono ?_
          rintro e wi5 ⟨rfl, hi, ho⟩
          have HIL3 := Lib.hid (inA_le 3 s pa2 pb2 HIL2.out)
          obtain ⟨v3, hv⟩ : ∃ v, inV 3 s pa2 pb2 = v := ⟨_, rfl⟩
          obtain ⟨pa3, hA⟩ : ∃ v, inA 3 s pa2 pb2 = v := ⟨_, rfl⟩
          obtain ⟨pb3, hB⟩ : ∃ v, inB 3 s pa2 pb2 = v := ⟨_, rfl⟩
          rw [hv, hA, hB] at HST1
          rw [hA] at HIL3
          rw [hA, hB] at hi
          rw [hv]
          have HIJ := Lib.hid hi
          have HOJ := Lib.hid ho
          have HCJ : Hid (Cells wi5 wr.heap.size 83 [.int .i64 v1, .int .i64 v2, .int .i64 0, .bool false, .int .i64 0]) := Lib.hid (cells_only HCI2.out ho HNE.out)
          have f0 := HCJ.out.frozen (j := 2) (by simp)
          have g0 := HCJ.out.cell (j := 2) rfl
          clear hi ho hv hA hB
          obtain ⟨wi6, hW2⟩ : ∃ v, v = wi5.setCell ⟨wr.heap.size, 2, none⟩ (.int .i64 v3) := ⟨_, rfl⟩
          have HIN3 : Hid (In wi6 (w.heap.size + 1) s pa3 pb3) := Lib.hid (by rw [hW2]; exact Cells.far HIJ.out (fun e => HNE.out e.symm) _)
          have HCI3 : Hid (Cells wi6 wr.heap.size 83 [.int .i64 v1, .int .i64 v2, .int .i64 v3, .bool false, .int .i64 0]) := Lib.hid (by rw [hW2]; exact HCJ.out.set_ 2 (.int .i64 v3))
          have HON3 : Hid (Only (fun k => k = w.heap.size + 1 ∨ wr.heap.size ≤ k) wr wi6) := Lib.hid (by
            rw [hW2]
            exact (HON2.out.trans HOJ.out fun _ _ e => Or.inl e).trans (Only.of_set wi5 ⟨wr.heap.size, 2, none⟩ _) fun k _ e => Or.inr (by rw [show k = wr.heap.size from e]; exact Nat.le_refl _))
          clear HIJ HOJ HCJ HIN2 HCI2 HON2 HIL2
          go_wp2_with fail
          rw [← hW2]
          clear hW2 f0 g0
          refine (in_any 1 s pa3 pb3 (w.heap.size + 1) wi6 (by decide) HIN3.out HIL3.out HSZ.out).mono ?_
          rintro e wi7 ⟨rfl, hi, ho⟩
          have HIL4 := Lib.hid (inA_le 1 s pa3 pb3 HIL3.out)
          obtain ⟨vn, hv⟩ : ∃ v, inV 1 s pa3 pb3 = v := ⟨_, rfl⟩
          obtain ⟨pa4, hA⟩ : ∃ v, inA 1 s pa3 pb3 = v := ⟨_, rfl⟩
          obtain ⟨pb4, hB⟩ : ∃ v, inB 1 s pa3 pb3 = v := ⟨_, rfl⟩
          rw [hv, hA, hB] at HST1
          rw [hA] at HIL4
          rw [hA, hB] at hi
          rw [hv]
          obtain ⟨v4, hy⟩ : ∃ v, (vn == 1) = v := ⟨_, rfl⟩
          rw [hy] at HST1
          have HIJ := Lib.hid hi
          have HOJ := Lib.hid ho
          have HCJ : Hid (Cells wi7 wr.heap.size 83 [.int .i64 v1, .int .i64 v2, .int .i64 v3, .bool false, .int .i64 0]) := Lib.hid (cells_only HCI3.out ho HNE.out)
          have f0 := HCJ.out.frozen (j := 3) (by simp)
          have g0 := HCJ.out.cell (j := 3) rfl
          clear hi ho hv hA hB
          obtain ⟨wi8, hW2⟩ : ∃ v, v = wi7.setCell ⟨wr.heap.size, 3, none⟩ (.bool v4) := ⟨_, rfl⟩
          have HIN4 : Hid (In wi8 (w.heap.size + 1) s pa4 pb4) := Lib.hid (by rw [hW2]; exact Cells.far HIJ.out (fun e => HNE.out e.symm) _)
          have HCI4 : Hid (Cells wi8 wr.heap.size 83 [.int .i64 v1, .int .i64 v2, .int .i64 v3, .bool v4, .int .i64 0]) := Lib.hid (by rw [hW2]; exact HCJ.out.set_ 3 (.bool v4))
          have HON4 : Hid (Only (fun k => k = w.heap.size + 1 ∨ wr.heap.size ≤ k) wr wi8) := Lib.hid (by
            rw [hW2]
            exact (HON3.out.trans HOJ.out fun _ _ e => Or.inl e).trans (Only.of_set wi7 ⟨wr.heap.size, 3, none⟩ _) fun k _ e => Or.inr (by rw [show k = wr.heap.size from e]; exact Nat.le_refl _))
          clear HIJ HOJ HCJ HIN3 HCI3 HON3 HIL3
          go_wp2_with fail
          rw [← hW2]
          clear hW2 f0 g0 hy
          refine (in_any 3 s pa4 pb4 (w.heap.size + 1) wi8 (by decide) HIN4.out HIL4.out HSZ.out).mono ?_
          rintro e wi9 ⟨rfl, hi, ho⟩
          have HIL5 := Lib.hid (inA_le 3 s pa4 pb4 HIL4.out)
          obtain ⟨v5, hv⟩ : ∃ v, inV 3 s pa4 pb4 = v := ⟨_, rfl⟩
          obtain ⟨pa5, hA⟩ : ∃ v, inA 3 s pa4 pb4 = v := ⟨_, rfl⟩
          obtain ⟨pb5, hB⟩ : ∃ v, inB 3 s pa4 pb4 = v := ⟨_, rfl⟩
          rw [hv, hA, hB] at HST1
          rw [hA] at HIL5
          rw [hA, hB] at hi
          rw [hv]
          have HIJ := Lib.hid hi
          have HOJ := Lib.hid ho
          have HCJ : Hid (Cells wi9 wr.heap.size 83 [.int .i64 v1, .int .i64 v2, .int .i64 v3, .bool v4, .int .i64 0]) := Lib.hid (cells_only HCI4.out ho HNE.out)
          have f0 := HCJ.out.frozen (j := 4) (by simp)
          have g0 := HCJ.out.cell (j := 4) rfl
          clear hi ho hv hA hB
          obtain ⟨wi10, hW2⟩ : ∃ v, v = wi9.setCell ⟨wr.heap.size, 4, none⟩ (.int .i64 v5) := ⟨_, rfl⟩
          have HIN5 : Hid (In wi10 (w.heap.size + 1) s pa5 pb5) := Lib.hid (by rw [hW2]; exact Cells.far HIJ.out (fun e => HNE.out e.symm) _)
          have HCI5 : Hid (Cells wi10 wr.heap.size 83 [.int .i64 v1, .int .i64 v2, .int .i64 v3, .bool v4, .int .i64 v5]) := Lib.hid (by rw [hW2]; exact HCJ.out.set_ 4 (.int .i64 v5))
          have HON5 : Hid (Only (fun k => k = w.heap.size + 1 ∨ wr.heap.size ≤ k) wr wi10) := Lib.hid (by
            rw [hW2]
            exact (HON4.out.trans HOJ.out fun _ _ e => Or.inl e).trans (Only.of_set wi9 ⟨wr.heap.size, 4, none⟩ _) fun k _ e => Or.inr (by rw [show k = wr.heap.size from e]; exact Nat.le_refl _))
          clear HIJ HOJ HCJ HIN4 HCI4 HON4 HIL4
          go_upto_region 30 with (fail)
          rw [← hW2]
          clear hW2 f0 g0
          have HF := Lib.hid (HST.out.both HIN5.out HON5.out)
          have HQ4 : Hid (wi10.cell? ⟨m, 4, none⟩ = some (.slice A j c)) := Lib.hid (by
            have h := HF.out.rcd.cell (j := 4) rfl
            rw [HLL.out] at h
            exact h)
          have q4 := HQ4.out
          have fq4 := HF.out.rcd.frozen (j := 4) (by simp [Rc.vals])
          have x0 := HCI5.out.cell (j := 0) rfl
          have x1 := HCI5.out.cell (j := 1) rfl
          have x2 := HCI5.out.cell (j := 2) rfl
          have x3 := HCI5.out.cell (j := 3) rfl
          have x4 := HCI5.out.cell (j := 4) rfl
          have HKB := Lib.hid (show j ≤ 1000000 by omega)
          have hb2 := below_alloc wi10 (.cells #[.int .i64 v1, .int .i64 v2, .int .i64 v3, .bool v4, .int .i64 v5] 83)
          have hcn := cells_new wi10 83 [.int .i64 v1, .int .i64 v2, .int .i64 v3, .bool v4, .int .i64 v5] #[.int .i64 v1, .int .i64 v2, .int .i64 v3, .bool v4, .int .i64 v5] rfl
          obtain ⟨w3, hw3⟩ : ∃ v, v = wi10.alloc (.cells #[.int .i64 v1, .int .i64 v2, .int .i64 v3, .bool v4, .int .i64 v5] 83) := ⟨_, rfl⟩
          rw [← hw3] at hb2 hcn
          have HB2 := Lib.hid hb2
          have HCN := Lib.hid hcn
          have HROW : Hid (w3.ownsRow (m + 1) 83 5 (.slice A j c) j (flat Ls)) := Lib.hid (by
            have h := (HF.out.later hb2).rowA
            simp only [HLL.out] at h
            exact h)
          clear hb2 hcn
          obtain ⟨i0, hi, hz0, hz1, hz2⟩ := info_parts infoItem
          go_wp2_with (at_builtin
                       rw [← hw3]
                       have hown3 := HROW.out
                       have hcell3 := HCN.out
                       refine wpList_append_own_at _ rfl (.tmp 110) (.tmp 112) 24 rfl (m + 1) 83 i0 _ 5 40 Try.underlying24 hi hz0 hz1 hz2 rfl (by decide) (.slice A j c) j (flat Ls) rfl hown3 ⟨wi10.heap.size, 0, none⟩ 1 1 (It.vals ⟨v1, v2, v3, v4, v5⟩) rfl rfl (fun j u hu => by rw [addr_add]; exact hcell3.cell hu) (vals_one _) (by have := HKB.out; unfold maxLen; omega) (by have := HKB.out; omega) (by have h1 := HB2.out.size; have h2 := HF.out.low; omega) ?_
                       intro v' w4 ho4 hg4 hx4 hat4
                       obtain ⟨A2, n2, c2, hv2⟩ := own_slice ho4
                       subst hv2
                       clear hx4 hown3 hcell3
                       have HPU : Hid (rfSt w m (w4.setCell ⟨m, 4, none⟩ (.slice A2 n2 c2)) (⟨k, ⟨t1, t2, t3⟩, (Ls ++ [⟨v1, v2, v3, v4, v5⟩]), [], a0, a1, a2, a3, a4, a5, false⟩ : Rc) s pa5 pb5 ⟨A2, c2, none, 0⟩) := Lib.hid (HF.out.push_item (it := ⟨v1, v2, v3, v4, v5⟩) HB2.out (by rw [HLL.out]; exact ho4) (by rw [HLL.out]; exact hg4) (by rw [HLL.out]; exact hat4))
                       have hq5 := (cells_only (HF.out.later HB2.out).rcd (Only.of_grown hg4) (fun e => by have := (HROW.out.lt _ e.symm).1; omega)).cell (j := 4) rfl
                       have fq5 : w4.frozen? ⟨m, 4, none⟩ = false := (cells_only (HF.out.later HB2.out).rcd (Only.of_grown hg4) (fun e => by have := (HROW.out.lt _ e.symm).1; omega)).frozen (j := 4) (by simp [Rc.vals])
                       clear ho4 hg4 hat4)
          go_roundw
          case rel =>
            refine ⟨j + 1, A2, c2, by omega, by go_num, ?_⟩
            rw [HST1.out]
            exact HPU.out
          case measure => simp [intOf]; omega
        · obtain rfl : j = N := by omega
          have HSIM4 : Hid (Sim s (⟨k, ⟨t1, t2, t3⟩, (itsA s j qa qb).2.2, [], a0, a1, a2, a3, a4, a5, false⟩ : Rc) (itsA s j qa qb).1 (itsA s j qa qb).2.1 (stepF 7 T)) := Lib.hid HSN2.out
          have HST := Lib.hid hst
          clear hst
          go_wp2_with fail
          exact HKT.out _ _ (t31 s w HSZ.out HK.out HST.out HSIM4.out HD2.out (by kernel_rfl))
    · have HNO2 := Lib.hid (HSNO.out (by omega))
      have h17 : 16 < N := by omega
      clear HSN HSNO h16
      have HNO := Lib.hid (fin_none (dec_broken (by rw [HD2.out]; exact e31_true HNO2.out)))
      go_upto_region 20 with (fail)
      apply wp_region_lit
      refine wpList_buildTo rfl 31 _ rfl (some 86) rfl #[.int .i64 0, .int .i64 0, .int .i64 0, .int .i64 0, .slice none 0 0, .slice none 0 0, .int .i64 0, .int .i64 0, .int .i64 0, .int .i64 0, .int .i64 0, .int .i64 0, .bool false] (by kernel_rfl) ?_
      refine wpList_store_cells rfl 31 _ _ rfl w.heap.size #[.int .i64 0, .int .i64 0, .int .i64 0, .int .i64 0, .slice none 0 0, .slice none 0 0, .int .i64 0, .int .i64 0, .int .i64 0, .int .i64 0, .int .i64 0, .int .i64 0, .bool false] [.int .i64 0, .int .i64 0, .int .i64 0, .int .i64 0, .slice none 0 0, .slice none 0 0, .int .i64 0, .int .i64 0, .int .i64 0, .int .i64 0, .int .i64 0, .int .i64 0, .bool false] rfl rfl rfl HC1.out.res rfl (by kernel_rfl) (by kernel_rfl) fun wv hpt hov => ?_
      have HPT := Lib.hid hpt
      have HO := Lib.hid (HC1.out.ended hov)
      clear hpt hov
      go_wp2_with fail
      refine bodyPost_ret (v := .tuple #[.agg #[.int .i64 0, .int .i64 0, .int .i64 0, .int .i64 0, .slice none 0 0, .slice none 0 0, .int .i64 0, .int .i64 0, .int .i64 0, .int .i64 0, .int .i64 0, .int .i64 0, .bool false], .bool false]) ?_ rfl ?_
      · exact (ret_cell_tmp (p := 2) (q := 3) (ty := 31) (by rfl) _ HPT.out _ (by rfl) Try.underlying31 rfl (by kernel_rfl)).trans (by rfl)
      · exact ⟨⟨lay0, by rw [HNO.out.1, HNO.out.2]; rfl, by rw [HNO.out.1]; exact has0 _⟩, HO.out.2⟩
  · have e9 : (k == 9) = false := by simpa using h9
    have HD2 : Hid (dec0 s = e31 k T) := Lib.hid (by rw [HD.out]; unfold e17; rw [if_neg h9])
    clear h9 HD
    go_wp2_with fail
    exact HKT.out _ _ (t31 s w HSZ.out HK.out HST.out HSIM.out HD2.out (by kernel_rfl))
set_option maxHeartbeats 4000000 in
theorem t13 (s : ByteArray) (w : World) (hs : s.size ≤ 1000000) {m : Nat} {wr : World} {k a0 a1 a2 a3 a4 a5 : Int} {a : Nat} {b : Bool} 
    (hk : 1 ≤ k ∧ k ≤ 15) (hst : rfSt w m wr (⟨k, ⟨0, 0, 0⟩, [], [], a0, a1, a2, a3, a4, a5, false⟩ : Rc) s a b lay0) {T : Rc × ByteArray × Bool} (hsim : Sim s (⟨k, ⟨0, 0, 0⟩, [], [], a0, a1, a2, a3, a4, a5, false⟩ : Rc) a b T) (hd : dec0 s = e13 k T)
    {cc : Code} (hc : cc = sub [1, 1, 1, 1, 1, 1, 1, 1] ((Try.f15.body).getD .skip)) {s1 s3 s7 s8 s9 s10 s11 s12 s13 s14 s15 s16 s17 s18 s19 s20 s21 s22 s23 s24 s25 s26 s27 s28 s29 s30 s31 s32 s33 s34 s35 s36 s37 s38 s39 s40 s41 s42 s43 s44 s45 s46 s47 s48 s49 s50 s51 s52 s53 s54 s55 s56 s57 s58 s59 s60 s61 s62 s63 s64 s65 s66 s67 s68 s69 s70 s71 s72 s73 s74 s75 s76 s77 s78 s79 s80 s81 s82 s83 s84 s85 s86 s87 s88 s89 s90 s91 s92 s93 s94 s95 s96 s97 s98 s99 s100 s101 s102 s103 s104 s105 s106 s107 s108 s109 s110 s111 s112 s113 s114 s115 s116 s117 s118 s119 s120 s121 s122 s123 s124 s125 s126 s127 s128 s129 s130 s131 s132 s133 s134 s135 s136 s137 s138 s139 s140 s141 s142 s143 s144 s145 s146 s147 s148 s149 s150 s151 s152 s153 s154 s155 s156 s157 s158 s159 s160 s161 s162 s163 : Value} :
    cc.wp Try.prog (bodyPost Try.prog Try.f15 (fun e w' => (∃ y, e = .returned (.tuple #[(decR s).val y, .bool (dec s).isSome]) ∧ Has w' (decR s) y) ∧ Below w.heap.size w w')) { tmps := List.toArray (.string s::s1::.pointer (some ⟨w.heap.size, 0, none⟩)::s3::.pointer (some ⟨w.heap.size + 1, 0, none⟩)::.pointer (some ⟨m, 0, none⟩)::.int .i64 k::s7::s8::s9::s10::s11::s12::s13::s14::s15::s16::s17::s18::s19::s20::s21::s22::s23::s24::s25::s26::s27::s28::s29::s30::s31::s32::s33::s34::s35::s36::s37::s38::s39::s40::s41::s42::s43::s44::s45::s46::s47::s48::s49::s50::s51::s52::s53::s54::s55::s56::s57::s58::s59::s60::s61::s62::s63::s64::s65::s66::s67::s68::s69::s70::s71::s72::s73::s74::s75::s76::s77::s78::s79::s80::s81::s82::s83::s84::s85::s86::s87::s88::s89::s90::s91::s92::s93::s94::s95::s96::s97::s98::s99::s100::s101::s102::s103::s104::s105::s106::s107::s108::s109::s110::s111::s112::s113::s114::s115::s116::s117::s118::s119::s120::s121::s122::s123::s124::s125::s126::s127::s128::s129::s130::s131::s132::s133::s134::s135::s136::s137::s138::s139::s140::s141::s142::s143::s144::s145::s146::s147::s148::s149::s150::s151::s152::s153::s154::s155::s156::s157::s158::s159::s160::s161::s162::s163::[]), defers := [] } wr := by
  conv at hc => rhs; whnf
  subst hc
  have HSZ := Lib.hid hs
  apply wp_seq_k
  intro K hK
  have HKT := Lib.hid hK
  clear hK
  have HST := Lib.hid hst
  have HK := Lib.hid hk
  have HLE := Lib.hid hsim.pos.le
  have HD := Lib.hid hd
  obtain ⟨nm, hnm⟩ : ∃ v, named k = v := ⟨_, rfl⟩
  have HNA := Lib.hid (fun w' => refNamed_any k w' hk)
  unfold e13 at HD
  rw [hnm] at HD HNA
  clear hst hk hd hs hnm
  go_wp2_with fail
  refine (HNA.out wr).mono ?_
  rintro e w' ⟨rfl, rfl⟩
  cases nm with
  | false =>
    have HSIM := Lib.hid hsim
    have HD2 : Hid (dec0 s = e17 k T) := HD
    clear hsim HNA HD
    go_wp2_with fail
    exact HKT.out _ _ (t17 s w HSZ.out HK.out HST.out HSIM.out HD2.out (by kernel_rfl))
  | true =>
    have HD2 : Hid (dec0 s = e17 k (stepF 6 T)) := HD
    have HSIM1 := Lib.hid hsim.tid
    unfold tidD Go.Proofs.Ytfnkjdkckpdfhaa.Msg.a3 c3 at HSIM1
    clear hsim HNA HD
    go_wp2_with fail
    refine (in_any 3 s a b (w.heap.size + 1) wr (by decide) HST.out.inn HLE.out HSZ.out).mono ?_
    rintro e wt1 ⟨rfl, hi, ho⟩
    have HLE1 := Lib.hid (inA_le 3 s a b HLE.out)
    have HT1 := Lib.hid (HST.out.step hi ho)
    obtain ⟨t1, hv⟩ : ∃ v, inV 3 s a b = v := ⟨_, rfl⟩
    obtain ⟨pa1, hA⟩ : ∃ v, inA 3 s a b = v := ⟨_, rfl⟩
    obtain ⟨pb1, hB⟩ : ∃ v, inB 3 s a b = v := ⟨_, rfl⟩
    rw [hv, hA, hB] at HSIM1
    rw [hA, hB] at HT1
    rw [hA] at HLE1
    rw [hv]
    clear hi ho hv hA hB
    have f0 := HT1.out.rcd.frozen (j := 1) (by simp [Rc.vals])
    have g0 := HT1.out.rcd.cell (j := 1) rfl
    obtain ⟨wt2, hW2⟩ : ∃ v, v = wt1.setCell ⟨m, 1, none⟩ (.int .i64 t1) := ⟨_, rfl⟩
    have HT2 : Hid (rfSt w m wt2 (⟨k, ⟨t1, 0, 0⟩, [], [], a0, a1, a2, a3, a4, a5, false⟩ : Rc) s pa1 pb1 lay0) := Lib.hid (by
      rw [hW2]
      exact HT1.out.put (x' := (⟨k, ⟨t1, 0, 0⟩, [], [], a0, a1, a2, a3, a4, a5, false⟩ : Rc)) (Only.of_set wt1 ⟨m, 1, none⟩ _) (HT1.out.rcd.set_ 1 (.int .i64 t1)) rfl rfl)
    go_wp2_with fail
    rw [← hW2]
    clear hW2 f0 g0
    refine (in_any 3 s pa1 pb1 (w.heap.size + 1) wt2 (by decide) HT2.out.inn HLE1.out HSZ.out).mono ?_
    rintro e wt3 ⟨rfl, hi, ho⟩
    have HLE2 := Lib.hid (inA_le 3 s pa1 pb1 HLE1.out)
    have HT3 := Lib.hid (HT2.out.step hi ho)
    obtain ⟨t2, hv⟩ : ∃ v, inV 3 s pa1 pb1 = v := ⟨_, rfl⟩
    obtain ⟨pa2, hA⟩ : ∃ v, inA 3 s pa1 pb1 = v := ⟨_, rfl⟩
    obtain ⟨pb2, hB⟩ : ∃ v, inB 3 s pa1 pb1 = v := ⟨_, rfl⟩
    rw [hv, hA, hB] at HSIM1
    rw [hA, hB] at HT3
    rw [hA] at HLE2
    rw [hv]
    clear hi ho hv hA hB
    have f0 := HT3.out.rcd.frozen (j := 2) (by simp [Rc.vals])
    have g0 := HT3.out.rcd.cell (j := 2) rfl
    obtain ⟨wt4, hW2⟩ : ∃ v, v = wt3.setCell ⟨m, 2, none⟩ (.int .i64 t2) := ⟨_, rfl⟩
    have HT4 : Hid (rfSt w m wt4 (⟨k, ⟨t1, t2, 0⟩, [], [], a0, a1, a2, a3, a4, a5, false⟩ : Rc) s pa2 pb2 lay0) := Lib.hid (by
      rw [hW2]
      exact HT3.out.put (x' := (⟨k, ⟨t1, t2, 0⟩, [], [], a0, a1, a2, a3, a4, a5, false⟩ : Rc)) (Only.of_set wt3 ⟨m, 2, none⟩ _) (HT3.out.rcd.set_ 2 (.int .i64 t2)) rfl rfl)
    go_wp2_with fail
    rw [← hW2]
    clear hW2 f0 g0
    refine (in_any 3 s pa2 pb2 (w.heap.size + 1) wt4 (by decide) HT4.out.inn HLE2.out HSZ.out).mono ?_
    rintro e wt5 ⟨rfl, hi, ho⟩
    have HLE3 := Lib.hid (inA_le 3 s pa2 pb2 HLE2.out)
    have HT5 := Lib.hid (HT4.out.step hi ho)
    obtain ⟨t3, hv⟩ : ∃ v, inV 3 s pa2 pb2 = v := ⟨_, rfl⟩
    obtain ⟨pa3, hA⟩ : ∃ v, inA 3 s pa2 pb2 = v := ⟨_, rfl⟩
    obtain ⟨pb3, hB⟩ : ∃ v, inB 3 s pa2 pb2 = v := ⟨_, rfl⟩
    rw [hv, hA, hB] at HSIM1
    rw [hA, hB] at HT5
    rw [hA] at HLE3
    rw [hv]
    clear hi ho hv hA hB
    have f0 := HT5.out.rcd.frozen (j := 3) (by simp [Rc.vals])
    have g0 := HT5.out.rcd.cell (j := 3) rfl
    obtain ⟨wt6, hW2⟩ : ∃ v, v = wt5.setCell ⟨m, 3, none⟩ (.int .i64 t3) := ⟨_, rfl⟩
    have HT6 : Hid (rfSt w m wt6 (⟨k, ⟨t1, t2, t3⟩, [], [], a0, a1, a2, a3, a4, a5, false⟩ : Rc) s pa3 pb3 lay0) := Lib.hid (by
      rw [hW2]
      exact HT5.out.put (x' := (⟨k, ⟨t1, t2, t3⟩, [], [], a0, a1, a2, a3, a4, a5, false⟩ : Rc)) (Only.of_set wt5 ⟨m, 3, none⟩ _) (HT5.out.rcd.set_ 3 (.int .i64 t3)) rfl rfl)
    go_wp2_with fail
    rw [← hW2]
    clear hW2 f0 g0
    exact HKT.out _ _ (t17 s w HSZ.out HK.out HT6.out HSIM1.out HD2.out (by kernel_rfl))
end Go.Proofs.Ytfnkjdkckpdfhaa.Msg
