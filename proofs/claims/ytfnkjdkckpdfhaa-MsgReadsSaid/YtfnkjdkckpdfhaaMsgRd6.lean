/-
  Layer 10: the document reads a message, from some place of its code on. Conditions: none.
-/
import Derived.Test.YtfnkjdkckpdfhaaMsgRd5
namespace Go.Proofs.Ytfnkjdkckpdfhaa.Msg
set_option maxRecDepth 100000
open Go.RowKit Go.Proofs.Ytfnkjdkckpdfhaa.Mem Go.Proofs.Ytfnkjdkckpdfhaa.Item Go.Proofs.Ytfnkjdkckpdfhaa.Wire

theorem fin_none {s : ByteArray} (h : dec s = none) : decR s = rc0 ∧ (dec s).isSome = false := by
  unfold decR
  rw [h]
  exact ⟨rfl, rfl⟩
set_option maxHeartbeats 4000000 in
theorem t41 (s : ByteArray) (w : World) (hs : s.size ≤ 1000000) {m : Nat} {wr : World} {k t1 t2 t3 a0 a1 a2 a3 a4 a5 : Int} {a : Nat} {b : Bool} {Ls : List It} {Ms : List Int} {yes : Bool} {A B : Option Addr} {c d : Nat}
    (hst : rfSt w m wr (⟨k, ⟨t1, t2, t3⟩, Ls, Ms, a0, a1, a2, a3, a4, a5, yes⟩ : Rc) s a b (⟨A, c, B, d⟩ : Lay)) (hsim : Sim s (⟨k, ⟨t1, t2, t3⟩, Ls, Ms, a0, a1, a2, a3, a4, a5, yes⟩ : Rc) a b (dec0 s))
    {cc : Code} (hc : cc = sub [1, 1, 1, 1, 1, 1, 1, 1, 1, 1, 1, 1] ((Try.f15.body).getD .skip)) {s1 s3 s7 s8 s9 s10 s11 s12 s13 s14 s15 s16 s17 s18 s19 s20 s21 s22 s23 s24 s25 s26 s27 s28 s29 s30 s31 s32 s33 s34 s35 s36 s37 s38 s39 s40 s41 s42 s43 s44 s45 s46 s47 s48 s49 s50 s51 s52 s53 s54 s55 s56 s57 s58 s59 s60 s61 s62 s63 s64 s65 s66 s67 s68 s69 s70 s71 s72 s73 s74 s75 s76 s77 s78 s79 s80 s81 s82 s83 s84 s85 s86 s87 s88 s89 s90 s91 s92 s93 s94 s95 s96 s97 s98 s99 s100 s101 s102 s103 s104 s105 s106 s107 s108 s109 s110 s111 s112 s113 s114 s115 s116 s117 s118 s119 s120 s121 s122 s123 s124 s125 s126 s127 s128 s129 s130 s131 s132 s133 s134 s135 s136 s137 s138 s139 s140 s141 s142 s143 s144 s145 s146 s147 s148 s149 s150 s151 s152 s153 s154 s155 s156 s157 s158 s159 s160 s161 s162 s163 : Value} :
    cc.wp Try.prog (bodyPost Try.prog Try.f15 (fun e w' => (∃ y, e = .returned (.tuple #[(decR s).val y, .bool (dec s).isSome]) ∧ Has w' (decR s) y) ∧ Below w.heap.size w w')) { tmps := List.toArray (.string s::s1::.pointer (some ⟨w.heap.size, 0, none⟩)::s3::.pointer (some ⟨w.heap.size + 1, 0, none⟩)::.pointer (some ⟨m, 0, none⟩)::.int .i64 k::s7::s8::s9::s10::s11::s12::s13::s14::s15::s16::s17::s18::s19::s20::s21::s22::s23::s24::s25::s26::s27::s28::s29::s30::s31::s32::s33::s34::s35::s36::s37::s38::s39::s40::s41::s42::s43::s44::s45::s46::s47::s48::s49::s50::s51::s52::s53::s54::s55::s56::s57::s58::s59::s60::s61::s62::s63::s64::s65::s66::s67::s68::s69::s70::s71::s72::s73::s74::s75::s76::s77::s78::s79::s80::s81::s82::s83::s84::s85::s86::s87::s88::s89::s90::s91::s92::s93::s94::s95::s96::s97::s98::s99::s100::s101::s102::s103::s104::s105::s106::s107::s108::s109::s110::s111::s112::s113::s114::s115::s116::s117::s118::s119::s120::s121::s122::s123::s124::s125::s126::s127::s128::s129::s130::s131::s132::s133::s134::s135::s136::s137::s138::s139::s140::s141::s142::s143::s144::s145::s146::s147::s148::s149::s150::s151::s152::s153::s154::s155::s156::s157::s158::s159::s160::s161::s162::s163::[]), defers := [] } wr := by
  conv at hc => rhs; whnf
  subst hc
  have HSZ := Lib.hid hs
  have HST := Lib.hid hst
  have HSIM := Lib.hid hsim
  have HFIN0 : Hid ((dec s = none → decR s = rc0 ∧ (dec s).isSome = false) ∧ ∀ x, dec s = some x → decR s = x ∧ (dec s).isSome = true) := Lib.hid (by
    unfold decR
    exact ⟨fun h => by rw [h]; exact ⟨rfl, rfl⟩, fun x h => by rw [h]; exact ⟨rfl, rfl⟩⟩)
  obtain ⟨R, hR⟩ : ∃ R, decR s = R := ⟨_, rfl⟩
  obtain ⟨D, hD⟩ : ∃ D, (dec s).isSome = D := ⟨_, rfl⟩
  rw [hR, hD] at HFIN0
  rw [hR, hD]
  clear hR hD
  obtain ⟨L, hLL⟩ : ∃ L, Ls.length = L := ⟨_, rfl⟩
  obtain ⟨M, hMM⟩ : ∃ M, Ms.length = M := ⟨_, rfl⟩
  have HLM : Hid (Ls.length = L ∧ Ms.length = M) := Lib.hid ⟨hLL, hMM⟩
  clear hst hsim hs hLL hMM
  have i1 := HST.out.inn.cell (j := 1) rfl
  have i2 := HST.out.inn.cell (j := 2) rfl
  go_upto_region 41 with (fail)
  go_cut [161] from 144 to 161 (FinOut s w m (⟨k, ⟨t1, t2, t3⟩, Ls, Ms, a0, a1, a2, a3, a4, a5, yes⟩ : Rc) a b (⟨A, c, B, d⟩ : Lay))
  case first =>
    cases b with
    | true =>
      have HNO := Lib.hid (HSIM.out.fin.1 rfl)
      go_wp2_with fail
      go_meet
      exact ⟨true, rfl, HST.out, fun _ => HNO.out, fun h => by cases h⟩
    | false =>
      by_cases ha : a = s.size
      · subst ha
        have HF3 := Lib.hid (HSIM.out.fin.2.2 rfl rfl)
        have hcq : Cells wr m 31 [.int .i64 k, .int .i64 t1, .int .i64 t2, .int .i64 t3, .slice A L c, .slice B M d, .int .i64 a0, .int .i64 a1, .int .i64 a2, .int .i64 a3, .int .i64 a4, .int .i64 a5, .bool yes] := by
          have hq := HST.out.rcd
          have hlm := HLM.out
          unfold Rc.vals at hq
          simp only [hlm.1, hlm.2] at hq
          exact hq
        have q0 := hcq.cell (j := 0) rfl
        have q1 := hcq.cell (j := 1) rfl
        have q2 := hcq.cell (j := 2) rfl
        have q3 := hcq.cell (j := 3) rfl
        have q4 := hcq.cell (j := 4) rfl
        have q5 := hcq.cell (j := 5) rfl
        have q6 := hcq.cell (j := 6) rfl
        have q7 := hcq.cell (j := 7) rfl
        have q8 := hcq.cell (j := 8) rfl
        have q9 := hcq.cell (j := 9) rfl
        have q10 := hcq.cell (j := 10) rfl
        have q11 := hcq.cell (j := 11) rfl
        have q12 := hcq.cell (j := 12) rfl
        have HRR := Lib.hid (refRight_any (⟨k, ⟨t1, t2, t3⟩, Ls, Ms, a0, a1, a2, a3, a4, a5, yes⟩ : Rc) (⟨A, c, B, d⟩ : Lay) wr HST.out.has (Nat.le_trans HF3.out.2.1.items (by decide)) (Nat.le_trans HF3.out.2.1.nodes (by decide)))
        rw [refRight_eq _ HF3.out.1] at HRR
        have HF4 := Lib.hid HF3.out.2.2
        obtain ⟨rt, hrt⟩ : ∃ rt, right (⟨k, ⟨t1, t2, t3⟩, Ls, Ms, a0, a1, a2, a3, a4, a5, yes⟩ : Rc) = rt := ⟨_, rfl⟩
        rw [hrt] at HRR HF4
        clear hrt HF3 hcq
        have hlm := HLM.out
        unfold Rc.val at HRR
        simp only [hlm.1, hlm.2] at HRR
        clear hlm
        go_wp2_with fail
        refine HRR.out.mono ?_
        rintro e wz ⟨rfl, hbz⟩
        have HEND := Lib.hid (HST.out.later hbz)
        clear hbz
        go_wp2_with fail
        go_meet
        exact ⟨!rt, rfl, HEND.out, fun h => by rw [HF4.out, if_neg (by intro h2; rw [h2] at h; cases h)], fun h => by rw [HF4.out, if_pos (by simpa using h)]⟩
      · have HNO := Lib.hid (HSIM.out.fin.2.1 rfl ha)
        have e1 : ((a : Int) == (s.size : Int)) = false := by simp; omega
        have e2 : ((a : Int) != (s.size : Int)) = true := by simp; omega
        clear ha
        go_wp2_with fail
        go_meet
        exact ⟨true, rfl, HST.out, fun _ => HNO.out, fun h => by cases h⟩
  case rest =>
    obtain ⟨o, rfl, hst, hno, hyes⟩ := hcut
    obtain ⟨wz, hwz⟩ : ∃ wz, wz = wc := ⟨_, rfl⟩
    rw [← hwz] at hst ⊢
    have HEND := Lib.hid hst
    have HNY := Lib.hid (And.intro hno hyes)
    clear hst hno hyes hwz i1 i2
    cases o with
    | true =>
      have HNO := Lib.hid (HFIN0.out.1 (HNY.out.1 rfl))
      go_upto_region 42 with (fail)
      apply wp_region_lit
      refine wpList_buildTo rfl 31 _ rfl (some 162) rfl #[.int .i64 0, .int .i64 0, .int .i64 0, .int .i64 0, .slice none 0 0, .slice none 0 0, .int .i64 0, .int .i64 0, .int .i64 0, .int .i64 0, .int .i64 0, .int .i64 0, .bool false] (by kernel_rfl) ?_
      refine wpList_store_cells rfl 31 _ _ rfl w.heap.size #[.int .i64 0, .int .i64 0, .int .i64 0, .int .i64 0, .slice none 0 0, .slice none 0 0, .int .i64 0, .int .i64 0, .int .i64 0, .int .i64 0, .int .i64 0, .int .i64 0, .bool false] [.int .i64 0, .int .i64 0, .int .i64 0, .int .i64 0, .slice none 0 0, .slice none 0 0, .int .i64 0, .int .i64 0, .int .i64 0, .int .i64 0, .int .i64 0, .int .i64 0, .bool false] rfl rfl rfl HEND.out.res rfl (by kernel_rfl) (by kernel_rfl) fun wv hpt hov => ?_
      have HPT := Lib.hid hpt
      have HO := Lib.hid (HEND.out.ended hov)
      clear hpt hov
      go_wp2_with fail
      refine bodyPost_ret (v := .tuple #[.agg #[.int .i64 0, .int .i64 0, .int .i64 0, .int .i64 0, .slice none 0 0, .slice none 0 0, .int .i64 0, .int .i64 0, .int .i64 0, .int .i64 0, .int .i64 0, .int .i64 0, .bool false], .bool false]) ?_ rfl ?_
      · exact (ret_cell_tmp (p := 2) (q := 3) (ty := 31) (by rfl) _ HPT.out _ (by rfl) Try.underlying31 rfl (by kernel_rfl)).trans (by rfl)
      · exact ⟨⟨lay0, by rw [HNO.out.1, HNO.out.2]; rfl, by rw [HNO.out.1]; exact has0 _⟩, HO.out.2⟩
    | false =>
      have HNO := Lib.hid (HFIN0.out.2 _ (HNY.out.2 rfl))
      have hcq : Cells wz m 31 [.int .i64 k, .int .i64 t1, .int .i64 t2, .int .i64 t3, .slice A L c, .slice B M d, .int .i64 a0, .int .i64 a1, .int .i64 a2, .int .i64 a3, .int .i64 a4, .int .i64 a5, .bool yes] := by
        have hq := HEND.out.rcd
        have hlm := HLM.out
        unfold Rc.vals at hq
        simp only [hlm.1, hlm.2] at hq
        exact hq
      have HCQ := Lib.hid hcq
      clear hcq
      go_upto_region 43 with (fail)
      apply wp_region_lit
      refine wpList_load_cells rfl 31 _ rfl m #[.int .i64 k, .int .i64 t1, .int .i64 t2, .int .i64 t3, .slice A L c, .slice B M d, .int .i64 a0, .int .i64 a1, .int .i64 a2, .int .i64 a3, .int .i64 a4, .int .i64 a5, .bool yes] rfl rfl HCQ.out Try.underlying31 rfl (by kernel_rfl) ?_
      refine wpList_store_cells rfl 31 _ _ rfl w.heap.size #[.int .i64 k, .int .i64 t1, .int .i64 t2, .int .i64 t3, .slice A L c, .slice B M d, .int .i64 a0, .int .i64 a1, .int .i64 a2, .int .i64 a3, .int .i64 a4, .int .i64 a5, .bool yes] [.int .i64 k, .int .i64 t1, .int .i64 t2, .int .i64 t3, .slice A L c, .slice B M d, .int .i64 a0, .int .i64 a1, .int .i64 a2, .int .i64 a3, .int .i64 a4, .int .i64 a5, .bool yes] rfl rfl rfl HEND.out.res rfl (by kernel_rfl) (by kernel_rfl) fun wv hpt hov => ?_
      have HPT := Lib.hid hpt
      have HO := Lib.hid (HEND.out.ended hov)
      clear hpt hov
      go_wp2_with fail
      refine bodyPost_ret (v := .tuple #[.agg #[.int .i64 k, .int .i64 t1, .int .i64 t2, .int .i64 t3, .slice A L c, .slice B M d, .int .i64 a0, .int .i64 a1, .int .i64 a2, .int .i64 a3, .int .i64 a4, .int .i64 a5, .bool yes], .bool true]) ?_ rfl ?_
      · exact (ret_cell_tmp (p := 2) (q := 3) (ty := 31) (by rfl) _ HPT.out _ (by rfl) Try.underlying31 rfl (by kernel_rfl)).trans (by rfl)
      · exact ⟨⟨(⟨A, c, B, d⟩ : Lay), by rw [HNO.out.1, HNO.out.2]; unfold Rc.val; simp only [HLM.out.1, HLM.out.2], by rw [HNO.out.1]; exact HO.out.1⟩, HO.out.2⟩
set_option maxHeartbeats 4000000 in
theorem t39 (s : ByteArray) (w : World) (hs : s.size ≤ 1000000) {m : Nat} {wr : World} {k t1 t2 t3 a0 a1 a2 a3 a4 a5 : Int} {a : Nat} {b : Bool} {Ls : List It} {Ms : List Int} {A B : Option Addr} {c d : Nat}
    (hk : 1 ≤ k ∧ k ≤ 15) (hst : rfSt w m wr (⟨k, ⟨t1, t2, t3⟩, Ls, Ms, a0, a1, a2, a3, a4, a5, false⟩ : Rc) s a b (⟨A, c, B, d⟩ : Lay)) {T : Rc × ByteArray × Bool} (hsim : Sim s (⟨k, ⟨t1, t2, t3⟩, Ls, Ms, a0, a1, a2, a3, a4, a5, false⟩ : Rc) a b T) (hd : dec0 s = e39 k T)
    {cc : Code} (hc : cc = sub [1, 1, 1, 1, 1, 1, 1, 1, 1, 1, 1] ((Try.f15.body).getD .skip)) {s1 s3 s7 s8 s9 s10 s11 s12 s13 s14 s15 s16 s17 s18 s19 s20 s21 s22 s23 s24 s25 s26 s27 s28 s29 s30 s31 s32 s33 s34 s35 s36 s37 s38 s39 s40 s41 s42 s43 s44 s45 s46 s47 s48 s49 s50 s51 s52 s53 s54 s55 s56 s57 s58 s59 s60 s61 s62 s63 s64 s65 s66 s67 s68 s69 s70 s71 s72 s73 s74 s75 s76 s77 s78 s79 s80 s81 s82 s83 s84 s85 s86 s87 s88 s89 s90 s91 s92 s93 s94 s95 s96 s97 s98 s99 s100 s101 s102 s103 s104 s105 s106 s107 s108 s109 s110 s111 s112 s113 s114 s115 s116 s117 s118 s119 s120 s121 s122 s123 s124 s125 s126 s127 s128 s129 s130 s131 s132 s133 s134 s135 s136 s137 s138 s139 s140 s141 s142 s143 s144 s145 s146 s147 s148 s149 s150 s151 s152 s153 s154 s155 s156 s157 s158 s159 s160 s161 s162 s163 : Value} :
    cc.wp Try.prog (bodyPost Try.prog Try.f15 (fun e w' => (∃ y, e = .returned (.tuple #[(decR s).val y, .bool (dec s).isSome]) ∧ Has w' (decR s) y) ∧ Below w.heap.size w w')) { tmps := List.toArray (.string s::s1::.pointer (some ⟨w.heap.size, 0, none⟩)::s3::.pointer (some ⟨w.heap.size + 1, 0, none⟩)::.pointer (some ⟨m, 0, none⟩)::.int .i64 k::s7::s8::s9::s10::s11::s12::s13::s14::s15::s16::s17::s18::s19::s20::s21::s22::s23::s24::s25::s26::s27::s28::s29::s30::s31::s32::s33::s34::s35::s36::s37::s38::s39::s40::s41::s42::s43::s44::s45::s46::s47::s48::s49::s50::s51::s52::s53::s54::s55::s56::s57::s58::s59::s60::s61::s62::s63::s64::s65::s66::s67::s68::s69::s70::s71::s72::s73::s74::s75::s76::s77::s78::s79::s80::s81::s82::s83::s84::s85::s86::s87::s88::s89::s90::s91::s92::s93::s94::s95::s96::s97::s98::s99::s100::s101::s102::s103::s104::s105::s106::s107::s108::s109::s110::s111::s112::s113::s114::s115::s116::s117::s118::s119::s120::s121::s122::s123::s124::s125::s126::s127::s128::s129::s130::s131::s132::s133::s134::s135::s136::s137::s138::s139::s140::s141::s142::s143::s144::s145::s146::s147::s148::s149::s150::s151::s152::s153::s154::s155::s156::s157::s158::s159::s160::s161::s162::s163::[]), defers := [] } wr := by
  conv at hc => rhs; whnf
  subst hc
  have HSZ := Lib.hid hs
  apply wp_seq_k
  intro K hK
  have HKT := Lib.hid hK
  clear hK
  have HST := Lib.hid hst
  have HK := Lib.hid hk
  unfold e39 at hd
  obtain ⟨sy, hsy⟩ : ∃ v, says k = v := ⟨_, rfl⟩
  have HSA := Lib.hid (fun w' => refSays_any k w' hk)
  rw [hsy] at hd HSA
  clear hsy hst hk
  go_wp2_with fail
  refine (HSA.out wr).mono ?_
  rintro e w' ⟨rfl, rfl⟩
  cases sy with
  | false =>
    have HSIM : Hid (Sim s (⟨k, ⟨t1, t2, t3⟩, Ls, Ms, a0, a1, a2, a3, a4, a5, false⟩ : Rc) a b (dec0 s)) := Lib.hid (by rw [hd]; exact hsim)
    clear hd hsim HSA
    go_wp2_with fail
    exact HKT.out _ _ (t41 s w HSZ.out HST.out HSIM.out (by kernel_rfl))
  | true =>
    have HD := Lib.hid (show dec0 s = stepF 9 T from hd)
    have HLE := Lib.hid hsim.pos.le
    have HSIM := Lib.hid hsim.yes
    clear hd hsim HSA
    go_wp2_with fail
    refine (in_any 1 s a b (w.heap.size + 1) wr (by decide) HST.out.inn HLE.out HSZ.out).mono ?_
    rintro e w1 ⟨rfl, hi, ho⟩
    have HLE1 := Lib.hid (inA_le 1 s a b HLE.out)
    have HT1 := Lib.hid (HST.out.step hi ho)
    obtain ⟨yn, hv⟩ : ∃ v, inV 1 s a b = v := ⟨_, rfl⟩
    obtain ⟨pa1, hA⟩ : ∃ v, inA 1 s a b = v := ⟨_, rfl⟩
    obtain ⟨pb1, hB⟩ : ∃ v, inB 1 s a b = v := ⟨_, rfl⟩
    rw [hv, hA, hB] at HSIM
    rw [hA, hB] at HT1
    rw [hA] at HLE1
    rw [hv]
    clear hi ho hv hA hB
    obtain ⟨yv, hy⟩ : ∃ v, (yn == 1) = v := ⟨_, rfl⟩
    rw [hy] at HSIM
    have f0 := HT1.out.rcd.frozen (j := 12) (by simp [Rc.vals])
    have g0 := HT1.out.rcd.cell (j := 12) rfl
    obtain ⟨w2, hW2⟩ : ∃ v, v = w1.setCell ⟨m, 12, none⟩ (.bool yv) := ⟨_, rfl⟩
    have HT2 : Hid (rfSt w m w2 (⟨k, ⟨t1, t2, t3⟩, Ls, Ms, a0, a1, a2, a3, a4, a5, yv⟩ : Rc) s pa1 pb1 (⟨A, c, B, d⟩ : Lay)) := Lib.hid (by
      rw [hW2]
      exact HT1.out.put (x' := (⟨k, ⟨t1, t2, t3⟩, Ls, Ms, a0, a1, a2, a3, a4, a5, yv⟩ : Rc)) (Only.of_set w1 ⟨m, 12, none⟩ _) (HT1.out.rcd.set_ 12 (.bool yv)) rfl rfl)
    have HSIM2 : Hid (Sim s (⟨k, ⟨t1, t2, t3⟩, Ls, Ms, a0, a1, a2, a3, a4, a5, yv⟩ : Rc) pa1 pb1 (dec0 s)) := Lib.hid (by rw [HD.out]; exact HSIM.out)
    go_wp2_with fail
    rw [← hW2]
    clear hW2 f0 g0 hy
    exact HKT.out _ _ (t41 s w HSZ.out HT2.out HSIM2.out (by kernel_rfl))
end Go.Proofs.Ytfnkjdkckpdfhaa.Msg
