/-
  Layer 8: a state's records: the document's answer.
  Conditions: none.
-/
import Derived.Test.YtalhbblmnahcdaaGreatPa51
namespace Go.Proofs.YtalhbblmnahcdaaGreat.Led
set_option maxRecDepth 100000
open Go.RowKit Go.Deep Go.Proofs.YtalhbblmnahcdaaGreat.Mem Go.Proofs.YtalhbblmnahcdaaGreat.Item Go.Proofs.YtalhbblmnahcdaaGreat.Rec
set_option maxHeartbeats 4000000 in
theorem rtd3 {w0 w1 wr : World} {g1 : Nat} {s : St} {y : Sy} (h : Rx 41 w0 w1 g1 s y) (hb : Below w1.heap.size w1 wr) {ls : List Rc} {v : Value} (hr : RwR 55 w1.heap.size ls v wr) (hls : recordsL s = ls ++ (s.com.flatMap rcK))
    {cc : Code} (hc : cc = sub [1, 1, 1, 1, 1, 1] ((Tryz.f29.body).getD .skip)) {s0 s2 s4 s5 s6 s7 s8 s9 s10 s11 s12 s13 s14 s15 s16 s17 s18 s19 s20 s21 s22 s23 s24 s25 s26 s27 s28 s29 s30 s31 s32 s33 s34 s35 s36 s37 s38 s39 s40 s41 s42 s43 s44 s45 s46 s47 s48 s49 s50 s51 s52 s53 s54 s55 s56 s57 s58 s59 s60 s61 s62 s63 s64 s65 s66 s67 s68 s69 s70 s71 s72 s73 s74 s75 s76 s77 s78 s79 s80 s81 s82 s83 s84 s85 s86 s87 s88 s89 s90 s91 s92 s93 s94 s95 s96 s97 s98 s99 s100 s101 s102 s103 s104 s105 s106 s107 s108 s109 s110 s111 s112 s113 s114 s115 s116 s117 s118 s119 s120 s121 s122 s123 s124 s125 s126 s127 s128 s129 s130 s131 s132 s133 s134 s135 s136 s137 s138 s139 s140 s141 s142 s143 s144 s145 s146 s147 s148 s149 s150 s151 s152 s153 s154 s155 s156 s157 s158 s159 : Value} :
    cc.wp Tryz.prog (bodyPost Tryz.prog Tryz.f29 (fun e w' => (∃ A c zs, e = .returned (.slice A (recordsL s).length c) ∧ Recs w' A (recordsL s) zs ∧ (A = none → c = 0)) ∧ Below w0.heap.size w0 w')) { tmps := List.toArray (s0::.pointer (some ⟨g1, 0, none⟩)::s2::v::s4::s5::s6::s7::s8::s9::s10::s11::s12::s13::s14::s15::s16::s17::s18::s19::s20::s21::s22::s23::s24::s25::s26::s27::s28::s29::s30::s31::s32::s33::s34::s35::s36::s37::s38::s39::s40::s41::s42::s43::s44::s45::s46::s47::s48::s49::s50::s51::s52::s53::s54::s55::s56::s57::s58::s59::s60::s61::s62::s63::s64::s65::s66::s67::s68::s69::s70::s71::s72::s73::s74::s75::s76::s77::s78::s79::s80::s81::s82::s83::s84::s85::s86::s87::s88::s89::s90::s91::s92::s93::s94::s95::s96::s97::s98::s99::s100::s101::s102::s103::s104::s105::s106::s107::s108::s109::s110::s111::s112::s113::s114::s115::s116::s117::s118::s119::s120::s121::s122::s123::s124::s125::s126::s127::s128::s129::s130::s131::s132::s133::s134::s135::s136::s137::s138::s139::s140::s141::s142::s143::s144::s145::s146::s147::s148::s149::s150::s151::s152::s153::s154::s155::s156::s157::s158::s159::[]), defers := [] } wr := by
  conv at hc => rhs; whnf
  subst hc
  apply wp_seq_k
  intro K hK
  have HKT := Lib.hid hK
  clear hK
  obtain ⟨yP, yp, yQ, yq, yD, yd, yC, yc, yps, ycs⟩ := y
  have HX := Lib.hid h
  have HB0 := Lib.hid hb
  have HR0 := Lib.hid hr
  have HLS := Lib.hid hls
  obtain ⟨n, hn⟩ : ∃ n, s.com.length = n := ⟨_, rfl⟩
  have HN := Lib.hid hn
  have hnb : n ≤ 100000 := by rw [← hn]; exact h.sm.com
  have HLL : Hid (ls.length ≤ 1000000) := Lib.hid (by
    have h1 := congrArg List.length hls
    rw [List.length_append] at h1
    have h2 := recs_len h.sm
    omega)
  have hcx : wr.cell? ⟨g1, 7, none⟩ = some (.slice yC n yc) := by rw [← hn]; exact (h.box.later hb).cell (j := 7) rfl
  clear h hb hr hls hn
  go_wp2_with fail
  go_loopw [3, 8, 9] (fun v i _ wr => ∃ (j : Nat), j ≤ n ∧ i = .int .i64 (j : Int) ∧ Hid (RwR 55 w1.heap.size (ls ++ (s.com.take j).flatMap rcK) v wr) ∧ Hid (Below w1.heap.size w1 wr)) (fun _ i _ _ => n - (intOf i).toNat)
  case atStart => exact ⟨0, Nat.zero_le _, rfl, Lib.hid (by simpa [cellsFrom] using HR0.out), HB0⟩
  case round =>
    clear hcx
    obtain ⟨j, hj, rfl, HR, HB⟩ := hrel
    have hcx : wr.cell? ⟨g1, 7, none⟩ = some (.slice yC n yc) := by rw [← HN.out]; exact (HX.out.box.later HB.out).cell (j := 7) rfl
    by_cases hlt : j < n
    · have hl0 : j < s.com.length := by rw [HN.out]; exact hlt
      have hse := HX.out.see.later HB.out
      have HPL : Hid ((ls ++ (s.com.take j).flatMap rcK).length ≤ 900000000) := Lib.hid (by
        have h1 := HLL.out
        have h2 : ((s.com.take j).flatMap rcK).length ≤ 1000000 := (Nat.le_trans (flatK_len _) (by rw [List.length_take]; omega))
        rw [List.length_append]
        omega)
      have hy0 : j < ycs.length := by have := hse.cs; simp only at this; omega
      have htx := fun w2 (h2 : Below w1.heap.size wr w2) => (HX.out.see.later (HB.out.trans h2)).cin j hl0 hy0
      obtain ⟨bb, off, hA, hr0⟩ := hse.com j (by rw [List.length_zipWith]; simp only; omega)
      have ht0 := hse.cin j hl0 hy0
      simp only at hA
      subst hA
      rw [List.getElem_zipWith] at hr0
      simp only at hr0 ht0 htx
      obtain ⟨p, hp⟩ : ∃ p, s.com[j] = p := ⟨_, rfl⟩
      have HTK : Hid (s.com.take (j + 1) = s.com.take j ++ [p]) := Lib.hid (by rw [List.take_succ_eq_append_getElem hl0, hp])
      have HSM : Hid (p.items.length ≤ 100000 ∧ p.nodes.length ≤ 100000) := Lib.hid (by rw [← hp]; exact HX.out.sm.cin _ (List.getElem_mem hl0))
      obtain ⟨la, hla⟩ : ∃ l, ycs[j] = l := ⟨_, rfl⟩
      rw [hla] at hr0 ht0
      rw [hp] at ht0
      simp only [hla, hp] at htx
      have HTW := Lib.hid ht0
      have HTX : Hid (∀ w2, Below w1.heap.size wr w2 → Two w2 p.items p.nodes la) := Lib.hid htx
      rw [hp] at hr0
      clear hp hl0 hse hla hy0 ht0 htx
      have z0 : wr.cell? ⟨bb, off + j * 6, none⟩ = some (.int .i64 p.tid.node) := hr0 0 _ rfl
      have z1 : wr.cell? ⟨bb, off + j * 6 + 1, none⟩ = some (.int .i64 p.tid.epoch) := hr0 1 _ rfl
      have z2 : wr.cell? ⟨bb, off + j * 6 + 2, none⟩ = some (.int .i64 p.tid.seq) := hr0 2 _ rfl
      have z3 : wr.cell? ⟨bb, off + j * 6 + 3, none⟩ = some (.slice la.A p.items.length la.c) := hr0 3 _ rfl
      have z4 : wr.cell? ⟨bb, off + j * 6 + 4, none⟩ = some (.slice la.B p.nodes.length la.d) := hr0 4 _ rfl
      have z5 : wr.cell? ⟨bb, off + j * 6 + 5, none⟩ = some (.bool p.over) := hr0 5 _ rfl
      obtain ⟨wa, hwa⟩ : ∃ v, v = wr.alloc (.cells #[.int .i64 p.tid.node, .int .i64 p.tid.epoch, .int .i64 p.tid.seq, .slice la.A p.items.length la.c, .slice la.B p.nodes.length la.d, .bool p.over] 85) := ⟨_, rfl⟩
      have hba : Below wr.heap.size wr wa := by rw [hwa]; exact below_alloc _ _
      have HRA := Lib.hid (HR.out.later hba)
      have HBA := Lib.hid (HB.out.trans (hba.mono HB.out.size))
      have HPC := Lib.hid (show Cells wa wr.heap.size 85 [.int .i64 p.tid.node, .int .i64 p.tid.epoch, .int .i64 p.tid.seq, .slice la.A p.items.length la.c, .slice la.B p.nodes.length la.d, .bool p.over] by rw [hwa]; exact cells_new _ _ _ _ rfl)
      have HOWN : Hid (∀ j, some j = u3.ownBlock → j < wr.heap.size) := Lib.hid (fun j e => by
        obtain ⟨_, _, hrow, _⟩ := HR.out
        exact (hrow.lt j e.symm).2)
      have HBAR := Lib.hid (hba.mono HB.out.size)
      obtain ⟨lq, hlq⟩ : ∃ q, (ls ++ (s.com.take j).flatMap rcK) = q := ⟨_, rfl⟩
      have HLQ := Lib.hid hlq
      rw [hlq] at HRA HPL
      go_upto_region 22 with (fail)
      rw [← hwa]
      clear hwa hba hlq z0 z1 z2 z3 z4 z5
      obtain ⟨gp, hgp⟩ : ∃ q, wr.heap.size = q := ⟨_, rfl⟩
      rw [hgp] at HPC HOWN
      try rw [hgp]
      clear hgp
      have x0 : wa.cell? ⟨gp, 0, none⟩ = some (.int .i64 p.tid.node) := HPC.out.cell (j := 0) rfl
      have x1 : wa.cell? ⟨gp, 1, none⟩ = some (.int .i64 p.tid.epoch) := HPC.out.cell (j := 1) rfl
      have x2 : wa.cell? ⟨gp, 2, none⟩ = some (.int .i64 p.tid.seq) := HPC.out.cell (j := 2) rfl
      have x3 : wa.cell? ⟨gp, 3, none⟩ = some (.slice la.A p.items.length la.c) := HPC.out.cell (j := 3) rfl
      have x4 : wa.cell? ⟨gp, 4, none⟩ = some (.slice la.B p.nodes.length la.d) := HPC.out.cell (j := 4) rfl
      have x5 : wa.cell? ⟨gp, 5, none⟩ = some (.bool p.over) := HPC.out.cell (j := 5) rfl
      obtain ⟨wb, hwb⟩ : ∃ v, v = wa.alloc (.cells #[.int .i64 5, .int .i64 p.tid.node, .int .i64 p.tid.epoch, .int .i64 p.tid.seq, .slice la.A p.items.length la.c, .slice la.B p.nodes.length la.d, .int .i64 0, .int .i64 0, .int .i64 0, .int .i64 0, .int .i64 0, .int .i64 0, .int .i64 0, .int .i64 0, .bool false] 55) := ⟨_, rfl⟩
      have hbb : Below wa.heap.size wa wb := by rw [hwb]; exact below_alloc _ _
      have hcb : Cells wb wa.heap.size 55 (Rc.vals (rcK1 p) la) := by rw [hwb]; exact cells_new _ _ _ _ rfl
      obtain ⟨A, m, c, w', hrun, hrw, hbw⟩ := HRA.out.more rt_ref HBA.out.size (rcK1 p) la wb hbb (HRA.out.fr hbb HBA.out.size (fun w2 h2 => HTX.out w2 ((HBAR.out).trans h2))) (by have := HPL.out; first | omega | (simp only [List.length_append, List.length_singleton] at this ⊢; omega)) (wa.heap.size) hcb
      have HRUN := Lib.hid hrun
      have hqc := cells_only (HPC.out.later hbb) hbw (fun e => Nat.lt_irrefl _ (HOWN.out _ e))
      have QR : Hid (RwR 55 w1.heap.size (lq ++ [(rcK1 p)]) (.slice A m c) w') := Lib.hid hrw
      have QB : Hid (Below w1.heap.size w1 w') := Lib.hid (HBA.out.trans (HRA.out.bel hbb HBA.out.size hbw))
      clear hrun hrw hbw hcb hbb
      obtain ⟨ov, hov⟩ : ∃ q, p.over = q := ⟨_, rfl⟩
      have HOV := Lib.hid hov
      rw [hov] at hqc x5
      clear hov
      have y0 : w'.cell? ⟨gp, 0, none⟩ = some (.int .i64 p.tid.node) := hqc.cell (j := 0) rfl
      have y1 : w'.cell? ⟨gp, 1, none⟩ = some (.int .i64 p.tid.epoch) := hqc.cell (j := 1) rfl
      have y2 : w'.cell? ⟨gp, 2, none⟩ = some (.int .i64 p.tid.seq) := hqc.cell (j := 2) rfl
      have y3 : w'.cell? ⟨gp, 3, none⟩ = some (.slice la.A p.items.length la.c) := hqc.cell (j := 3) rfl
      have y4 : w'.cell? ⟨gp, 4, none⟩ = some (.slice la.B p.nodes.length la.d) := hqc.cell (j := 4) rfl
      have y5 : w'.cell? ⟨gp, 5, none⟩ = some (.bool ov) := hqc.cell (j := 5) rfl
      clear hqc
      cases ov with
      | false =>
        have HRN : Hid (RwR 55 w1.heap.size (ls ++ (s.com.take (j + 1)).flatMap rcK) (.slice A m c) w') := Lib.hid (by
          have h := QR.out
          rw [← HLQ.out] at h
          rw [HTK.out, List.flatMap_append, List.flatMap_singleton, rcK, HOV.out, if_neg (by decide), ← List.append_assoc]
          exact h)
        go_wp2_with (at_builtin
                     rw [← hwb]
                     refine Lib.wpList_append_run _ rfl _ _ 67 67 rfl _ _ rfl rfl _ _ HRUN.out ?_)
        go_roundw
        case rel => exact ⟨j + 1, by omega, by go_num, HRN, QB⟩
        case measure => simp [intOf]; omega
      | true =>
        obtain ⟨wb2, hwb2⟩ : ∃ v, v = w'.alloc (.cells #[.int .i64 7, .int .i64 p.tid.node, .int .i64 p.tid.epoch, .int .i64 p.tid.seq, .slice none 0 0, .slice none 0 0, .int .i64 0, .int .i64 0, .int .i64 0, .int .i64 0, .int .i64 0, .int .i64 0, .int .i64 0, .int .i64 0, .bool false] 55) := ⟨_, rfl⟩
        have hbb2 : Below w'.heap.size w' wb2 := by rw [hwb2]; exact below_alloc _ _
        have hcb2 : Cells wb2 w'.heap.size 55 (Rc.vals (rcK2 p) ⟨none, 0, none, 0⟩) := by rw [hwb2]; exact cells_new _ _ _ _ rfl
        obtain ⟨A2, m2, c2, w3, hrun2, hrw2, hbw2⟩ := QR.out.more rt_ref QB.out.size (rcK2 p) ⟨none, 0, none, 0⟩ wb2 hbb2 (fr_nil _ _ rfl rfl) (by have := HPL.out; first | omega | (simp only [List.length_append, List.length_singleton] at this ⊢; omega)) (w'.heap.size) hcb2
        have HRUN2 := Lib.hid hrun2
        have ZR : Hid (RwR 55 w1.heap.size ((lq ++ [rcK1 p]) ++ [(rcK2 p)]) (.slice A2 m2 c2) w3) := Lib.hid hrw2
        have ZB : Hid (Below w1.heap.size w1 w3) := Lib.hid (QB.out.trans (QR.out.bel hbb2 QB.out.size hbw2))
        clear hrun2 hrw2 hbw2 hcb2 hbb2
        have HRN : Hid (RwR 55 w1.heap.size (ls ++ (s.com.take (j + 1)).flatMap rcK) (.slice A2 m2 c2) w3) := Lib.hid (by
          have h := ZR.out
          rw [← HLQ.out] at h
          rw [HTK.out, List.flatMap_append, List.flatMap_singleton, rcK, HOV.out, if_pos rfl, ← List.append_assoc]
          simpa [List.append_assoc] using h)
        go_wp2_with (at_builtin; first | (rw [← hwb]; refine Lib.wpList_append_run _ rfl _ _ 67 67 rfl _ _ rfl rfl _ _ HRUN.out ?_) | (rw [← hwb2]; refine Lib.wpList_append_run _ rfl _ _ 67 67 rfl _ _ rfl rfl _ _ HRUN2.out ?_))
        go_roundw
        case rel => exact ⟨j + 1, by omega, by go_num, HRN, ZB⟩
        case measure => simp [intOf]; omega
    · have hjn : j = n := by omega
      have HR2 : Hid (RwR 55 w1.heap.size (ls ++ s.com.flatMap rcK) u3 wr) := Lib.hid (by
        have h := HR.out
        rw [List.take_of_length_le (by have := HN.out; omega)] at h
        exact h)
      clear hjn
      have HFIN : Hid (RwR 55 w1.heap.size (recordsL s) u3 wr) := Lib.hid (by rw [HLS.out]; exact HR2.out)
      go_wp2_with fail
      refine HKT.out _ _ ?_
      go_wp2_with fail
      obtain ⟨A, c, zs, hv, hre, hcc⟩ := HFIN.out.recs
      subst hv
      go_returns
      exact ⟨⟨A, c, zs, rfl, hre, hcc⟩, HX.out.low.trans (HB.out.mono HX.out.low.size)⟩
set_option maxHeartbeats 4000000 in
theorem rtd2 {w0 w1 wr : World} {g1 : Nat} {s : St} {y : Sy} (h : Rx 41 w0 w1 g1 s y) (hb : Below w1.heap.size w1 wr) {ls : List Rc} {v : Value} (hr : RwR 55 w1.heap.size ls v wr) (hls : recordsL s = ls ++ (s.prep.map rcR ++ s.com.flatMap rcK))
    {cc : Code} (hc : cc = sub [1, 1, 1, 1, 1] ((Tryz.f29.body).getD .skip)) {s0 s2 s4 s5 s6 s7 s8 s9 s10 s11 s12 s13 s14 s15 s16 s17 s18 s19 s20 s21 s22 s23 s24 s25 s26 s27 s28 s29 s30 s31 s32 s33 s34 s35 s36 s37 s38 s39 s40 s41 s42 s43 s44 s45 s46 s47 s48 s49 s50 s51 s52 s53 s54 s55 s56 s57 s58 s59 s60 s61 s62 s63 s64 s65 s66 s67 s68 s69 s70 s71 s72 s73 s74 s75 s76 s77 s78 s79 s80 s81 s82 s83 s84 s85 s86 s87 s88 s89 s90 s91 s92 s93 s94 s95 s96 s97 s98 s99 s100 s101 s102 s103 s104 s105 s106 s107 s108 s109 s110 s111 s112 s113 s114 s115 s116 s117 s118 s119 s120 s121 s122 s123 s124 s125 s126 s127 s128 s129 s130 s131 s132 s133 s134 s135 s136 s137 s138 s139 s140 s141 s142 s143 s144 s145 s146 s147 s148 s149 s150 s151 s152 s153 s154 s155 s156 s157 s158 s159 : Value} :
    cc.wp Tryz.prog (bodyPost Tryz.prog Tryz.f29 (fun e w' => (∃ A c zs, e = .returned (.slice A (recordsL s).length c) ∧ Recs w' A (recordsL s) zs ∧ (A = none → c = 0)) ∧ Below w0.heap.size w0 w')) { tmps := List.toArray (s0::.pointer (some ⟨g1, 0, none⟩)::s2::v::s4::s5::s6::s7::s8::s9::s10::s11::s12::s13::s14::s15::s16::s17::s18::s19::s20::s21::s22::s23::s24::s25::s26::s27::s28::s29::s30::s31::s32::s33::s34::s35::s36::s37::s38::s39::s40::s41::s42::s43::s44::s45::s46::s47::s48::s49::s50::s51::s52::s53::s54::s55::s56::s57::s58::s59::s60::s61::s62::s63::s64::s65::s66::s67::s68::s69::s70::s71::s72::s73::s74::s75::s76::s77::s78::s79::s80::s81::s82::s83::s84::s85::s86::s87::s88::s89::s90::s91::s92::s93::s94::s95::s96::s97::s98::s99::s100::s101::s102::s103::s104::s105::s106::s107::s108::s109::s110::s111::s112::s113::s114::s115::s116::s117::s118::s119::s120::s121::s122::s123::s124::s125::s126::s127::s128::s129::s130::s131::s132::s133::s134::s135::s136::s137::s138::s139::s140::s141::s142::s143::s144::s145::s146::s147::s148::s149::s150::s151::s152::s153::s154::s155::s156::s157::s158::s159::[]), defers := [] } wr := by
  conv at hc => rhs; whnf
  subst hc
  apply wp_seq_k
  intro K hK
  have HKT := Lib.hid hK
  clear hK
  obtain ⟨yP, yp, yQ, yq, yD, yd, yC, yc, yps, ycs⟩ := y
  have HX := Lib.hid h
  have HB0 := Lib.hid hb
  have HR0 := Lib.hid hr
  have HLS := Lib.hid hls
  obtain ⟨n, hn⟩ : ∃ n, s.prep.length = n := ⟨_, rfl⟩
  have HN := Lib.hid hn
  have hnb : n ≤ 100000 := by rw [← hn]; exact h.sm.prep
  have HLL : Hid (ls.length ≤ 1000000) := Lib.hid (by
    have h1 := congrArg List.length hls
    rw [List.length_append] at h1
    have h2 := recs_len h.sm
    omega)
  have hcx : wr.cell? ⟨g1, 5, none⟩ = some (.slice yQ n yq) := by rw [← hn]; exact (h.box.later hb).cell (j := 5) rfl
  clear h hb hr hls hn
  go_wp2_with fail
  go_loopw [3, 7] (fun v i wr => ∃ (j : Nat), j ≤ n ∧ i = .int .i64 (j : Int) ∧ Hid (RwR 55 w1.heap.size (ls ++ (s.prep.take j).map rcR) v wr) ∧ Hid (Below w1.heap.size w1 wr)) (fun _ i _ => n - (intOf i).toNat)
  case atStart => exact ⟨0, Nat.zero_le _, rfl, Lib.hid (by simpa [cellsFrom] using HR0.out), HB0⟩
  case round =>
    clear hcx
    obtain ⟨j, hj, rfl, HR, HB⟩ := hrel
    have hcx : wr.cell? ⟨g1, 5, none⟩ = some (.slice yQ n yq) := by rw [← HN.out]; exact (HX.out.box.later HB.out).cell (j := 5) rfl
    by_cases hlt : j < n
    · have hl0 : j < s.prep.length := by rw [HN.out]; exact hlt
      have hse := HX.out.see.later HB.out
      have HPL : Hid ((ls ++ (s.prep.take j).map rcR).length ≤ 900000000) := Lib.hid (by
        have h1 := HLL.out
        have h2 : ((s.prep.take j).map rcR).length ≤ 1000000 := (by rw [List.length_map, List.length_take]; omega)
        rw [List.length_append]
        omega)
      have hy0 : j < yps.length := by have := hse.ps; simp only at this; omega
      have htx := fun w2 (h2 : Below w1.heap.size wr w2) => (HX.out.see.later (HB.out.trans h2)).pin j hl0 hy0
      obtain ⟨bb, off, hA, hr0⟩ := hse.prep j (by rw [List.length_zipWith]; simp only; omega)
      have ht0 := hse.pin j hl0 hy0
      simp only at hA
      subst hA
      rw [List.getElem_zipWith] at hr0
      simp only at hr0 ht0 htx
      obtain ⟨p, hp⟩ : ∃ p, s.prep[j] = p := ⟨_, rfl⟩
      have HTK : Hid (s.prep.take (j + 1) = s.prep.take j ++ [p]) := Lib.hid (by rw [List.take_succ_eq_append_getElem hl0, hp])
      have HSM : Hid (p.items.length ≤ 100000 ∧ p.nodes.length ≤ 100000) := Lib.hid (by rw [← hp]; exact HX.out.sm.pin _ (List.getElem_mem hl0))
      obtain ⟨la, hla⟩ : ∃ l, yps[j] = l := ⟨_, rfl⟩
      rw [hla] at hr0 ht0
      rw [hp] at ht0
      simp only [hla, hp] at htx
      have HTW := Lib.hid ht0
      have HTX : Hid (∀ w2, Below w1.heap.size wr w2 → Two w2 p.items p.nodes la) := Lib.hid htx
      rw [hp] at hr0
      clear hp hl0 hse hla hy0 ht0 htx
      have z0 : wr.cell? ⟨bb, off + j * 5, none⟩ = some (.int .i64 p.tid.node) := hr0 0 _ rfl
      have z1 : wr.cell? ⟨bb, off + j * 5 + 1, none⟩ = some (.int .i64 p.tid.epoch) := hr0 1 _ rfl
      have z2 : wr.cell? ⟨bb, off + j * 5 + 2, none⟩ = some (.int .i64 p.tid.seq) := hr0 2 _ rfl
      have z3 : wr.cell? ⟨bb, off + j * 5 + 3, none⟩ = some (.slice la.A p.items.length la.c) := hr0 3 _ rfl
      have z4 : wr.cell? ⟨bb, off + j * 5 + 4, none⟩ = some (.slice la.B p.nodes.length la.d) := hr0 4 _ rfl
      have HRZ := Lib.hid hr0
      have HCX : Hid (∀ wi, Below wr.heap.size wr wi → wi.cell? ⟨g1, 5, none⟩ = some (.slice (some ⟨bb, off, none⟩) n yq)) := Lib.hid (fun wi hi => lowc hi hcx)
      have HJ : Hid (j < n ∧ ((j : Int).toNat = j)) := Lib.hid ⟨hlt, by omega⟩
      obtain ⟨lq, hlq⟩ : ∃ q, (ls ++ (s.prep.take j).map rcR) = q := ⟨_, rfl⟩
      have HLQ := Lib.hid hlq
      rw [hlq] at HR HPL
      go_upto_region 17 with (fail)
      clear hlq hr0 z0 z1 z2 z3 z4
      refine Reg.region_inv (by kernel_rfl) (fun i => ([some (u3), some (.pointer (some ⟨g1, 5, none⟩)), some (.slice (some ⟨bb, off, none⟩) n yq), some (.int .i64 (j : Int)), some (.pointer (some ⟨bb, off + j * 5, none⟩)), some (.pointer (some ⟨bb, off + j * 5, none⟩)), some (.agg #[.int .i64 p.tid.node, .int .i64 p.tid.epoch, .int .i64 p.tid.seq]), some (.pointer (some ⟨g1, 5, none⟩)), some (.slice (some ⟨bb, off, none⟩) n yq), some (.int .i64 (j : Int)), some (.pointer (some ⟨bb, off + j * 5, none⟩)), some (.pointer (some ⟨bb, off + j * 5 + 3, none⟩)), some (.slice la.A p.items.length la.c), some (.pointer (some ⟨g1, 5, none⟩)), some (.slice (some ⟨bb, off, none⟩) n yq), some (.int .i64 (j : Int)), some (.pointer (some ⟨bb, off + j * 5, none⟩)), some (.pointer (some ⟨bb, off + j * 5 + 4, none⟩)), some (.slice la.B p.nodes.length la.d), some (.agg #[.int .i64 4, .int .i64 p.tid.node, .int .i64 p.tid.epoch, .int .i64 p.tid.seq, .slice la.A p.items.length la.c, .slice la.B p.nodes.length la.d, .int .i64 0, .int .i64 0, .int .i64 0, .int .i64 0, .int .i64 0, .int .i64 0, .int .i64 0, .int .i64 0, .bool false]), none, none, none] : List (Option Value)).getD i none) (fun D V W => (apR 55 w1.heap.size lq (rcR p) la wr u3 (D 20) (D 21) (V 20) (V 21) W) ∧ ((D 22) = true → V 22 = V 21)) (fun V => [(some 107, V 0), (some 108, V 1), (some 109, V 2), (some 110, V 3), (some 111, V 4), (some 112, V 5), (some 113, V 6), (some 114, V 7), (some 115, V 8), (some 116, V 9), (some 117, V 10), (some 118, V 11), (some 119, V 12), (some 120, V 13), (some 121, V 14), (some 122, V 15), (some 123, V 16), (some 124, V 17), (some 125, V 18), (some 126, V 19), (some 127, V 20), (some 128, V 21), (some 3, V 22)]) (by kernel_rfl) (by kernel_rfl) (fun V => rfl) ?_ ?_ ?_
      · intro V
        exact ⟨apR.start (Below.refl _ _).drew _ _, fun e => (by cases e)⟩
      · intro i o ho
        have hi : i < 23 := (Array.getElem?_eq_some_iff.1 ho).1
        rcases i with _ | _ | _ | _ | _ | _ | _ | _ | _ | _ | _ | _ | _ | _ | _ | _ | _ | _ | _ | _ | _ | _ | _ | i
        rotate_right
        · omega
        all_goals obtain rfl := Option.some.inj ho
        all_goals intro D V ρ wi hE hI hDi hT hF hs hd hk
        · have e3 : ρ (.tmp 3) = u3 := hs 3; clear hT hF hk
          exact Reg.Gives.value (v := u3) (w' := wi) (by go_simp) ⟨fun x h => Option.some.inj h, hI⟩
        · have e1 : ρ (.tmp 1) = .pointer (some ⟨g1, 0, none⟩) := hs 1; clear hT hF hk
          exact Reg.Gives.value (v := .pointer (some ⟨g1, 5, none⟩)) (w' := wi) (by go_simp) ⟨fun x h => Option.some.inj h, hI⟩
        · have e108 : ρ (.tmp 108) = .pointer (some ⟨g1, 5, none⟩) := (hd 1 108).trans (hk 1 _ rfl); have hD21 : D 21 = false := hF 6 21; clear hT hF; have hx := HCX.out wi (hI.1.low hD21)
          exact Reg.Gives.value (v := .slice (some ⟨bb, off, none⟩) n yq) (w' := wi) (by go_simp) ⟨fun x h => Option.some.inj h, hI⟩
        · have e7 : ρ (.tmp 7) = .int .i64 (j : Int) := hs 7; clear hT hF hk
          exact Reg.Gives.value (v := .int .i64 (j : Int)) (w' := wi) (by go_simp) ⟨fun x h => Option.some.inj h, hI⟩
        · have e109 : ρ (.tmp 109) = .slice (some ⟨bb, off, none⟩) n yq := (hd 2 109).trans (hk 2 _ rfl); have e110 : ρ (.tmp 110) = .int .i64 (j : Int) := (hd 3 110).trans (hk 3 _ rfl); clear hT hF; have hx1 := HJ.out.1; have hx2 := HJ.out.2
          exact Reg.Gives.value (v := .pointer (some ⟨bb, off + j * 5, none⟩)) (w' := wi) (by go_simp) ⟨fun x h => Option.some.inj h, hI⟩
        · have e111 : ρ (.tmp 111) = .pointer (some ⟨bb, off + j * 5, none⟩) := (hd 4 111).trans (hk 4 _ rfl); clear hT hF hk
          exact Reg.Gives.value (v := .pointer (some ⟨bb, off + j * 5, none⟩)) (w' := wi) (by go_simp) ⟨fun x h => Option.some.inj h, hI⟩
        · have e112 : ρ (.tmp 112) = .pointer (some ⟨bb, off + j * 5, none⟩) := (hd 5 112).trans (hk 5 _ rfl); have hD21 : D 21 = false := hF 3 21; clear hT hF; have hr := range_later HRZ.out (hI.1.low hD21); have x0 : wi.cell? ⟨bb, off + j * 5, none⟩ = some (.int .i64 p.tid.node) := hr 0 _ rfl; have x1 : wi.cell? ⟨bb, off + j * 5 + 1, none⟩ = some (.int .i64 p.tid.epoch) := hr 1 _ rfl
          have x2 : wi.cell? ⟨bb, off + j * 5 + 2, none⟩ = some (.int .i64 p.tid.seq) := hr 2 _ rfl
          exact Reg.Gives.value (v := .agg #[.int .i64 p.tid.node, .int .i64 p.tid.epoch, .int .i64 p.tid.seq]) (w' := wi) (by go_simp) ⟨fun x h => Option.some.inj h, hI⟩
        · have e1 : ρ (.tmp 1) = .pointer (some ⟨g1, 0, none⟩) := hs 1; clear hT hF hk
          exact Reg.Gives.value (v := .pointer (some ⟨g1, 5, none⟩)) (w' := wi) (by go_simp) ⟨fun x h => Option.some.inj h, hI⟩
        · have e114 : ρ (.tmp 114) = .pointer (some ⟨g1, 5, none⟩) := (hd 7 114).trans (hk 7 _ rfl); have hD21 : D 21 = false := hF 6 21; clear hT hF; have hx := HCX.out wi (hI.1.low hD21)
          exact Reg.Gives.value (v := .slice (some ⟨bb, off, none⟩) n yq) (w' := wi) (by go_simp) ⟨fun x h => Option.some.inj h, hI⟩
        · have e7 : ρ (.tmp 7) = .int .i64 (j : Int) := hs 7; clear hT hF hk
          exact Reg.Gives.value (v := .int .i64 (j : Int)) (w' := wi) (by go_simp) ⟨fun x h => Option.some.inj h, hI⟩
        · have e115 : ρ (.tmp 115) = .slice (some ⟨bb, off, none⟩) n yq := (hd 8 115).trans (hk 8 _ rfl); have e116 : ρ (.tmp 116) = .int .i64 (j : Int) := (hd 9 116).trans (hk 9 _ rfl); clear hT hF; have hx1 := HJ.out.1; have hx2 := HJ.out.2
          exact Reg.Gives.value (v := .pointer (some ⟨bb, off + j * 5, none⟩)) (w' := wi) (by go_simp) ⟨fun x h => Option.some.inj h, hI⟩
        · have e117 : ρ (.tmp 117) = .pointer (some ⟨bb, off + j * 5, none⟩) := (hd 10 117).trans (hk 10 _ rfl); clear hT hF hk
          exact Reg.Gives.value (v := .pointer (some ⟨bb, off + j * 5 + 3, none⟩)) (w' := wi) (by go_simp) ⟨fun x h => Option.some.inj h, hI⟩
        · have e118 : ρ (.tmp 118) = .pointer (some ⟨bb, off + j * 5 + 3, none⟩) := (hd 11 118).trans (hk 11 _ rfl); have hD21 : D 21 = false := hF 3 21; clear hT hF; have hr := range_later HRZ.out (hI.1.low hD21); have x0 : wi.cell? ⟨bb, off + j * 5 + 3, none⟩ = some (.slice la.A p.items.length la.c) := hr 3 _ rfl
          exact Reg.Gives.value (v := .slice la.A p.items.length la.c) (w' := wi) (by go_simp) ⟨fun x h => Option.some.inj h, hI⟩
        · have e1 : ρ (.tmp 1) = .pointer (some ⟨g1, 0, none⟩) := hs 1; clear hT hF hk
          exact Reg.Gives.value (v := .pointer (some ⟨g1, 5, none⟩)) (w' := wi) (by go_simp) ⟨fun x h => Option.some.inj h, hI⟩
        · have e120 : ρ (.tmp 120) = .pointer (some ⟨g1, 5, none⟩) := (hd 13 120).trans (hk 13 _ rfl); have hD21 : D 21 = false := hF 6 21; clear hT hF; have hx := HCX.out wi (hI.1.low hD21)
          exact Reg.Gives.value (v := .slice (some ⟨bb, off, none⟩) n yq) (w' := wi) (by go_simp) ⟨fun x h => Option.some.inj h, hI⟩
        · have e7 : ρ (.tmp 7) = .int .i64 (j : Int) := hs 7; clear hT hF hk
          exact Reg.Gives.value (v := .int .i64 (j : Int)) (w' := wi) (by go_simp) ⟨fun x h => Option.some.inj h, hI⟩
        · have e121 : ρ (.tmp 121) = .slice (some ⟨bb, off, none⟩) n yq := (hd 14 121).trans (hk 14 _ rfl); have e122 : ρ (.tmp 122) = .int .i64 (j : Int) := (hd 15 122).trans (hk 15 _ rfl); clear hT hF; have hx1 := HJ.out.1; have hx2 := HJ.out.2
          exact Reg.Gives.value (v := .pointer (some ⟨bb, off + j * 5, none⟩)) (w' := wi) (by go_simp) ⟨fun x h => Option.some.inj h, hI⟩
        · have e123 : ρ (.tmp 123) = .pointer (some ⟨bb, off + j * 5, none⟩) := (hd 16 123).trans (hk 16 _ rfl); clear hT hF hk
          exact Reg.Gives.value (v := .pointer (some ⟨bb, off + j * 5 + 4, none⟩)) (w' := wi) (by go_simp) ⟨fun x h => Option.some.inj h, hI⟩
        · have e124 : ρ (.tmp 124) = .pointer (some ⟨bb, off + j * 5 + 4, none⟩) := (hd 17 124).trans (hk 17 _ rfl); have hD21 : D 21 = false := hF 3 21; clear hT hF; have hr := range_later HRZ.out (hI.1.low hD21); have x0 : wi.cell? ⟨bb, off + j * 5 + 4, none⟩ = some (.slice la.B p.nodes.length la.d) := hr 4 _ rfl
          exact Reg.Gives.value (v := .slice la.B p.nodes.length la.d) (w' := wi) (by go_simp) ⟨fun x h => Option.some.inj h, hI⟩
        · have e113 : ρ (.tmp 113) = .agg #[.int .i64 p.tid.node, .int .i64 p.tid.epoch, .int .i64 p.tid.seq] := (hd 6 113).trans (hk 6 _ rfl); have e119 : ρ (.tmp 119) = .slice la.A p.items.length la.c := (hd 12 119).trans (hk 12 _ rfl); have e125 : ρ (.tmp 125) = .slice la.B p.nodes.length la.d := (hd 18 125).trans (hk 18 _ rfl); have hc := hE.const; clear hT hF hk
          exact Reg.Gives.value (v := .agg #[.int .i64 4, .int .i64 p.tid.node, .int .i64 p.tid.epoch, .int .i64 p.tid.seq, .slice la.A p.items.length la.c, .slice la.B p.nodes.length la.d, .int .i64 0, .int .i64 0, .int .i64 0, .int .i64 0, .int .i64 0, .int .i64 0, .int .i64 0, .int .i64 0, .bool false]) (w' := wi) (by go_simp) ⟨fun x h => Option.some.inj h, hI⟩
        · have e126 : ρ (.tmp 126) = .agg #[.int .i64 4, .int .i64 p.tid.node, .int .i64 p.tid.epoch, .int .i64 p.tid.seq, .slice la.A p.items.length la.c, .slice la.B p.nodes.length la.d, .int .i64 0, .int .i64 0, .int .i64 0, .int .i64 0, .int .i64 0, .int .i64 0, .int .i64 0, .int .i64 0, .bool false] := (hd 19 126).trans (hk 19 _ rfl); have hD20 : D 20 = false := hDi
          have hD21 : D 21 = false := hF 1 21; clear hT hF
          rw [hD20, hD21] at hI
          exact Reg.Gives.value (v := .slice (some ⟨wi.heap.size, 0, none⟩) 1 1) (w' := wi.alloc (.cells #[.int .i64 4, .int .i64 p.tid.node, .int .i64 p.tid.epoch, .int .i64 p.tid.seq, .slice la.A p.items.length la.c, .slice la.B p.nodes.length la.d, .int .i64 0, .int .i64 0, .int .i64 0, .int .i64 0, .int .i64 0, .int .i64 0, .int .i64 0, .int .i64 0, .bool false] 55)) (by go_simp) ⟨fun x h => (by cases h), by show (apR 55 w1.heap.size lq (rcR p) la wr u3 true (D 21) (.slice (some ⟨wi.heap.size, 0, none⟩) 1 1) (V 21) _) ∧ ((D 22) = true → V 22 = V 21); rw [hD21]; exact ⟨hI.1.make, hI.2⟩⟩
        · have e107 : ρ (.tmp 107) = u3 := (hd 0 107).trans (hk 0 _ rfl); have e127 : ρ (.tmp 127) = V 20 := hd 20 127; have hD20 : D 20 = true := hT 1 20; have hD21 : D 21 = false := hDi; have hD22 : D 22 = false := hF 1 22; clear hT hF
          rw [hD20, hD21] at hI
          obtain ⟨g, A, n2, m2, w'', h10, hrun, hn⟩ := hI.1.put rt_ref HR.out HB.out.size (Nat.le_trans HPL.out (by decide)) (HR.out.fr (hI.1.low rfl) HB.out.size (fun w2 h2 => HTX.out w2 h2))
          rw [h10] at e127
          exact Reg.Gives.value (v := .slice A n2 m2) (w' := w'') (Reg.exec_append rfl e107 e127 hrun) ⟨fun x h => (by cases h), by show (apR 55 w1.heap.size lq (rcR p) la wr u3 (D 20) true (V 20) (.slice A n2 m2) _) ∧ ((D 22) = true → V 22 = .slice A n2 m2); rw [hD20]; exact ⟨hn, fun e => absurd (hD22.symm.trans e) (by decide)⟩⟩
        · have e128 : ρ (.tmp 128) = V 21 := hd 21 128; clear hT hF
          exact Reg.Gives.value (v := V 21) (w' := wi) (by go_simp) ⟨fun x h => (by cases h), ⟨hI.1, fun _ => rfl⟩⟩
      · intro V wx hk hI
        simp only [Reg.putsO, List.foldl_cons, List.foldl_nil, Act.put, List.setIfInBounds_toArray, List.set_cons_succ, List.set_cons_zero]
        replace hI : (apR 55 w1.heap.size lq (rcR p) la wr u3 true true (V 20) (V 21) wx) ∧ (true = true → V 22 = V 21) := hI
        clear hk
        have h11 := hI.2 rfl
        obtain ⟨hrw, hbw⟩ := hI.1.fin rfl
        rw [h11]
        have QR := Lib.hid hrw
        have QB := Lib.hid (HB.out.trans (HR.out.bel (Below.refl _ _) HB.out.size hbw))
        clear hI hrw hbw h11
        obtain ⟨vq, hvq⟩ : ∃ q, V 21 = q := ⟨_, rfl⟩
        rw [hvq] at QR ⊢
        obtain ⟨wq, hwq⟩ : ∃ q, q = wx := ⟨_, rfl⟩
        rw [← hwq] at QR QB ⊢
        clear hvq hwq
        have HRN : Hid (RwR 55 w1.heap.size (ls ++ (s.prep.take (j + 1)).map rcR) vq wq) := Lib.hid (by
          have h := QR.out
          rw [← HLQ.out] at h
          rw [HTK.out, List.map_append, ← List.append_assoc]
          exact h)
        go_wp2_with fail
        go_roundw
        case rel => exact ⟨j + 1, by omega, by go_num, HRN, QB⟩
        case measure => simp [intOf]; omega
    · have hjn : j = n := by omega
      have HR2 : Hid (RwR 55 w1.heap.size (ls ++ s.prep.map rcR) u3 wr) := Lib.hid (by
        have h := HR.out
        rw [List.take_of_length_le (by have := HN.out; omega)] at h
        exact h)
      clear hjn
      go_wp2_with fail
      exact HKT.out _ _ (rtd3 HX.out HB.out HR2.out (by rw [HLS.out]; simp [List.append_assoc]) (by kernel_rfl))
set_option maxHeartbeats 4000000 in
theorem rtd1 {w0 w1 wr : World} {g1 : Nat} {s : St} {y : Sy} (h : Rx 41 w0 w1 g1 s y) (hb : Below w1.heap.size w1 wr) {ls : List Rc} {v : Value} (hr : RwR 55 w1.heap.size ls v wr) (hls : recordsL s = ls ++ (s.dec.map rcP ++ (s.prep.map rcR ++ s.com.flatMap rcK)))
    {cc : Code} (hc : cc = sub [1, 1, 1, 1] ((Tryz.f29.body).getD .skip)) {s0 s2 s4 s5 s6 s7 s8 s9 s10 s11 s12 s13 s14 s15 s16 s17 s18 s19 s20 s21 s22 s23 s24 s25 s26 s27 s28 s29 s30 s31 s32 s33 s34 s35 s36 s37 s38 s39 s40 s41 s42 s43 s44 s45 s46 s47 s48 s49 s50 s51 s52 s53 s54 s55 s56 s57 s58 s59 s60 s61 s62 s63 s64 s65 s66 s67 s68 s69 s70 s71 s72 s73 s74 s75 s76 s77 s78 s79 s80 s81 s82 s83 s84 s85 s86 s87 s88 s89 s90 s91 s92 s93 s94 s95 s96 s97 s98 s99 s100 s101 s102 s103 s104 s105 s106 s107 s108 s109 s110 s111 s112 s113 s114 s115 s116 s117 s118 s119 s120 s121 s122 s123 s124 s125 s126 s127 s128 s129 s130 s131 s132 s133 s134 s135 s136 s137 s138 s139 s140 s141 s142 s143 s144 s145 s146 s147 s148 s149 s150 s151 s152 s153 s154 s155 s156 s157 s158 s159 : Value} :
    cc.wp Tryz.prog (bodyPost Tryz.prog Tryz.f29 (fun e w' => (∃ A c zs, e = .returned (.slice A (recordsL s).length c) ∧ Recs w' A (recordsL s) zs ∧ (A = none → c = 0)) ∧ Below w0.heap.size w0 w')) { tmps := List.toArray (s0::.pointer (some ⟨g1, 0, none⟩)::s2::v::s4::s5::s6::s7::s8::s9::s10::s11::s12::s13::s14::s15::s16::s17::s18::s19::s20::s21::s22::s23::s24::s25::s26::s27::s28::s29::s30::s31::s32::s33::s34::s35::s36::s37::s38::s39::s40::s41::s42::s43::s44::s45::s46::s47::s48::s49::s50::s51::s52::s53::s54::s55::s56::s57::s58::s59::s60::s61::s62::s63::s64::s65::s66::s67::s68::s69::s70::s71::s72::s73::s74::s75::s76::s77::s78::s79::s80::s81::s82::s83::s84::s85::s86::s87::s88::s89::s90::s91::s92::s93::s94::s95::s96::s97::s98::s99::s100::s101::s102::s103::s104::s105::s106::s107::s108::s109::s110::s111::s112::s113::s114::s115::s116::s117::s118::s119::s120::s121::s122::s123::s124::s125::s126::s127::s128::s129::s130::s131::s132::s133::s134::s135::s136::s137::s138::s139::s140::s141::s142::s143::s144::s145::s146::s147::s148::s149::s150::s151::s152::s153::s154::s155::s156::s157::s158::s159::[]), defers := [] } wr := by
  conv at hc => rhs; whnf
  subst hc
  apply wp_seq_k
  intro K hK
  have HKT := Lib.hid hK
  clear hK
  obtain ⟨yP, yp, yQ, yq, yD, yd, yC, yc, yps, ycs⟩ := y
  have HX := Lib.hid h
  have HB0 := Lib.hid hb
  have HR0 := Lib.hid hr
  have HLS := Lib.hid hls
  obtain ⟨n, hn⟩ : ∃ n, s.dec.length = n := ⟨_, rfl⟩
  have HN := Lib.hid hn
  have hnb : n ≤ 100000 := by rw [← hn]; exact h.sm.dec
  have HLL : Hid (ls.length ≤ 1000000) := Lib.hid (by
    have h1 := congrArg List.length hls
    rw [List.length_append] at h1
    have h2 := recs_len h.sm
    omega)
  have hcx : wr.cell? ⟨g1, 6, none⟩ = some (.slice yD n yd) := by rw [← hn]; exact (h.box.later hb).cell (j := 6) rfl
  clear h hb hr hls hn
  go_wp2_with fail
  go_loopw [3, 6] (fun v i wr => ∃ (j : Nat), j ≤ n ∧ i = .int .i64 (j : Int) ∧ Hid (RwR 55 w1.heap.size (ls ++ (s.dec.take j).map rcP) v wr) ∧ Hid (Below w1.heap.size w1 wr)) (fun _ i _ => n - (intOf i).toNat)
  case atStart => exact ⟨0, Nat.zero_le _, rfl, Lib.hid (by simpa [cellsFrom] using HR0.out), HB0⟩
  case round =>
    clear hcx
    obtain ⟨j, hj, rfl, HR, HB⟩ := hrel
    have hcx : wr.cell? ⟨g1, 6, none⟩ = some (.slice yD n yd) := by rw [← HN.out]; exact (HX.out.box.later HB.out).cell (j := 6) rfl
    by_cases hlt : j < n
    · have hl0 : j < s.dec.length := by rw [HN.out]; exact hlt
      have hse := HX.out.see.later HB.out
      have HPL : Hid ((ls ++ (s.dec.take j).map rcP).length ≤ 900000000) := Lib.hid (by
        have h1 := HLL.out
        have h2 : ((s.dec.take j).map rcP).length ≤ 1000000 := (by rw [List.length_map, List.length_take]; omega)
        rw [List.length_append]
        omega)
      obtain ⟨bb, off, hA, hr0⟩ := hse.dec j (by rw [List.length_map]; exact hl0)
      simp only at hA
      subst hA
      rw [List.getElem_map] at hr0
      obtain ⟨p, hp⟩ : ∃ p, s.dec[j] = p := ⟨_, rfl⟩
      have HTK : Hid (s.dec.take (j + 1) = s.dec.take j ++ [p]) := Lib.hid (by rw [List.take_succ_eq_append_getElem hl0, hp])
      rw [hp] at hr0
      clear hp hl0 hse
      have z0 : wr.cell? ⟨bb, off + j * 4, none⟩ = some (.int .i64 p.tid.node) := hr0 0 _ rfl
      have z1 : wr.cell? ⟨bb, off + j * 4 + 1, none⟩ = some (.int .i64 p.tid.epoch) := hr0 1 _ rfl
      have z2 : wr.cell? ⟨bb, off + j * 4 + 2, none⟩ = some (.int .i64 p.tid.seq) := hr0 2 _ rfl
      have z3 : wr.cell? ⟨bb, off + j * 4 + 3, none⟩ = some (.bool p.yes) := hr0 3 _ rfl
      have HRZ := Lib.hid hr0
      have HCX : Hid (∀ wi, Below wr.heap.size wr wi → wi.cell? ⟨g1, 6, none⟩ = some (.slice (some ⟨bb, off, none⟩) n yd)) := Lib.hid (fun wi hi => lowc hi hcx)
      have HJ : Hid (j < n ∧ ((j : Int).toNat = j)) := Lib.hid ⟨hlt, by omega⟩
      obtain ⟨lq, hlq⟩ : ∃ q, (ls ++ (s.dec.take j).map rcP) = q := ⟨_, rfl⟩
      have HLQ := Lib.hid hlq
      rw [hlq] at HR HPL
      go_upto_region 13 with (fail)
      clear hlq hr0 z0 z1 z2 z3
      refine Reg.region_inv (by kernel_rfl) (fun i => ([some (u3), some (.pointer (some ⟨g1, 6, none⟩)), some (.slice (some ⟨bb, off, none⟩) n yd), some (.int .i64 (j : Int)), some (.pointer (some ⟨bb, off + j * 4, none⟩)), some (.pointer (some ⟨bb, off + j * 4, none⟩)), some (.agg #[.int .i64 p.tid.node, .int .i64 p.tid.epoch, .int .i64 p.tid.seq]), some (.pointer (some ⟨g1, 6, none⟩)), some (.slice (some ⟨bb, off, none⟩) n yd), some (.int .i64 (j : Int)), some (.pointer (some ⟨bb, off + j * 4, none⟩)), some (.pointer (some ⟨bb, off + j * 4 + 3, none⟩)), some (.bool p.yes), some (.agg #[.int .i64 11, .int .i64 p.tid.node, .int .i64 p.tid.epoch, .int .i64 p.tid.seq, .slice none 0 0, .slice none 0 0, .int .i64 0, .int .i64 0, .int .i64 0, .int .i64 0, .int .i64 0, .int .i64 0, .int .i64 0, .int .i64 0, .bool p.yes]), none, none, none] : List (Option Value)).getD i none) (fun D V W => (apR 55 w1.heap.size lq (rcP p) ⟨none, 0, none, 0⟩ wr u3 (D 14) (D 15) (V 14) (V 15) W) ∧ ((D 16) = true → V 16 = V 15)) (fun V => [(some 84, V 0), (some 85, V 1), (some 86, V 2), (some 87, V 3), (some 88, V 4), (some 89, V 5), (some 90, V 6), (some 91, V 7), (some 92, V 8), (some 93, V 9), (some 94, V 10), (some 95, V 11), (some 96, V 12), (some 97, V 13), (some 98, V 14), (some 99, V 15), (some 3, V 16)]) (by kernel_rfl) (by kernel_rfl) (fun V => rfl) ?_ ?_ ?_
      · intro V
        exact ⟨apR.start (Below.refl _ _).drew _ _, fun e => (by cases e)⟩
      · intro i o ho
        have hi : i < 17 := (Array.getElem?_eq_some_iff.1 ho).1
        rcases i with _ | _ | _ | _ | _ | _ | _ | _ | _ | _ | _ | _ | _ | _ | _ | _ | _ | i
        rotate_right
        · omega
        all_goals obtain rfl := Option.some.inj ho
        all_goals intro D V ρ wi hE hI hDi hT hF hs hd hk
        · have e3 : ρ (.tmp 3) = u3 := hs 3; clear hT hF hk
          exact Reg.Gives.value (v := u3) (w' := wi) (by go_simp) ⟨fun x h => Option.some.inj h, hI⟩
        · have e1 : ρ (.tmp 1) = .pointer (some ⟨g1, 0, none⟩) := hs 1; clear hT hF hk
          exact Reg.Gives.value (v := .pointer (some ⟨g1, 6, none⟩)) (w' := wi) (by go_simp) ⟨fun x h => Option.some.inj h, hI⟩
        · have e85 : ρ (.tmp 85) = .pointer (some ⟨g1, 6, none⟩) := (hd 1 85).trans (hk 1 _ rfl); have hD15 : D 15 = false := hF 6 15; clear hT hF; have hx := HCX.out wi (hI.1.low hD15)
          exact Reg.Gives.value (v := .slice (some ⟨bb, off, none⟩) n yd) (w' := wi) (by go_simp) ⟨fun x h => Option.some.inj h, hI⟩
        · have e6 : ρ (.tmp 6) = .int .i64 (j : Int) := hs 6; clear hT hF hk
          exact Reg.Gives.value (v := .int .i64 (j : Int)) (w' := wi) (by go_simp) ⟨fun x h => Option.some.inj h, hI⟩
        · have e86 : ρ (.tmp 86) = .slice (some ⟨bb, off, none⟩) n yd := (hd 2 86).trans (hk 2 _ rfl); have e87 : ρ (.tmp 87) = .int .i64 (j : Int) := (hd 3 87).trans (hk 3 _ rfl); clear hT hF; have hx1 := HJ.out.1; have hx2 := HJ.out.2
          exact Reg.Gives.value (v := .pointer (some ⟨bb, off + j * 4, none⟩)) (w' := wi) (by go_simp) ⟨fun x h => Option.some.inj h, hI⟩
        · have e88 : ρ (.tmp 88) = .pointer (some ⟨bb, off + j * 4, none⟩) := (hd 4 88).trans (hk 4 _ rfl); clear hT hF hk
          exact Reg.Gives.value (v := .pointer (some ⟨bb, off + j * 4, none⟩)) (w' := wi) (by go_simp) ⟨fun x h => Option.some.inj h, hI⟩
        · have e89 : ρ (.tmp 89) = .pointer (some ⟨bb, off + j * 4, none⟩) := (hd 5 89).trans (hk 5 _ rfl); have hD15 : D 15 = false := hF 3 15; clear hT hF; have hr := range_later HRZ.out (hI.1.low hD15); have x0 : wi.cell? ⟨bb, off + j * 4, none⟩ = some (.int .i64 p.tid.node) := hr 0 _ rfl; have x1 : wi.cell? ⟨bb, off + j * 4 + 1, none⟩ = some (.int .i64 p.tid.epoch) := hr 1 _ rfl
          have x2 : wi.cell? ⟨bb, off + j * 4 + 2, none⟩ = some (.int .i64 p.tid.seq) := hr 2 _ rfl
          exact Reg.Gives.value (v := .agg #[.int .i64 p.tid.node, .int .i64 p.tid.epoch, .int .i64 p.tid.seq]) (w' := wi) (by go_simp) ⟨fun x h => Option.some.inj h, hI⟩
        · have e1 : ρ (.tmp 1) = .pointer (some ⟨g1, 0, none⟩) := hs 1; clear hT hF hk
          exact Reg.Gives.value (v := .pointer (some ⟨g1, 6, none⟩)) (w' := wi) (by go_simp) ⟨fun x h => Option.some.inj h, hI⟩
        · have e91 : ρ (.tmp 91) = .pointer (some ⟨g1, 6, none⟩) := (hd 7 91).trans (hk 7 _ rfl); have hD15 : D 15 = false := hF 6 15; clear hT hF; have hx := HCX.out wi (hI.1.low hD15)
          exact Reg.Gives.value (v := .slice (some ⟨bb, off, none⟩) n yd) (w' := wi) (by go_simp) ⟨fun x h => Option.some.inj h, hI⟩
        · have e6 : ρ (.tmp 6) = .int .i64 (j : Int) := hs 6; clear hT hF hk
          exact Reg.Gives.value (v := .int .i64 (j : Int)) (w' := wi) (by go_simp) ⟨fun x h => Option.some.inj h, hI⟩
        · have e92 : ρ (.tmp 92) = .slice (some ⟨bb, off, none⟩) n yd := (hd 8 92).trans (hk 8 _ rfl); have e93 : ρ (.tmp 93) = .int .i64 (j : Int) := (hd 9 93).trans (hk 9 _ rfl); clear hT hF; have hx1 := HJ.out.1; have hx2 := HJ.out.2
          exact Reg.Gives.value (v := .pointer (some ⟨bb, off + j * 4, none⟩)) (w' := wi) (by go_simp) ⟨fun x h => Option.some.inj h, hI⟩
        · have e94 : ρ (.tmp 94) = .pointer (some ⟨bb, off + j * 4, none⟩) := (hd 10 94).trans (hk 10 _ rfl); clear hT hF hk
          exact Reg.Gives.value (v := .pointer (some ⟨bb, off + j * 4 + 3, none⟩)) (w' := wi) (by go_simp) ⟨fun x h => Option.some.inj h, hI⟩
        · have e95 : ρ (.tmp 95) = .pointer (some ⟨bb, off + j * 4 + 3, none⟩) := (hd 11 95).trans (hk 11 _ rfl); have hD15 : D 15 = false := hF 3 15; clear hT hF; have hr := range_later HRZ.out (hI.1.low hD15); have x0 : wi.cell? ⟨bb, off + j * 4 + 3, none⟩ = some (.bool p.yes) := hr 3 _ rfl
          exact Reg.Gives.value (v := .bool p.yes) (w' := wi) (by go_simp) ⟨fun x h => Option.some.inj h, hI⟩
        · have e90 : ρ (.tmp 90) = .agg #[.int .i64 p.tid.node, .int .i64 p.tid.epoch, .int .i64 p.tid.seq] := (hd 6 90).trans (hk 6 _ rfl); have e96 : ρ (.tmp 96) = .bool p.yes := (hd 12 96).trans (hk 12 _ rfl); have hc := hE.const; clear hT hF hk
          exact Reg.Gives.value (v := .agg #[.int .i64 11, .int .i64 p.tid.node, .int .i64 p.tid.epoch, .int .i64 p.tid.seq, .slice none 0 0, .slice none 0 0, .int .i64 0, .int .i64 0, .int .i64 0, .int .i64 0, .int .i64 0, .int .i64 0, .int .i64 0, .int .i64 0, .bool p.yes]) (w' := wi) (by go_simp) ⟨fun x h => Option.some.inj h, hI⟩
        · have e97 : ρ (.tmp 97) = .agg #[.int .i64 11, .int .i64 p.tid.node, .int .i64 p.tid.epoch, .int .i64 p.tid.seq, .slice none 0 0, .slice none 0 0, .int .i64 0, .int .i64 0, .int .i64 0, .int .i64 0, .int .i64 0, .int .i64 0, .int .i64 0, .int .i64 0, .bool p.yes] := (hd 13 97).trans (hk 13 _ rfl); have hD14 : D 14 = false := hDi; have hD15 : D 15 = false := hF 1 15; clear hT hF
          rw [hD14, hD15] at hI
          exact Reg.Gives.value (v := .slice (some ⟨wi.heap.size, 0, none⟩) 1 1) (w' := wi.alloc (.cells #[.int .i64 11, .int .i64 p.tid.node, .int .i64 p.tid.epoch, .int .i64 p.tid.seq, .slice none 0 0, .slice none 0 0, .int .i64 0, .int .i64 0, .int .i64 0, .int .i64 0, .int .i64 0, .int .i64 0, .int .i64 0, .int .i64 0, .bool p.yes] 55)) (by go_simp) ⟨fun x h => (by cases h), by show (apR 55 w1.heap.size lq (rcP p) ⟨none, 0, none, 0⟩ wr u3 true (D 15) (.slice (some ⟨wi.heap.size, 0, none⟩) 1 1) (V 15) _) ∧ ((D 16) = true → V 16 = V 15); rw [hD15]; exact ⟨hI.1.make, hI.2⟩⟩
        · have e84 : ρ (.tmp 84) = u3 := (hd 0 84).trans (hk 0 _ rfl); have e98 : ρ (.tmp 98) = V 14 := hd 14 98; have hD14 : D 14 = true := hT 1 14; have hD15 : D 15 = false := hDi; have hD16 : D 16 = false := hF 1 16; clear hT hF
          rw [hD14, hD15] at hI
          obtain ⟨g, A, n2, m2, w'', h10, hrun, hn⟩ := hI.1.put rt_ref HR.out HB.out.size (Nat.le_trans HPL.out (by decide)) (fr_nil _ _ rfl rfl)
          rw [h10] at e98
          exact Reg.Gives.value (v := .slice A n2 m2) (w' := w'') (Reg.exec_append rfl e84 e98 hrun) ⟨fun x h => (by cases h), by show (apR 55 w1.heap.size lq (rcP p) ⟨none, 0, none, 0⟩ wr u3 (D 14) true (V 14) (.slice A n2 m2) _) ∧ ((D 16) = true → V 16 = .slice A n2 m2); rw [hD14]; exact ⟨hn, fun e => absurd (hD16.symm.trans e) (by decide)⟩⟩
        · have e99 : ρ (.tmp 99) = V 15 := hd 15 99; clear hT hF
          exact Reg.Gives.value (v := V 15) (w' := wi) (by go_simp) ⟨fun x h => (by cases h), ⟨hI.1, fun _ => rfl⟩⟩
      · intro V wx hk hI
        simp only [Reg.putsO, List.foldl_cons, List.foldl_nil, Act.put, List.setIfInBounds_toArray, List.set_cons_succ, List.set_cons_zero]
        replace hI : (apR 55 w1.heap.size lq (rcP p) ⟨none, 0, none, 0⟩ wr u3 true true (V 14) (V 15) wx) ∧ (true = true → V 16 = V 15) := hI
        clear hk
        have h11 := hI.2 rfl
        obtain ⟨hrw, hbw⟩ := hI.1.fin rfl
        rw [h11]
        have QR := Lib.hid hrw
        have QB := Lib.hid (HB.out.trans (HR.out.bel (Below.refl _ _) HB.out.size hbw))
        clear hI hrw hbw h11
        obtain ⟨vq, hvq⟩ : ∃ q, V 15 = q := ⟨_, rfl⟩
        rw [hvq] at QR ⊢
        obtain ⟨wq, hwq⟩ : ∃ q, q = wx := ⟨_, rfl⟩
        rw [← hwq] at QR QB ⊢
        clear hvq hwq
        have HRN : Hid (RwR 55 w1.heap.size (ls ++ (s.dec.take (j + 1)).map rcP) vq wq) := Lib.hid (by
          have h := QR.out
          rw [← HLQ.out] at h
          rw [HTK.out, List.map_append, ← List.append_assoc]
          exact h)
        go_wp2_with fail
        go_roundw
        case rel => exact ⟨j + 1, by omega, by go_num, HRN, QB⟩
        case measure => simp [intOf]; omega
    · have hjn : j = n := by omega
      have HR2 : Hid (RwR 55 w1.heap.size (ls ++ s.dec.map rcP) u3 wr) := Lib.hid (by
        have h := HR.out
        rw [List.take_of_length_le (by have := HN.out; omega)] at h
        exact h)
      clear hjn
      go_wp2_with fail
      exact HKT.out _ _ (rtd2 HX.out HB.out HR2.out (by rw [HLS.out]; simp [List.append_assoc]) (by kernel_rfl))
set_option maxHeartbeats 4000000 in
theorem rtd0 {w0 w1 wr : World} {g1 : Nat} {s : St} {y : Sy} (h : Rx 41 w0 w1 g1 s y) (hb : Below w1.heap.size w1 wr) {ls : List Rc} {v : Value} (hr : RwR 55 w1.heap.size ls v wr) (hls : recordsL s = ls ++ (cellsFrom 0 s.places ++ (s.dec.map rcP ++ (s.prep.map rcR ++ s.com.flatMap rcK))))
    {cc : Code} (hc : cc = sub [1, 1, 1] ((Tryz.f29.body).getD .skip)) {s0 s2 s4 s5 s6 s7 s8 s9 s10 s11 s12 s13 s14 s15 s16 s17 s18 s19 s20 s21 s22 s23 s24 s25 s26 s27 s28 s29 s30 s31 s32 s33 s34 s35 s36 s37 s38 s39 s40 s41 s42 s43 s44 s45 s46 s47 s48 s49 s50 s51 s52 s53 s54 s55 s56 s57 s58 s59 s60 s61 s62 s63 s64 s65 s66 s67 s68 s69 s70 s71 s72 s73 s74 s75 s76 s77 s78 s79 s80 s81 s82 s83 s84 s85 s86 s87 s88 s89 s90 s91 s92 s93 s94 s95 s96 s97 s98 s99 s100 s101 s102 s103 s104 s105 s106 s107 s108 s109 s110 s111 s112 s113 s114 s115 s116 s117 s118 s119 s120 s121 s122 s123 s124 s125 s126 s127 s128 s129 s130 s131 s132 s133 s134 s135 s136 s137 s138 s139 s140 s141 s142 s143 s144 s145 s146 s147 s148 s149 s150 s151 s152 s153 s154 s155 s156 s157 s158 s159 : Value} :
    cc.wp Tryz.prog (bodyPost Tryz.prog Tryz.f29 (fun e w' => (∃ A c zs, e = .returned (.slice A (recordsL s).length c) ∧ Recs w' A (recordsL s) zs ∧ (A = none → c = 0)) ∧ Below w0.heap.size w0 w')) { tmps := List.toArray (s0::.pointer (some ⟨g1, 0, none⟩)::s2::v::s4::s5::s6::s7::s8::s9::s10::s11::s12::s13::s14::s15::s16::s17::s18::s19::s20::s21::s22::s23::s24::s25::s26::s27::s28::s29::s30::s31::s32::s33::s34::s35::s36::s37::s38::s39::s40::s41::s42::s43::s44::s45::s46::s47::s48::s49::s50::s51::s52::s53::s54::s55::s56::s57::s58::s59::s60::s61::s62::s63::s64::s65::s66::s67::s68::s69::s70::s71::s72::s73::s74::s75::s76::s77::s78::s79::s80::s81::s82::s83::s84::s85::s86::s87::s88::s89::s90::s91::s92::s93::s94::s95::s96::s97::s98::s99::s100::s101::s102::s103::s104::s105::s106::s107::s108::s109::s110::s111::s112::s113::s114::s115::s116::s117::s118::s119::s120::s121::s122::s123::s124::s125::s126::s127::s128::s129::s130::s131::s132::s133::s134::s135::s136::s137::s138::s139::s140::s141::s142::s143::s144::s145::s146::s147::s148::s149::s150::s151::s152::s153::s154::s155::s156::s157::s158::s159::[]), defers := [] } wr := by
  conv at hc => rhs; whnf
  subst hc
  apply wp_seq_k
  intro K hK
  have HKT := Lib.hid hK
  clear hK
  obtain ⟨yP, yp, yQ, yq, yD, yd, yC, yc, yps, ycs⟩ := y
  have HX := Lib.hid h
  have HB0 := Lib.hid hb
  have HR0 := Lib.hid hr
  have HLS := Lib.hid hls
  obtain ⟨n, hn⟩ : ∃ n, s.places.length = n := ⟨_, rfl⟩
  have HN := Lib.hid hn
  have hnb : n ≤ 100000 := by rw [← hn]; exact h.sm.places
  have HLL : Hid (ls.length ≤ 1000000) := Lib.hid (by
    have h1 := congrArg List.length hls
    rw [List.length_append] at h1
    have h2 := recs_len h.sm
    omega)
  have hcx : wr.cell? ⟨g1, 4, none⟩ = some (.slice yP n yp) := by rw [← hn]; exact (h.box.later hb).cell (j := 4) rfl
  clear h hb hr hls hn
  go_wp2_with fail
  go_loopw [3, 4, 5] (fun v i _ wr => ∃ (j : Nat), j ≤ n ∧ i = .int .i64 (j : Int) ∧ Hid (RwR 55 w1.heap.size (ls ++ cellsFrom 0 (s.places.take j)) v wr) ∧ Hid (Below w1.heap.size w1 wr)) (fun _ i _ _ => n - (intOf i).toNat)
  case atStart => exact ⟨0, Nat.zero_le _, rfl, Lib.hid (by simpa [cellsFrom] using HR0.out), HB0⟩
  case round =>
    clear hcx
    obtain ⟨j, hj, rfl, HR, HB⟩ := hrel
    have hcx : wr.cell? ⟨g1, 4, none⟩ = some (.slice yP n yp) := by rw [← HN.out]; exact (HX.out.box.later HB.out).cell (j := 4) rfl
    by_cases hlt : j < n
    · have hl0 : j < s.places.length := by rw [HN.out]; exact hlt
      have hse := HX.out.see.later HB.out
      have HPL : Hid ((ls ++ cellsFrom 0 (s.places.take j)).length ≤ 900000000) := Lib.hid (by
        have h1 := HLL.out
        have h2 : (cellsFrom 0 (s.places.take j)).length ≤ 1000000 := (Nat.le_trans (cellsFrom_len _ _) (by rw [List.length_take]; omega))
        rw [List.length_append]
        omega)
      obtain ⟨bb, off, hA, hr0⟩ := hse.places j (by rw [List.length_map]; exact hl0)
      simp only at hA
      subst hA
      rw [List.getElem_map] at hr0
      obtain ⟨p, hp⟩ : ∃ p, s.places[j] = p := ⟨_, rfl⟩
      have HTK : Hid (s.places.take (j + 1) = s.places.take j ++ [p]) := Lib.hid (by rw [List.take_succ_eq_append_getElem hl0, hp])
      rw [hp] at hr0
      clear hp hl0 hse
      have z0 : wr.cell? ⟨bb, off + j * 5, none⟩ = some (.int .i64 p.status) := hr0 0 _ rfl
      have z1 : wr.cell? ⟨bb, off + j * 5 + 1, none⟩ = some (.int .i64 p.hop) := hr0 1 _ rfl
      have z2 : wr.cell? ⟨bb, off + j * 5 + 2, none⟩ = some (.int .i64 p.to) := hr0 2 _ rfl
      have z3 : wr.cell? ⟨bb, off + j * 5 + 3, none⟩ = some (.int .i64 p.version) := hr0 3 _ rfl
      have z4 : wr.cell? ⟨bb, off + j * 5 + 4, none⟩ = some (.int .i64 p.value) := hr0 4 _ rfl
      obtain ⟨wa, hwa⟩ : ∃ v, v = wr.alloc (.cells #[.int .i64 p.status, .int .i64 p.hop, .int .i64 p.to, .int .i64 p.version, .int .i64 p.value] 77) := ⟨_, rfl⟩
      have hba : Below wr.heap.size wr wa := by rw [hwa]; exact below_alloc _ _
      have HRA := Lib.hid (HR.out.later hba)
      have HBA := Lib.hid (HB.out.trans (hba.mono HB.out.size))
      have HPC := Lib.hid (show Cells wa wr.heap.size 77 [.int .i64 p.status, .int .i64 p.hop, .int .i64 p.to, .int .i64 p.version, .int .i64 p.value] by rw [hwa]; exact cells_new _ _ _ _ rfl)
      have HOWN : Hid (∀ j, some j = u3.ownBlock → j < wr.heap.size) := Lib.hid (fun j e => by
        obtain ⟨_, _, hrow, _⟩ := HR.out
        exact (hrow.lt j e.symm).2)
      go_upto_region 8 with (fail)
      rw [← hwa]
      clear hwa hba z0 z1 z2 z3 z4
      obtain ⟨gp, hgp⟩ : ∃ q, wr.heap.size = q := ⟨_, rfl⟩
      rw [hgp] at HPC HOWN
      try rw [hgp]
      clear hgp
      have x0 : wa.cell? ⟨gp, 0, none⟩ = some (.int .i64 p.status) := HPC.out.cell (j := 0) rfl
      have x1 : wa.cell? ⟨gp, 1, none⟩ = some (.int .i64 p.hop) := HPC.out.cell (j := 1) rfl
      have x2 : wa.cell? ⟨gp, 2, none⟩ = some (.int .i64 p.to) := HPC.out.cell (j := 2) rfl
      have x3 : wa.cell? ⟨gp, 3, none⟩ = some (.int .i64 p.version) := HPC.out.cell (j := 3) rfl
      have x4 : wa.cell? ⟨gp, 4, none⟩ = some (.int .i64 p.value) := HPC.out.cell (j := 4) rfl
      go_cut [61] from 39 to 62 (fun v wx => v = .bool (!(decide (p = pl0))) ∧ wx = wa)
      case first =>
        by_cases e0 : p.status = 0
        rotate_left
        · have hq1 : (p.status == 0) = false := by simpa using e0
          have hq2 : (p.status != 0) = true := by simpa using e0
          have HV : Hid (decide (p = pl0) = false) := Lib.hid (decide_eq_false (fun h => e0 (by rw [h]; rfl)))
          clear e0
          go_wp2_with fail
          go_meet
          exact ⟨by rw [HV.out]; rfl, rfl⟩
        by_cases e1 : p.hop = 0
        rotate_left
        · have hq1 : (p.hop == 0) = false := by simpa using e1
          have hq2 : (p.hop != 0) = true := by simpa using e1
          have HV : Hid (decide (p = pl0) = false) := Lib.hid (decide_eq_false (fun h => e1 (by rw [h]; rfl)))
          clear e1
          go_wp2_with fail
          go_meet
          exact ⟨by rw [HV.out]; rfl, rfl⟩
        by_cases e2 : p.to = 0
        rotate_left
        · have hq1 : (p.to == 0) = false := by simpa using e2
          have hq2 : (p.to != 0) = true := by simpa using e2
          have HV : Hid (decide (p = pl0) = false) := Lib.hid (decide_eq_false (fun h => e2 (by rw [h]; rfl)))
          clear e2
          go_wp2_with fail
          go_meet
          exact ⟨by rw [HV.out]; rfl, rfl⟩
        by_cases e3 : p.version = 0
        rotate_left
        · have hq1 : (p.version == 0) = false := by simpa using e3
          have hq2 : (p.version != 0) = true := by simpa using e3
          have HV : Hid (decide (p = pl0) = false) := Lib.hid (decide_eq_false (fun h => e3 (by rw [h]; rfl)))
          clear e3
          go_wp2_with fail
          go_meet
          exact ⟨by rw [HV.out]; rfl, rfl⟩
        by_cases e4 : p.value = 0
        rotate_left
        · have hq1 : (p.value == 0) = false := by simpa using e4
          have hq2 : (p.value != 0) = true := by simpa using e4
          have HV : Hid (decide (p = pl0) = false) := Lib.hid (decide_eq_false (fun h => e4 (by rw [h]; rfl)))
          clear e4
          go_wp2_with fail
          go_meet
          exact ⟨by rw [HV.out]; rfl, rfl⟩
        have HV : Hid (decide (p = pl0) = true) := Lib.hid (decide_eq_true (by
          obtain ⟨p1, p2, p3, p4, p5⟩ := p
          simp only at e0 e1 e2 e3 e4
          subst e0 e1 e2 e3 e4
          rfl))
        go_wp2_with fail
        go_meet
        exact ⟨by rw [HV.out]; rfl, rfl⟩
      case rest =>
        obtain ⟨rfl, rfl⟩ := hcut
        by_cases hz : p = pl0
        · have HRN : Hid (RwR 55 w1.heap.size (ls ++ cellsFrom 0 (s.places.take (j + 1))) u3 wc) := Lib.hid (by
            have h := HRA.out
            rw [HTK.out, cellsFrom_app, if_pos hz, List.append_nil]
            exact h)
          rw [decide_eq_true hz]
          clear hz
          go_wp2_with fail
          go_roundw
          case rel => exact ⟨j + 1, by omega, by go_num, HRN, HBA⟩
          case measure => simp [intOf]; omega
        · have HZ := Lib.hid hz
          rw [decide_eq_false hz]
          clear hz
          obtain ⟨wb, hwb⟩ : ∃ v, v = wc.alloc (.cells #[.int .i64 3, .int .i64 0, .int .i64 0, .int .i64 0, .slice none 0 0, .slice none 0 0, .int .i64 p.to, .int .i64 0, .int .i64 0, .int .i64 (j : Int), .int .i64 p.status, .int .i64 p.hop, .int .i64 p.version, .int .i64 p.value, .bool false] 55) := ⟨_, rfl⟩
          have hbb : Below wc.heap.size wc wb := by rw [hwb]; exact below_alloc _ _
          have hcb : Cells wb wc.heap.size 55 (Rc.vals (rcC (j : Int) p) ⟨none, 0, none, 0⟩) := by rw [hwb]; exact cells_new _ _ _ _ rfl
          obtain ⟨A, m, c, w', hrun, hrw, hbw⟩ := HRA.out.more rt_ref HBA.out.size (rcC (j : Int) p) ⟨none, 0, none, 0⟩ wb hbb (fr_nil _ _ rfl rfl) (by have := HPL.out; first | omega | (simp only [List.length_append, List.length_singleton] at this ⊢; omega)) (wc.heap.size) hcb
          have HRUN := Lib.hid hrun
          have QR : Hid (RwR 55 w1.heap.size ((ls ++ cellsFrom 0 (s.places.take j)) ++ [(rcC (j : Int) p)]) (.slice A m c) w') := Lib.hid hrw
          have QB : Hid (Below w1.heap.size w1 w') := Lib.hid (HBA.out.trans (HRA.out.bel hbb HBA.out.size hbw))
          clear hrun hrw hbw hcb hbb
          have HRN : Hid (RwR 55 w1.heap.size (ls ++ cellsFrom 0 (s.places.take (j + 1))) (.slice A m c) w') := Lib.hid (by
            have h := QR.out
            rw [HTK.out, cellsFrom_app, if_neg HZ.out, ← List.append_assoc, List.length_take, show min j s.places.length = j by have := HN.out; omega, Nat.zero_add]
            exact h)
          go_wp2_with (at_builtin
                       rw [← hwb]
                       refine Lib.wpList_append_run _ rfl _ _ 67 67 rfl _ _ rfl rfl _ _ HRUN.out ?_)
          go_roundw
          case rel => exact ⟨j + 1, by omega, by go_num, HRN, QB⟩
          case measure => simp [intOf]; omega
    · have hjn : j = n := by omega
      have HR2 : Hid (RwR 55 w1.heap.size (ls ++ cellsFrom 0 s.places) u3 wr) := Lib.hid (by
        have h := HR.out
        rw [List.take_of_length_le (by have := HN.out; omega)] at h
        exact h)
      clear hjn
      go_wp2_with fail
      exact HKT.out _ _ (rtd1 HX.out HB.out HR2.out (by rw [HLS.out]; simp [List.append_assoc]) (by kernel_rfl))
set_option maxHeartbeats 4000000 in
theorem rtdA {w0 w1 wr : World} {g1 : Nat} {s : St} {y : Sy} (h : Rx 41 w0 w1 g1 s y) (hb : Below w1.heap.size w1 wr) {v : Value} (hr : RwR 55 w1.heap.size [rcB s.node s.nodes s.cells] v wr)
    {cc : Code} (hc : cc = sub [1, 1] ((Tryz.f29.body).getD .skip)) {s0 s2 s4 s5 s6 s7 s8 s9 s10 s11 s12 s13 s14 s15 s16 s17 s18 s19 s20 s21 s22 s23 s24 s25 s26 s27 s28 s29 s30 s31 s32 s33 s34 s35 s36 s37 s38 s39 s40 s41 s42 s43 s44 s45 s46 s47 s48 s49 s50 s51 s52 s53 s54 s55 s56 s57 s58 s59 s60 s61 s62 s63 s64 s65 s66 s67 s68 s69 s70 s71 s72 s73 s74 s75 s76 s77 s78 s79 s80 s81 s82 s83 s84 s85 s86 s87 s88 s89 s90 s91 s92 s93 s94 s95 s96 s97 s98 s99 s100 s101 s102 s103 s104 s105 s106 s107 s108 s109 s110 s111 s112 s113 s114 s115 s116 s117 s118 s119 s120 s121 s122 s123 s124 s125 s126 s127 s128 s129 s130 s131 s132 s133 s134 s135 s136 s137 s138 s139 s140 s141 s142 s143 s144 s145 s146 s147 s148 s149 s150 s151 s152 s153 s154 s155 s156 s157 s158 s159 : Value} :
    cc.wp Tryz.prog (bodyPost Tryz.prog Tryz.f29 (fun e w' => (∃ A c zs, e = .returned (.slice A (recordsL s).length c) ∧ Recs w' A (recordsL s) zs ∧ (A = none → c = 0)) ∧ Below w0.heap.size w0 w')) { tmps := List.toArray (s0::.pointer (some ⟨g1, 0, none⟩)::s2::v::s4::s5::s6::s7::s8::s9::s10::s11::s12::s13::s14::s15::s16::s17::s18::s19::s20::s21::s22::s23::s24::s25::s26::s27::s28::s29::s30::s31::s32::s33::s34::s35::s36::s37::s38::s39::s40::s41::s42::s43::s44::s45::s46::s47::s48::s49::s50::s51::s52::s53::s54::s55::s56::s57::s58::s59::s60::s61::s62::s63::s64::s65::s66::s67::s68::s69::s70::s71::s72::s73::s74::s75::s76::s77::s78::s79::s80::s81::s82::s83::s84::s85::s86::s87::s88::s89::s90::s91::s92::s93::s94::s95::s96::s97::s98::s99::s100::s101::s102::s103::s104::s105::s106::s107::s108::s109::s110::s111::s112::s113::s114::s115::s116::s117::s118::s119::s120::s121::s122::s123::s124::s125::s126::s127::s128::s129::s130::s131::s132::s133::s134::s135::s136::s137::s138::s139::s140::s141::s142::s143::s144::s145::s146::s147::s148::s149::s150::s151::s152::s153::s154::s155::s156::s157::s158::s159::[]), defers := [] } wr := by
  conv at hc => rhs; whnf
  subst hc
  apply wp_seq_k
  intro K hK
  have HKT := Lib.hid hK
  clear hK
  have HX := Lib.hid h
  have HB := Lib.hid hb
  have HR := Lib.hid hr
  have hcx : wr.cell? ⟨g1, 3, none⟩ = some (.int .i64 s.epoch) := (h.box.later hb).cell (j := 3) rfl
  have HPL : Hid (([rcB s.node s.nodes s.cells] ++ ([] : List Rc)).length ≤ 900000000) := Lib.hid (by simp)
  clear h hb hr
  by_cases he : s.epoch = 0
  · have HLS : Hid (recordsL s = [rcB s.node s.nodes s.cells] ++ (cellsFrom 0 s.places ++ (s.dec.map rcP ++ (s.prep.map rcR ++ s.com.flatMap rcK)))) := Lib.hid (by unfold recordsL; rw [if_pos he]; rfl)
    have he2 : (s.epoch != 0) = false := by simpa using he
    have he3 : (s.epoch == 0) = true := by simpa using he
    clear he
    go_wp2_with fail
    exact HKT.out _ _ (rtd0 HX.out HB.out HR.out HLS.out (by kernel_rfl))
  · have HLS : Hid (recordsL s = ([rcB s.node s.nodes s.cells] ++ [rcE s.epoch]) ++ (cellsFrom 0 s.places ++ (s.dec.map rcP ++ (s.prep.map rcR ++ s.com.flatMap rcK)))) := Lib.hid (by unfold recordsL; rw [if_neg he]; rfl)
    have he2 : (s.epoch != 0) = true := by simpa using he
    have he3 : (s.epoch == 0) = false := by simpa using he
    clear he
    obtain ⟨wb, hwb⟩ : ∃ v, v = wr.alloc (.cells #[.int .i64 2, .int .i64 0, .int .i64 0, .int .i64 0, .slice none 0 0, .slice none 0 0, .int .i64 0, .int .i64 0, .int .i64 s.epoch, .int .i64 0, .int .i64 0, .int .i64 0, .int .i64 0, .int .i64 0, .bool false] 55) := ⟨_, rfl⟩
    have hbb : Below wr.heap.size wr wb := by rw [hwb]; exact below_alloc _ _
    have hcb : Cells wb wr.heap.size 55 (Rc.vals (rcE s.epoch) ⟨none, 0, none, 0⟩) := by rw [hwb]; exact cells_new _ _ _ _ rfl
    obtain ⟨A, m, c, w', hrun, hrw, hbw⟩ := HR.out.more rt_ref HB.out.size (rcE s.epoch) ⟨none, 0, none, 0⟩ wb hbb (fr_nil _ _ rfl rfl) (by have := HPL.out; first | omega | (simp only [List.length_append, List.length_singleton] at this ⊢; omega)) (wr.heap.size) hcb
    have HRUN := Lib.hid hrun
    have QR : Hid (RwR 55 w1.heap.size ([rcB s.node s.nodes s.cells] ++ [(rcE s.epoch)]) (.slice A m c) w') := Lib.hid hrw
    have QB : Hid (Below w1.heap.size w1 w') := Lib.hid (HB.out.trans (HR.out.bel hbb HB.out.size hbw))
    clear hrun hrw hbw hcb hbb
    go_wp2_with (at_builtin
                 rw [← hwb]
                 refine Lib.wpList_append_run _ rfl _ _ 67 67 rfl _ _ rfl rfl _ _ HRUN.out ?_)
    exact HKT.out _ _ (rtd0 HX.out QB.out QR.out HLS.out (by kernel_rfl))
set_option maxHeartbeats 4000000 in
theorem recordsD_any (s : St) (y : Sy) (w0 : World) (h : Sees w0 s y) (hs : Small s) :
    Calls Tryz.prog 29 #[s.val y] w0 fun e w' => (∃ A c zs, e = .returned (.slice A (recordsL s).length c) ∧ Recs w' A (recordsL s) zs ∧ (A = none → c = 0)) ∧ Below w0.heap.size w0 w' := by
  obtain ⟨w1, hw1⟩ : ∃ v, v = w0.alloc (.cells #[.int .i64 s.node, .int .i64 s.nodes, .int .i64 s.cells, .int .i64 s.epoch, .slice y.P s.places.length y.p, .slice y.Q s.prep.length y.q, .slice y.D s.dec.length y.d, .slice y.C s.com.length y.c] 41) := ⟨_, rfl⟩
  obtain ⟨w2, hw2⟩ : ∃ v, v = w1.alloc (.cells #[.int .i64 1, .int .i64 0, .int .i64 0, .int .i64 0, .slice none 0 0, .slice none 0 0, .int .i64 s.node, .int .i64 s.nodes, .int .i64 s.cells, .int .i64 0, .int .i64 0, .int .i64 0, .int .i64 0, .int .i64 0, .bool false] 55) := ⟨_, rfl⟩
  have hb1 : Below w0.heap.size w0 w1 := by rw [hw1]; exact below_alloc _ _
  have HX : Hid (Rx 41 w0 w1 w0.heap.size s y) := Lib.hid ⟨hb1, by rw [hw1]; exact cells_new _ _ _ _ rfl, h.later hb1, hs⟩
  have HB : Hid (Below w1.heap.size w1 w2) := Lib.hid (by rw [hw2]; exact below_alloc _ _)
  have HR : Hid (RwR 55 w1.heap.size [rcB s.node s.nodes s.cells] (.slice (some ⟨w1.heap.size, 0, none⟩) 1 1) w2) := Lib.hid (by rw [hw2]; exact RwR.one (Nat.le_refl _) (rcB s.node s.nodes s.cells) rfl rfl)
  have hz1 : w1.heap.size = w0.heap.size + 1 := by rw [hw1, World.size_alloc]
  clear h hs hb1
  unfold St.val
  go_enter Tryz.func29, Tryz.ntmps29
  apply wp_seq_k
  intro K hK
  have HKT := Lib.hid hK
  clear hK
  go_wp2_with fail
  refine HKT.out _ _ ?_
  clear HKT
  rw [← hw1]
  clear hw1
  have c0 : w1.cell? ⟨w0.heap.size, 0, none⟩ = some (.int .i64 s.node) := HX.out.box.cell (j := 0) rfl
  have c1 : w1.cell? ⟨w0.heap.size, 1, none⟩ = some (.int .i64 s.nodes) := HX.out.box.cell (j := 1) rfl
  have c2 : w1.cell? ⟨w0.heap.size, 2, none⟩ = some (.int .i64 s.cells) := HX.out.box.cell (j := 2) rfl
  apply wp_seq_k
  intro K hK
  have HKT := Lib.hid hK
  clear hK hz1
  go_wp2_with fail
  rw [← hw2]
  exact HKT.out _ _ (rtdA HX.out HB.out HR.out (by kernel_rfl))
end Go.Proofs.YtalhbblmnahcdaaGreat.Led
