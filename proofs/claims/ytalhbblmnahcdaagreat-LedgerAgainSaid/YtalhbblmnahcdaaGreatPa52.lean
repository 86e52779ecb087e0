/-
  Layer 8: a state's records, made by the code.
  Conditions: none.
-/
import Derived.Test.YtalhbblmnahcdaaGreatPa51
namespace Go.Proofs.YtalhbblmnahcdaaGreat.Led
set_option maxRecDepth 100000
open Go.RowKit Go.Deep Go.Proofs.YtalhbblmnahcdaaGreat.Mem Go.Proofs.YtalhbblmnahcdaaGreat.Item Go.Proofs.YtalhbblmnahcdaaGreat.Rec
theorem lplace_neq (a b c d e : Int) (w : World) : (binOp .neq 74 (.agg #[.int .i64 a, .int .i64 b, .int .i64 c, .int .i64 d, .int .i64 e]) (.agg #[.int .i64 0, .int .i64 0, .int .i64 0, .int .i64 0, .int .i64 0])).run Tryz.prog w = .ok (.bool (!(decide (a = 0) && decide (b = 0) && decide (c = 0) && decide (d = 0) && decide (e = 0)))) w := by
  have e1 : Tryz.prog.underlying 74 = some (.struct (Tryz.prog.fieldsOf 74)) := by kernel_rfl
  have e2 : Tryz.prog.stoodInHeld 74 = false := by kernel_rfl
  rw [run_neq_struct, run_equalIn_agg w _ _ _ _ e1 e2]
  obtain ⟨f0, f1, f2, f3, f4, hf, t0, t1, t2, t3, t4, o0, o1, o2, o3, o4, n0, n1, n2, n3, n4⟩ : ∃ f0 f1 f2 f3 f4 : Field, (Tryz.prog.fieldsOf 74).toList = [f0, f1, f2, f3, f4] ∧ f0.type = 3 ∧ f1.type = 3 ∧ f2.type = 3 ∧ f3.type = 3 ∧ f4.type = 3 ∧ f0.offset = 0 ∧ f1.offset = 1 ∧ f2.offset = 2 ∧ f3.offset = 3 ∧ f4.offset = 4 ∧ f0.name ≠ "_" ∧ f1.name ≠ "_" ∧ f2.name ≠ "_" ∧ f3.name ≠ "_" ∧ f4.name ≠ "_" := ⟨_, _, _, _, _, rfl, rfl, rfl, rfl, rfl, rfl, rfl, rfl, rfl, rfl, rfl, by decide, by decide, by decide, by decide, by decide⟩
  rw [hf]
  have hu := Tryz.underlying3
  by_cases ha : a = 0
  · by_cases hb : b = 0
    · by_cases hc : c = 0
      · by_cases hd : d = 0
        · by_cases he : e = 0
          · simp [Op.eqFields, n0, n1, n2, n3, n4, t0, t1, t2, t3, t4, o0, o1, o2, o3, o4, go_sem, hu, ha, hb, hc, hd, he]
          · simp [Op.eqFields, n0, n1, n2, n3, n4, t0, t1, t2, t3, t4, o0, o1, o2, o3, o4, go_sem, hu, ha, hb, hc, hd, he]
        · simp [Op.eqFields, n0, n1, n2, n3, t0, t1, t2, t3, o0, o1, o2, o3, go_sem, hu, ha, hb, hc, hd]
      · simp [Op.eqFields, n0, n1, n2, t0, t1, t2, o0, o1, o2, go_sem, hu, ha, hb, hc]
    · simp [Op.eqFields, n0, n1, t0, t1, o0, o1, go_sem, hu, ha, hb]
  · simp [Op.eqFields, n0, t0, o0, go_sem, hu, ha]
set_option maxHeartbeats 4000000 in
theorem rtk3 {w0 w1 wr : World} {g1 : Nat} {s : St} {y : Sy} (h : Rx 32 w0 w1 g1 s y) (hb : Below w1.heap.size w1 wr) {ls : List Rc} {v : Value} (hr : RwR 51 w1.heap.size ls v wr) (hls : recordsL s = ls ++ (s.com.flatMap rcK))
    {cc : Code} (hc : cc = sub [1, 1, 1, 1, 1, 1] ((Tryz.f28.body).getD .skip)) {s0 s2 s4 s5 s6 s7 s8 s9 s10 s11 s12 s13 s14 s15 s16 s17 s18 s19 s20 s21 s22 s23 s24 s25 s26 s27 s28 s29 s30 s31 s32 s33 s34 s35 s36 s37 s38 s39 s40 s41 s42 s43 s44 s45 s46 s47 s48 s49 s50 s51 s52 s53 s54 s55 s56 s57 s58 s59 s60 s61 s62 s63 s64 s65 s66 s67 s68 s69 s70 s71 s72 s73 s74 s75 s76 s77 s78 s79 s80 s81 s82 s83 s84 s85 s86 s87 s88 s89 s90 s91 s92 s93 s94 s95 s96 s97 s98 s99 s100 s101 s102 s103 s104 s105 s106 s107 s108 s109 s110 s111 s112 s113 s114 s115 s116 s117 s118 s119 s120 : Value} :
    cc.wp Tryz.prog (bodyPost Tryz.prog Tryz.f28 (fun e w' => (∃ A c zs, e = .returned (.slice A (recordsL s).length c) ∧ Recs w' A (recordsL s) zs ∧ (A = none → c = 0)) ∧ Below w0.heap.size w0 w')) { tmps := List.toArray (s0::.pointer (some ⟨g1, 0, none⟩)::s2::v::s4::s5::s6::s7::s8::s9::s10::s11::s12::s13::s14::s15::s16::s17::s18::s19::s20::s21::s22::s23::s24::s25::s26::s27::s28::s29::s30::s31::s32::s33::s34::s35::s36::s37::s38::s39::s40::s41::s42::s43::s44::s45::s46::s47::s48::s49::s50::s51::s52::s53::s54::s55::s56::s57::s58::s59::s60::s61::s62::s63::s64::s65::s66::s67::s68::s69::s70::s71::s72::s73::s74::s75::s76::s77::s78::s79::s80::s81::s82::s83::s84::s85::s86::s87::s88::s89::s90::s91::s92::s93::s94::s95::s96::s97::s98::s99::s100::s101::s102::s103::s104::s105::s106::s107::s108::s109::s110::s111::s112::s113::s114::s115::s116::s117::s118::s119::s120::[]), defers := [] } wr := by
  conv at hc => rhs; whnf
  subst hc
  apply wp_seq_k
  intro K hK
  have HKT := Lib.hid hK
  clear hK
  obtain ⟨yP, yp, yQ, yq, yD, yd, yC, yc, yps, ycs⟩ := y
  have HX := Lib.hid h
  have HB0 := Lib.hid hb
  have HR0 := Lib.hid hr
  have HLS := Lib.hid hls
  obtain ⟨n, hn⟩ : ∃ n, s.com.length = n := ⟨_, rfl⟩
  have HN := Lib.hid hn
  have hnb : n ≤ 100000 := by rw [← hn]; exact h.sm.com
  have HLL : Hid (ls.length ≤ 1000000) := Lib.hid (by
    have h1 := congrArg List.length hls
    rw [List.length_append] at h1
    have h2 := recs_len h.sm
    omega)
  have hcx : wr.cell? ⟨g1, 7, none⟩ = some (.slice yC n yc) := by rw [← hn]; exact (h.box.later hb).cell (j := 7) rfl
  clear h hb hr hls hn
  go_wp2_with fail
  go_loopw [3, 11, 95] (fun v _ i wr => ∃ (j : Nat), j ≤ n ∧ i = .int .i64 (j : Int) ∧ Hid (RwR 51 w1.heap.size (ls ++ (s.com.take j).flatMap rcK) v wr) ∧ Hid (Below w1.heap.size w1 wr)) (fun _ _ i _ => n - (intOf i).toNat)
  case atStart => exact ⟨0, Nat.zero_le _, rfl, Lib.hid (by simpa [cellsFrom] using HR0.out), HB0⟩
  case round =>
    clear hcx
    obtain ⟨j, hj, rfl, HR, HB⟩ := hrel
    have hcx : wr.cell? ⟨g1, 7, none⟩ = some (.slice yC n yc) := by rw [← HN.out]; exact (HX.out.box.later HB.out).cell (j := 7) rfl
    by_cases hlt : j < n
    · have hl0 : j < s.com.length := by rw [HN.out]; exact hlt
      have hse := HX.out.see.later HB.out
      have HPL : Hid ((ls ++ (s.com.take j).flatMap rcK).length ≤ 900000000) := Lib.hid (by
        have h1 := HLL.out
        have h2 : ((s.com.take j).flatMap rcK).length ≤ 1000000 := (Nat.le_trans (flatK_len _) (by rw [List.length_take]; omega))
        rw [List.length_append]
        omega)
      have hy0 : j < ycs.length := by have := hse.cs; simp only at this; omega
      obtain ⟨bb, off, hA, hr0⟩ := hse.com j (by rw [List.length_zipWith]; simp only; omega)
      have ht0 := hse.cin j hl0 hy0
      simp only at hA
      subst hA
      rw [List.getElem_zipWith] at hr0
      simp only at hr0 ht0
      obtain ⟨p, hp⟩ : ∃ p, s.com[j] = p := ⟨_, rfl⟩
      have HTK : Hid (s.com.take (j + 1) = s.com.take j ++ [p]) := Lib.hid (by rw [List.take_succ_eq_append_getElem hl0, hp])
      have HSM : Hid (p.items.length ≤ 100000 ∧ p.nodes.length ≤ 100000) := Lib.hid (by rw [← hp]; exact HX.out.sm.cin _ (List.getElem_mem hl0))
      obtain ⟨la, hla⟩ : ∃ l, ycs[j] = l := ⟨_, rfl⟩
      rw [hla] at hr0 ht0
      rw [hp] at ht0
      have HTW := Lib.hid ht0
      rw [hp] at hr0
      clear hp hl0 hse hla hy0 ht0
      have z0 : wr.cell? ⟨bb, off + j * 6, none⟩ = some (.int .i64 p.tid.node) := hr0 0 _ rfl
      have z1 : wr.cell? ⟨bb, off + j * 6 + 1, none⟩ = some (.int .i64 p.tid.epoch) := hr0 1 _ rfl
      have z2 : wr.cell? ⟨bb, off + j * 6 + 2, none⟩ = some (.int .i64 p.tid.seq) := hr0 2 _ rfl
      have z3 : wr.cell? ⟨bb, off + j * 6 + 3, none⟩ = some (.slice la.A p.items.length la.c) := hr0 3 _ rfl
      have z4 : wr.cell? ⟨bb, off + j * 6 + 4, none⟩ = some (.slice la.B p.nodes.length la.d) := hr0 4 _ rfl
      have z5 : wr.cell? ⟨bb, off + j * 6 + 5, none⟩ = some (.bool p.over) := hr0 5 _ rfl
      obtain ⟨wa, hwa⟩ : ∃ v, v = wr.alloc (.cells #[.int .i64 p.tid.node, .int .i64 p.tid.epoch, .int .i64 p.tid.seq, .slice la.A p.items.length la.c, .slice la.B p.nodes.length la.d, .bool p.over] 88) := ⟨_, rfl⟩
      have hba : Below wr.heap.size wr wa := by rw [hwa]; exact below_alloc _ _
      have hsa : wa.heap.size = wr.heap.size + 1 := by rw [hwa, World.size_alloc]
      have HRA := Lib.hid (HR.out.later hba)
      have HBA := Lib.hid (HB.out.trans (hba.mono HB.out.size))
      have HPC : Hid (∀ wi, Below wa.heap.size wa wi → Cells wi wr.heap.size 88 [.int .i64 p.tid.node, .int .i64 p.tid.epoch, .int .i64 p.tid.seq, .slice la.A p.items.length la.c, .slice la.B p.nodes.length la.d, .bool p.over]) := Lib.hid (fun wi hi => Cells.later (by rw [hwa]; exact cells_new _ _ _ _ rfl) hi)
      have HCL := Lib.hid (clones (HTW.out.later hba) HSM.out)
      obtain ⟨lq, hlq⟩ : ∃ q, (ls ++ (s.com.take j).flatMap rcK) = q := ⟨_, rfl⟩
      have HLQ := Lib.hid hlq
      have HOWN : Hid (∀ j, some j = u3.ownBlock → j < wr.heap.size) := Lib.hid (fun j e => by
        obtain ⟨_, _, hrow, _⟩ := HR.out
        exact (hrow.lt j e.symm).2)
      rw [hlq] at HRA HPL
      obtain ⟨gp, hgp⟩ : ∃ q, wr.heap.size = q := ⟨_, rfl⟩
      rw [hgp] at HPC HOWN
      go_upto_region 23 with (fail)
      rw [← hwa]
      try rw [hgp]
      clear hwa hba hsa hlq hgp z0 z1 z2 z3 z4 z5
      refine Reg.region_inv (by kernel_rfl) (fun i => ([some (u3), some (.pointer (some ⟨gp, 0, none⟩)), some (.agg #[.int .i64 p.tid.node, .int .i64 p.tid.epoch, .int .i64 p.tid.seq]), some (.pointer (some ⟨gp, 3, none⟩)), some (.slice la.A p.items.length la.c), none, some (.pointer (some ⟨gp, 4, none⟩)), some (.slice la.B p.nodes.length la.d), none, none, none, none, none] : List (Option Value)).getD i none) (fun D V W => (cpR 51 w1.heap.size lq (rcK1 p) wa u3 (D 5) (D 8) (D 9) (D 10) (D 11) (V 5) (V 8) (V 9) (V 10) (V 11) W) ∧ ((D 12) = true → V 12 = V 11)) (fun V => [(some 99, V 0), (some 100, V 1), (some 101, V 2), (some 102, V 3), (some 103, V 4), (some 104, V 5), (some 105, V 6), (some 106, V 7), (some 107, V 8), (some 108, V 9), (some 109, V 10), (some 110, V 11), (some 3, V 12)]) (by kernel_rfl) (by kernel_rfl) (fun V => rfl) ?_ ?_ ?_
      · intro V
        exact ⟨⟨fun _ => (Below.refl _ _).drew, fun e => (by cases e), fun e => (by cases e), fun e => (by cases e), fun e => (by cases e), fun e => (by cases e)⟩, fun e => (by cases e)⟩
      · intro i o ho
        have hi : i < 13 := (Array.getElem?_eq_some_iff.1 ho).1
        rcases i with _ | _ | _ | _ | _ | _ | _ | _ | _ | _ | _ | _ | _ | i
        rotate_right
        · omega
        all_goals obtain rfl := Option.some.inj ho
        all_goals intro D V ρ wi hE hI hDi hT hF hs hd hk
        · have e3 : ρ (.tmp 3) = u3 := hs 3; clear hT hF hk
          exact Reg.Gives.value (v := u3) (w' := wi) (by go_simp) ⟨fun x h => Option.some.inj h, hI⟩
        · have e11 : ρ (.tmp 11) = .pointer (some ⟨gp, 0, none⟩) := hs 11; clear hT hF hk
          exact Reg.Gives.value (v := .pointer (some ⟨gp, 0, none⟩)) (w' := wi) (by go_simp) ⟨fun x h => Option.some.inj h, hI⟩
        · have e100 : ρ (.tmp 100) = .pointer (some ⟨gp, 0, none⟩) := (hd 1 100).trans (hk 1 _ rfl); have hD11 : D 11 = false := hF 3 11; clear hT hF; have hq := HPC.out wi (hI.1.low hD11); have q0 := hq.cell (j := 0) rfl; have q1 := hq.cell (j := 1) rfl; have q2 := hq.cell (j := 2) rfl
          exact Reg.Gives.value (v := .agg #[.int .i64 p.tid.node, .int .i64 p.tid.epoch, .int .i64 p.tid.seq]) (w' := wi) (by go_simp) ⟨fun x h => Option.some.inj h, hI⟩
        · have e11 : ρ (.tmp 11) = .pointer (some ⟨gp, 0, none⟩) := hs 11; clear hT hF hk
          exact Reg.Gives.value (v := .pointer (some ⟨gp, 3, none⟩)) (w' := wi) (by go_simp) ⟨fun x h => Option.some.inj h, hI⟩
        · have e102 : ρ (.tmp 102) = .pointer (some ⟨gp, 3, none⟩) := (hd 3 102).trans (hk 3 _ rfl); have hD11 : D 11 = false := hF 3 11; clear hT hF; have hq := HPC.out wi (hI.1.low hD11); have q3 := hq.cell (j := 3) rfl
          exact Reg.Gives.value (v := .slice la.A p.items.length la.c) (w' := wi) (by go_simp) ⟨fun x h => Option.some.inj h, hI⟩
        · have e103 : ρ (.tmp 103) = .slice la.A p.items.length la.c := (hd 4 103).trans (hk 4 _ rfl); have hf := hE.func; have hD5 : D 5 = false := hDi; have hD9 : D 9 = false := hF 1 9; have hD10 : D 10 = false := hF 2 10; have hD11 : D 11 = false := hF 2 11; clear hT hF
          rw [hD5, hD9, hD10, hD11] at hI
          refine Reg.Gives.call (f := 53) (args := #[.slice la.A p.items.length la.c]) (w' := wi) (by go_simp) ?_
          refine (HCL.out.1 wi (hI.1.low rfl)).mono ?_
          rintro e w'' ⟨⟨v', rfl, hrow⟩, hbb⟩
          refine ⟨_, rfl, fun x h => (by cases h), ?_⟩
          show (cpR 51 w1.heap.size lq (rcK1 p) wa u3 true (D 8) (D 9) (D 10) (D 11) v' (V 8) (V 9) (V 10) (V 11) w'') ∧ ((D 12) = true → V 12 = V 11)
          rw [hD9, hD10, hD11]
          exact ⟨hI.1.call5 hrow hbb, hI.2⟩
        · have e11 : ρ (.tmp 11) = .pointer (some ⟨gp, 0, none⟩) := hs 11; clear hT hF hk
          exact Reg.Gives.value (v := .pointer (some ⟨gp, 4, none⟩)) (w' := wi) (by go_simp) ⟨fun x h => Option.some.inj h, hI⟩
        · have e105 : ρ (.tmp 105) = .pointer (some ⟨gp, 4, none⟩) := (hd 6 105).trans (hk 6 _ rfl); have hD11 : D 11 = false := hF 2 11; clear hT hF; have hq := HPC.out wi (hI.1.low hD11); have q4 := hq.cell (j := 4) rfl
          exact Reg.Gives.value (v := .slice la.B p.nodes.length la.d) (w' := wi) (by go_simp) ⟨fun x h => Option.some.inj h, hI⟩
        · have e106 : ρ (.tmp 106) = .slice la.B p.nodes.length la.d := (hd 7 106).trans (hk 7 _ rfl); have hf := hE.func; have hD8 : D 8 = false := hDi; have hD9 : D 9 = false := hF 1 9; have hD10 : D 10 = false := hF 2 10; have hD11 : D 11 = false := hF 1 11; clear hT hF
          rw [hD8, hD9, hD10, hD11] at hI
          refine Reg.Gives.call (f := 54) (args := #[.slice la.B p.nodes.length la.d]) (w' := wi) (by go_simp) ?_
          refine (HCL.out.2 wi (hI.1.low rfl)).mono ?_
          rintro e w'' ⟨⟨v', rfl, hrow⟩, hbb⟩
          refine ⟨_, rfl, fun x h => (by cases h), ?_⟩
          show (cpR 51 w1.heap.size lq (rcK1 p) wa u3 (D 5) true (D 9) (D 10) (D 11) (V 5) v' (V 9) (V 10) (V 11) w'') ∧ ((D 12) = true → V 12 = V 11)
          rw [hD9, hD10, hD11]
          exact ⟨hI.1.call8 hrow hbb, hI.2⟩
        · have e101 : ρ (.tmp 101) = .agg #[.int .i64 p.tid.node, .int .i64 p.tid.epoch, .int .i64 p.tid.seq] := (hd 2 101).trans (hk 2 _ rfl); have e104 : ρ (.tmp 104) = V 5 := hd 5 104; have e107 : ρ (.tmp 107) = V 8 := hd 8 107; have hc := hE.const; have hD5 : D 5 = true := hT 1 5; have hD8 : D 8 = true := hT 1 8; have hD9 : D 9 = false := hDi; have hD10 : D 10 = false := hF 1 10
          have hD11 : D 11 = false := hF 2 11; clear hT hF
          rw [hD5, hD8, hD9, hD10, hD11] at hI
          obtain ⟨yy, h5, h8, hn⟩ : ∃ yy : Lay, V 5 = .slice yy.A p.items.length yy.c ∧ V 8 = .slice yy.B p.nodes.length yy.d ∧ cpR 51 w1.heap.size lq (rcK1 p) wa u3 true true true false false (V 5) (V 8) (.agg #[.int .i64 5, .int .i64 p.tid.node, .int .i64 p.tid.epoch, .int .i64 p.tid.seq, .slice yy.A p.items.length yy.c, .slice yy.B p.nodes.length yy.d, .int .i64 0, .int .i64 0, .int .i64 0, .int .i64 0, .int .i64 0, .int .i64 0, .int .i64 0, .int .i64 0, .bool false]) (V 10) (V 11) wi := hI.1.build
          rw [h5] at e104
          rw [h8] at e107
          exact Reg.Gives.value (v := .agg #[.int .i64 5, .int .i64 p.tid.node, .int .i64 p.tid.epoch, .int .i64 p.tid.seq, .slice yy.A p.items.length yy.c, .slice yy.B p.nodes.length yy.d, .int .i64 0, .int .i64 0, .int .i64 0, .int .i64 0, .int .i64 0, .int .i64 0, .int .i64 0, .int .i64 0, .bool false]) (w' := wi) (by go_simp) ⟨fun x h => (by cases h), by show (cpR 51 w1.heap.size lq (rcK1 p) wa u3 (D 5) (D 8) true (D 10) (D 11) (V 5) (V 8) (.agg #[.int .i64 5, .int .i64 p.tid.node, .int .i64 p.tid.epoch, .int .i64 p.tid.seq, .slice yy.A p.items.length yy.c, .slice yy.B p.nodes.length yy.d, .int .i64 0, .int .i64 0, .int .i64 0, .int .i64 0, .int .i64 0, .int .i64 0, .int .i64 0, .int .i64 0, .bool false]) (V 10) (V 11) _) ∧ ((D 12) = true → V 12 = V 11); rw [hD5, hD8, hD10, hD11]; exact ⟨hn, hI.2⟩⟩
        · have e108 : ρ (.tmp 108) = V 9 := hd 9 108; have hD5 : D 5 = true := hT 2 5; have hD8 : D 8 = true := hT 2 8; have hD9 : D 9 = true := hT 1 9; have hD10 : D 10 = false := hDi; have hD11 : D 11 = false := hF 1 11; clear hT hF
          rw [hD5, hD8, hD9, hD10, hD11] at hI
          obtain ⟨yy, h9, hn⟩ : ∃ yy : Lay, V 9 = .agg #[.int .i64 5, .int .i64 p.tid.node, .int .i64 p.tid.epoch, .int .i64 p.tid.seq, .slice yy.A p.items.length yy.c, .slice yy.B p.nodes.length yy.d, .int .i64 0, .int .i64 0, .int .i64 0, .int .i64 0, .int .i64 0, .int .i64 0, .int .i64 0, .int .i64 0, .bool false] ∧ cpR 51 w1.heap.size lq (rcK1 p) wa u3 true true true true false (V 5) (V 8) (V 9) (.slice (some ⟨wi.heap.size, 0, none⟩) 1 1) (V 11) (wi.alloc (.cells #[.int .i64 5, .int .i64 p.tid.node, .int .i64 p.tid.epoch, .int .i64 p.tid.seq, .slice yy.A p.items.length yy.c, .slice yy.B p.nodes.length yy.d, .int .i64 0, .int .i64 0, .int .i64 0, .int .i64 0, .int .i64 0, .int .i64 0, .int .i64 0, .int .i64 0, .bool false] 51)) := hI.1.make
          rw [h9] at e108
          exact Reg.Gives.value (v := .slice (some ⟨wi.heap.size, 0, none⟩) 1 1) (w' := wi.alloc (.cells #[.int .i64 5, .int .i64 p.tid.node, .int .i64 p.tid.epoch, .int .i64 p.tid.seq, .slice yy.A p.items.length yy.c, .slice yy.B p.nodes.length yy.d, .int .i64 0, .int .i64 0, .int .i64 0, .int .i64 0, .int .i64 0, .int .i64 0, .int .i64 0, .int .i64 0, .bool false] 51)) (by go_simp) ⟨fun x h => (by cases h), by show (cpR 51 w1.heap.size lq (rcK1 p) wa u3 (D 5) (D 8) (D 9) true (D 11) (V 5) (V 8) (V 9) (.slice (some ⟨wi.heap.size, 0, none⟩) 1 1) (V 11) _) ∧ ((D 12) = true → V 12 = V 11); rw [hD5, hD8, hD9, hD11]; exact ⟨hn, hI.2⟩⟩
        · have e99 : ρ (.tmp 99) = u3 := (hd 0 99).trans (hk 0 _ rfl); have e109 : ρ (.tmp 109) = V 10 := hd 10 109; have hD5 : D 5 = true := hT 2 5; have hD8 : D 8 = true := hT 1 8; have hD9 : D 9 = true := hT 2 9; have hD10 : D 10 = true := hT 1 10; have hD11 : D 11 = false := hDi; have hD12 : D 12 = false := hF 1 12; clear hT hF
          rw [hD5, hD8, hD9, hD10, hD11] at hI
          obtain ⟨g, A, n, m, w'', h10, hrun, hn⟩ := hI.1.put rt_code HRA.out HBA.out.size (Nat.le_trans HPL.out (by decide))
          rw [h10] at e109
          exact Reg.Gives.value (v := .slice A n m) (w' := w'') (Reg.exec_append rfl e99 e109 hrun) ⟨fun x h => (by cases h), by show (cpR 51 w1.heap.size lq (rcK1 p) wa u3 (D 5) (D 8) (D 9) (D 10) true (V 5) (V 8) (V 9) (V 10) (.slice A n m) _) ∧ ((D 12) = true → V 12 = .slice A n m); rw [hD5, hD8, hD9, hD10]; exact ⟨hn, fun e => absurd (hD12.symm.trans e) (by decide)⟩⟩
        · have e110 : ρ (.tmp 110) = V 11 := hd 11 110; clear hT hF
          exact Reg.Gives.value (v := V 11) (w' := wi) (by go_simp) ⟨fun x h => (by cases h), ⟨hI.1, fun _ => rfl⟩⟩
      · intro V wx hk hI
        simp only [Reg.putsO, List.foldl_cons, List.foldl_nil, Act.put, List.setIfInBounds_toArray, List.set_cons_succ, List.set_cons_zero]
        replace hI : (cpR 51 w1.heap.size lq (rcK1 p) wa u3 true true true true true (V 5) (V 8) (V 9) (V 10) (V 11) wx) ∧ (true = true → V 12 = V 11) := hI
        clear hk
        have h11 := hI.2 rfl
        obtain ⟨hrw, hbw⟩ := hI.1.fin rfl
        rw [h11]
        have QR := Lib.hid hrw
        have QO := Lib.hid hbw
        have QB := Lib.hid (HBA.out.trans (HRA.out.bel (Below.refl _ _) HBA.out.size hbw))
        clear hI hrw hbw h11
        obtain ⟨vq, hvq⟩ : ∃ q, V 11 = q := ⟨_, rfl⟩
        rw [hvq] at QR ⊢
        obtain ⟨wq, hwq⟩ : ∃ q, q = wx := ⟨_, rfl⟩
        rw [← hwq] at QR QB QO ⊢
        clear hvq hwq
        have HOB : Hid (∀ j, some j = u3.ownBlock → j < gp) := HOWN
        have hq := cells_only (HPC.out _ (Below.refl _ _)) QO.out (fun e => Nat.lt_irrefl _ (HOB.out _ e))
        obtain ⟨ov, hov⟩ : ∃ q, p.over = q := ⟨_, rfl⟩
        have HOV := Lib.hid hov
        rw [hov] at hq
        clear hov
        have x0 : wq.cell? ⟨gp, 0, none⟩ = some (.int .i64 p.tid.node) := hq.cell (j := 0) rfl
        have x1 : wq.cell? ⟨gp, 1, none⟩ = some (.int .i64 p.tid.epoch) := hq.cell (j := 1) rfl
        have x2 : wq.cell? ⟨gp, 2, none⟩ = some (.int .i64 p.tid.seq) := hq.cell (j := 2) rfl
        have x3 : wq.cell? ⟨gp, 3, none⟩ = some (.slice la.A p.items.length la.c) := hq.cell (j := 3) rfl
        have x4 : wq.cell? ⟨gp, 4, none⟩ = some (.slice la.B p.nodes.length la.d) := hq.cell (j := 4) rfl
        have x5 : wq.cell? ⟨gp, 5, none⟩ = some (.bool ov) := hq.cell (j := 5) rfl
        clear hq
        cases ov with
        | false =>
          have HRN : Hid (RwR 51 w1.heap.size (ls ++ (s.com.take (j + 1)).flatMap rcK) vq wq) := Lib.hid (by
            have h := QR.out
            rw [← HLQ.out] at h
            rw [HTK.out, List.flatMap_append, List.flatMap_singleton, rcK, HOV.out, if_neg (by decide), ← List.append_assoc]
            exact h)
          go_wp2_with fail
          go_roundw
          case rel => exact ⟨j + 1, by omega, by go_num, HRN, QB⟩
          case measure => simp [intOf]; omega
        | true =>
          have hlq2 : wq.heap.size = wq.heap.size := rfl
          obtain ⟨wb, hwb⟩ : ∃ v, v = wq.alloc (.cells #[.int .i64 7, .int .i64 p.tid.node, .int .i64 p.tid.epoch, .int .i64 p.tid.seq, .slice none 0 0, .slice none 0 0, .int .i64 0, .int .i64 0, .int .i64 0, .int .i64 0, .int .i64 0, .int .i64 0, .int .i64 0, .int .i64 0, .bool false] 51) := ⟨_, rfl⟩
          have hbb : Below wq.heap.size wq wb := by rw [hwb]; exact below_alloc _ _
          have hcb : Cells wb wq.heap.size 51 (Rc.vals (rcK2 p) ⟨none, 0, none, 0⟩) := by rw [hwb]; exact cells_new _ _ _ _ rfl
          obtain ⟨A, m, c, w', hrun, hrw, hbw⟩ := QR.out.more rt_code QB.out.size (rcK2 p) ⟨none, 0, none, 0⟩ wb hbb (fr_nil _ _ rfl rfl) (by have := HPL.out; first | omega | (simp only [List.length_append, List.length_singleton] at this ⊢; omega)) (wq.heap.size) hcb
          have HRUN := Lib.hid hrun
          have ZR : Hid (RwR 51 w1.heap.size ((lq ++ [rcK1 p]) ++ [(rcK2 p)]) (.slice A m c) w') := Lib.hid hrw
          have ZB : Hid (Below w1.heap.size w1 w') := Lib.hid (QB.out.trans (QR.out.bel hbb QB.out.size hbw))
          clear hrun hrw hbw hcb hbb
          have HRN : Hid (RwR 51 w1.heap.size (ls ++ (s.com.take (j + 1)).flatMap rcK) (.slice A m c) w') := Lib.hid (by
            have h := ZR.out
            rw [← HLQ.out] at h
            rw [HTK.out, List.flatMap_append, List.flatMap_singleton, rcK, HOV.out, if_pos rfl, ← List.append_assoc]
            simpa [List.append_assoc] using h)
          clear hlq2
          go_wp2_with (at_builtin
                       rw [← hwb]
                       refine Lib.wpList_append_run _ rfl _ _ 24 24 rfl _ _ rfl rfl _ _ HRUN.out ?_)
          go_roundw
          case rel => exact ⟨j + 1, by omega, by go_num, HRN, ZB⟩
          case measure => simp [intOf]; omega
    · have hjn : j = n := by omega
      have HR2 : Hid (RwR 51 w1.heap.size (ls ++ s.com.flatMap rcK) u3 wr) := Lib.hid (by
        have h := HR.out
        rw [List.take_of_length_le (by have := HN.out; omega)] at h
        exact h)
      clear hjn
      have HFIN : Hid (RwR 51 w1.heap.size (recordsL s) u3 wr) := Lib.hid (by rw [HLS.out]; exact HR2.out)
      go_wp2_with fail
      refine HKT.out _ _ ?_
      go_wp2_with fail
      obtain ⟨A, c, zs, hv, hre, hcc⟩ := HFIN.out.recs
      subst hv
      go_returns
      exact ⟨⟨A, c, zs, rfl, hre, hcc⟩, HX.out.low.trans (HB.out.mono HX.out.low.size)⟩
set_option maxHeartbeats 4000000 in
theorem rtk2 {w0 w1 wr : World} {g1 : Nat} {s : St} {y : Sy} (h : Rx 32 w0 w1 g1 s y) (hb : Below w1.heap.size w1 wr) {ls : List Rc} {v : Value} (hr : RwR 51 w1.heap.size ls v wr) (hls : recordsL s = ls ++ (s.prep.map rcR ++ s.com.flatMap rcK))
    {cc : Code} (hc : cc = sub [1, 1, 1, 1, 1] ((Tryz.f28.body).getD .skip)) {s0 s2 s4 s5 s6 s7 s8 s9 s10 s11 s12 s13 s14 s15 s16 s17 s18 s19 s20 s21 s22 s23 s24 s25 s26 s27 s28 s29 s30 s31 s32 s33 s34 s35 s36 s37 s38 s39 s40 s41 s42 s43 s44 s45 s46 s47 s48 s49 s50 s51 s52 s53 s54 s55 s56 s57 s58 s59 s60 s61 s62 s63 s64 s65 s66 s67 s68 s69 s70 s71 s72 s73 s74 s75 s76 s77 s78 s79 s80 s81 s82 s83 s84 s85 s86 s87 s88 s89 s90 s91 s92 s93 s94 s95 s96 s97 s98 s99 s100 s101 s102 s103 s104 s105 s106 s107 s108 s109 s110 s111 s112 s113 s114 s115 s116 s117 s118 s119 s120 : Value} :
    cc.wp Tryz.prog (bodyPost Tryz.prog Tryz.f28 (fun e w' => (∃ A c zs, e = .returned (.slice A (recordsL s).length c) ∧ Recs w' A (recordsL s) zs ∧ (A = none → c = 0)) ∧ Below w0.heap.size w0 w')) { tmps := List.toArray (s0::.pointer (some ⟨g1, 0, none⟩)::s2::v::s4::s5::s6::s7::s8::s9::s10::s11::s12::s13::s14::s15::s16::s17::s18::s19::s20::s21::s22::s23::s24::s25::s26::s27::s28::s29::s30::s31::s32::s33::s34::s35::s36::s37::s38::s39::s40::s41::s42::s43::s44::s45::s46::s47::s48::s49::s50::s51::s52::s53::s54::s55::s56::s57::s58::s59::s60::s61::s62::s63::s64::s65::s66::s67::s68::s69::s70::s71::s72::s73::s74::s75::s76::s77::s78::s79::s80::s81::s82::s83::s84::s85::s86::s87::s88::s89::s90::s91::s92::s93::s94::s95::s96::s97::s98::s99::s100::s101::s102::s103::s104::s105::s106::s107::s108::s109::s110::s111::s112::s113::s114::s115::s116::s117::s118::s119::s120::[]), defers := [] } wr := by
  conv at hc => rhs; whnf
  subst hc
  apply wp_seq_k
  intro K hK
  have HKT := Lib.hid hK
  clear hK
  obtain ⟨yP, yp, yQ, yq, yD, yd, yC, yc, yps, ycs⟩ := y
  have HX := Lib.hid h
  have HB0 := Lib.hid hb
  have HR0 := Lib.hid hr
  have HLS := Lib.hid hls
  obtain ⟨n, hn⟩ : ∃ n, s.prep.length = n := ⟨_, rfl⟩
  have HN := Lib.hid hn
  have hnb : n ≤ 100000 := by rw [← hn]; exact h.sm.prep
  have HLL : Hid (ls.length ≤ 1000000) := Lib.hid (by
    have h1 := congrArg List.length hls
    rw [List.length_append] at h1
    have h2 := recs_len h.sm
    omega)
  have hcx : wr.cell? ⟨g1, 5, none⟩ = some (.slice yQ n yq) := by rw [← hn]; exact (h.box.later hb).cell (j := 5) rfl
  clear h hb hr hls hn
  go_wp2_with fail
  go_loopw [3, 9, 75] (fun v _ i wr => ∃ (j : Nat), j ≤ n ∧ i = .int .i64 (j : Int) ∧ Hid (RwR 51 w1.heap.size (ls ++ (s.prep.take j).map rcR) v wr) ∧ Hid (Below w1.heap.size w1 wr)) (fun _ _ i _ => n - (intOf i).toNat)
  case atStart => exact ⟨0, Nat.zero_le _, rfl, Lib.hid (by simpa [cellsFrom] using HR0.out), HB0⟩
  case round =>
    clear hcx
    obtain ⟨j, hj, rfl, HR, HB⟩ := hrel
    have hcx : wr.cell? ⟨g1, 5, none⟩ = some (.slice yQ n yq) := by rw [← HN.out]; exact (HX.out.box.later HB.out).cell (j := 5) rfl
    by_cases hlt : j < n
    · have hl0 : j < s.prep.length := by rw [HN.out]; exact hlt
      have hse := HX.out.see.later HB.out
      have HPL : Hid ((ls ++ (s.prep.take j).map rcR).length ≤ 900000000) := Lib.hid (by
        have h1 := HLL.out
        have h2 : ((s.prep.take j).map rcR).length ≤ 1000000 := (by rw [List.length_map, List.length_take]; omega)
        rw [List.length_append]
        omega)
      have hy0 : j < yps.length := by have := hse.ps; simp only at this; omega
      obtain ⟨bb, off, hA, hr0⟩ := hse.prep j (by rw [List.length_zipWith]; simp only; omega)
      have ht0 := hse.pin j hl0 hy0
      simp only at hA
      subst hA
      rw [List.getElem_zipWith] at hr0
      simp only at hr0 ht0
      obtain ⟨p, hp⟩ : ∃ p, s.prep[j] = p := ⟨_, rfl⟩
      have HTK : Hid (s.prep.take (j + 1) = s.prep.take j ++ [p]) := Lib.hid (by rw [List.take_succ_eq_append_getElem hl0, hp])
      have HSM : Hid (p.items.length ≤ 100000 ∧ p.nodes.length ≤ 100000) := Lib.hid (by rw [← hp]; exact HX.out.sm.pin _ (List.getElem_mem hl0))
      obtain ⟨la, hla⟩ : ∃ l, yps[j] = l := ⟨_, rfl⟩
      rw [hla] at hr0 ht0
      rw [hp] at ht0
      have HTW := Lib.hid ht0
      rw [hp] at hr0
      clear hp hl0 hse hla hy0 ht0
      have z0 : wr.cell? ⟨bb, off + j * 5, none⟩ = some (.int .i64 p.tid.node) := hr0 0 _ rfl
      have z1 : wr.cell? ⟨bb, off + j * 5 + 1, none⟩ = some (.int .i64 p.tid.epoch) := hr0 1 _ rfl
      have z2 : wr.cell? ⟨bb, off + j * 5 + 2, none⟩ = some (.int .i64 p.tid.seq) := hr0 2 _ rfl
      have z3 : wr.cell? ⟨bb, off + j * 5 + 3, none⟩ = some (.slice la.A p.items.length la.c) := hr0 3 _ rfl
      have z4 : wr.cell? ⟨bb, off + j * 5 + 4, none⟩ = some (.slice la.B p.nodes.length la.d) := hr0 4 _ rfl
      obtain ⟨wa, hwa⟩ : ∃ v, v = wr.alloc (.cells #[.int .i64 p.tid.node, .int .i64 p.tid.epoch, .int .i64 p.tid.seq, .slice la.A p.items.length la.c, .slice la.B p.nodes.length la.d] 86) := ⟨_, rfl⟩
      have hba : Below wr.heap.size wr wa := by rw [hwa]; exact below_alloc _ _
      have hsa : wa.heap.size = wr.heap.size + 1 := by rw [hwa, World.size_alloc]
      have HRA := Lib.hid (HR.out.later hba)
      have HBA := Lib.hid (HB.out.trans (hba.mono HB.out.size))
      have HPC : Hid (∀ wi, Below wa.heap.size wa wi → Cells wi wr.heap.size 86 [.int .i64 p.tid.node, .int .i64 p.tid.epoch, .int .i64 p.tid.seq, .slice la.A p.items.length la.c, .slice la.B p.nodes.length la.d]) := Lib.hid (fun wi hi => Cells.later (by rw [hwa]; exact cells_new _ _ _ _ rfl) hi)
      have HCL := Lib.hid (clones (HTW.out.later hba) HSM.out)
      obtain ⟨lq, hlq⟩ : ∃ q, (ls ++ (s.prep.take j).map rcR) = q := ⟨_, rfl⟩
      have HLQ := Lib.hid hlq
      have HOWN : Hid (∀ j, some j = u3.ownBlock → j < wr.heap.size) := Lib.hid (fun j e => by
        obtain ⟨_, _, hrow, _⟩ := HR.out
        exact (hrow.lt j e.symm).2)
      rw [hlq] at HRA HPL
      obtain ⟨gp, hgp⟩ : ∃ q, wr.heap.size = q := ⟨_, rfl⟩
      rw [hgp] at HPC HOWN
      go_upto_region 18 with (fail)
      rw [← hwa]
      try rw [hgp]
      clear hwa hba hsa hlq hgp z0 z1 z2 z3 z4
      refine Reg.region_inv (by kernel_rfl) (fun i => ([some (u3), some (.pointer (some ⟨gp, 0, none⟩)), some (.agg #[.int .i64 p.tid.node, .int .i64 p.tid.epoch, .int .i64 p.tid.seq]), some (.pointer (some ⟨gp, 3, none⟩)), some (.slice la.A p.items.length la.c), none, some (.pointer (some ⟨gp, 4, none⟩)), some (.slice la.B p.nodes.length la.d), none, none, none, none, none] : List (Option Value)).getD i none) (fun D V W => (cpR 51 w1.heap.size lq (rcR p) wa u3 (D 5) (D 8) (D 9) (D 10) (D 11) (V 5) (V 8) (V 9) (V 10) (V 11) W) ∧ ((D 12) = true → V 12 = V 11)) (fun V => [(some 79, V 0), (some 80, V 1), (some 81, V 2), (some 82, V 3), (some 83, V 4), (some 84, V 5), (some 85, V 6), (some 86, V 7), (some 87, V 8), (some 88, V 9), (some 89, V 10), (some 90, V 11), (some 3, V 12)]) (by kernel_rfl) (by kernel_rfl) (fun V => rfl) ?_ ?_ ?_
      · intro V
        exact ⟨⟨fun _ => (Below.refl _ _).drew, fun e => (by cases e), fun e => (by cases e), fun e => (by cases e), fun e => (by cases e), fun e => (by cases e)⟩, fun e => (by cases e)⟩
      · intro i o ho
        have hi : i < 13 := (Array.getElem?_eq_some_iff.1 ho).1
        rcases i with _ | _ | _ | _ | _ | _ | _ | _ | _ | _ | _ | _ | _ | i
        rotate_right
        · omega
        all_goals obtain rfl := Option.some.inj ho
        all_goals intro D V ρ wi hE hI hDi hT hF hs hd hk
        · have e3 : ρ (.tmp 3) = u3 := hs 3; clear hT hF hk
          exact Reg.Gives.value (v := u3) (w' := wi) (by go_simp) ⟨fun x h => Option.some.inj h, hI⟩
        · have e9 : ρ (.tmp 9) = .pointer (some ⟨gp, 0, none⟩) := hs 9; clear hT hF hk
          exact Reg.Gives.value (v := .pointer (some ⟨gp, 0, none⟩)) (w' := wi) (by go_simp) ⟨fun x h => Option.some.inj h, hI⟩
        · have e80 : ρ (.tmp 80) = .pointer (some ⟨gp, 0, none⟩) := (hd 1 80).trans (hk 1 _ rfl); have hD11 : D 11 = false := hF 3 11; clear hT hF; have hq := HPC.out wi (hI.1.low hD11); have q0 := hq.cell (j := 0) rfl; have q1 := hq.cell (j := 1) rfl; have q2 := hq.cell (j := 2) rfl
          exact Reg.Gives.value (v := .agg #[.int .i64 p.tid.node, .int .i64 p.tid.epoch, .int .i64 p.tid.seq]) (w' := wi) (by go_simp) ⟨fun x h => Option.some.inj h, hI⟩
        · have e9 : ρ (.tmp 9) = .pointer (some ⟨gp, 0, none⟩) := hs 9; clear hT hF hk
          exact Reg.Gives.value (v := .pointer (some ⟨gp, 3, none⟩)) (w' := wi) (by go_simp) ⟨fun x h => Option.some.inj h, hI⟩
        · have e82 : ρ (.tmp 82) = .pointer (some ⟨gp, 3, none⟩) := (hd 3 82).trans (hk 3 _ rfl); have hD11 : D 11 = false := hF 3 11; clear hT hF; have hq := HPC.out wi (hI.1.low hD11); have q3 := hq.cell (j := 3) rfl
          exact Reg.Gives.value (v := .slice la.A p.items.length la.c) (w' := wi) (by go_simp) ⟨fun x h => Option.some.inj h, hI⟩
        · have e83 : ρ (.tmp 83) = .slice la.A p.items.length la.c := (hd 4 83).trans (hk 4 _ rfl); have hf := hE.func; have hD5 : D 5 = false := hDi; have hD9 : D 9 = false := hF 1 9; have hD10 : D 10 = false := hF 2 10; have hD11 : D 11 = false := hF 2 11; clear hT hF
          rw [hD5, hD9, hD10, hD11] at hI
          refine Reg.Gives.call (f := 53) (args := #[.slice la.A p.items.length la.c]) (w' := wi) (by go_simp) ?_
          refine (HCL.out.1 wi (hI.1.low rfl)).mono ?_
          rintro e w'' ⟨⟨v', rfl, hrow⟩, hbb⟩
          refine ⟨_, rfl, fun x h => (by cases h), ?_⟩
          show (cpR 51 w1.heap.size lq (rcR p) wa u3 true (D 8) (D 9) (D 10) (D 11) v' (V 8) (V 9) (V 10) (V 11) w'') ∧ ((D 12) = true → V 12 = V 11)
          rw [hD9, hD10, hD11]
          exact ⟨hI.1.call5 hrow hbb, hI.2⟩
        · have e9 : ρ (.tmp 9) = .pointer (some ⟨gp, 0, none⟩) := hs 9; clear hT hF hk
          exact Reg.Gives.value (v := .pointer (some ⟨gp, 4, none⟩)) (w' := wi) (by go_simp) ⟨fun x h => Option.some.inj h, hI⟩
        · have e85 : ρ (.tmp 85) = .pointer (some ⟨gp, 4, none⟩) := (hd 6 85).trans (hk 6 _ rfl); have hD11 : D 11 = false := hF 2 11; clear hT hF; have hq := HPC.out wi (hI.1.low hD11); have q4 := hq.cell (j := 4) rfl
          exact Reg.Gives.value (v := .slice la.B p.nodes.length la.d) (w' := wi) (by go_simp) ⟨fun x h => Option.some.inj h, hI⟩
        · have e86 : ρ (.tmp 86) = .slice la.B p.nodes.length la.d := (hd 7 86).trans (hk 7 _ rfl); have hf := hE.func; have hD8 : D 8 = false := hDi; have hD9 : D 9 = false := hF 1 9; have hD10 : D 10 = false := hF 2 10; have hD11 : D 11 = false := hF 1 11; clear hT hF
          rw [hD8, hD9, hD10, hD11] at hI
          refine Reg.Gives.call (f := 54) (args := #[.slice la.B p.nodes.length la.d]) (w' := wi) (by go_simp) ?_
          refine (HCL.out.2 wi (hI.1.low rfl)).mono ?_
          rintro e w'' ⟨⟨v', rfl, hrow⟩, hbb⟩
          refine ⟨_, rfl, fun x h => (by cases h), ?_⟩
          show (cpR 51 w1.heap.size lq (rcR p) wa u3 (D 5) true (D 9) (D 10) (D 11) (V 5) v' (V 9) (V 10) (V 11) w'') ∧ ((D 12) = true → V 12 = V 11)
          rw [hD9, hD10, hD11]
          exact ⟨hI.1.call8 hrow hbb, hI.2⟩
        · have e81 : ρ (.tmp 81) = .agg #[.int .i64 p.tid.node, .int .i64 p.tid.epoch, .int .i64 p.tid.seq] := (hd 2 81).trans (hk 2 _ rfl); have e84 : ρ (.tmp 84) = V 5 := hd 5 84; have e87 : ρ (.tmp 87) = V 8 := hd 8 87; have hc := hE.const; have hD5 : D 5 = true := hT 1 5; have hD8 : D 8 = true := hT 1 8; have hD9 : D 9 = false := hDi; have hD10 : D 10 = false := hF 1 10
          have hD11 : D 11 = false := hF 2 11; clear hT hF
          rw [hD5, hD8, hD9, hD10, hD11] at hI
          obtain ⟨yy, h5, h8, hn⟩ : ∃ yy : Lay, V 5 = .slice yy.A p.items.length yy.c ∧ V 8 = .slice yy.B p.nodes.length yy.d ∧ cpR 51 w1.heap.size lq (rcR p) wa u3 true true true false false (V 5) (V 8) (.agg #[.int .i64 4, .int .i64 p.tid.node, .int .i64 p.tid.epoch, .int .i64 p.tid.seq, .slice yy.A p.items.length yy.c, .slice yy.B p.nodes.length yy.d, .int .i64 0, .int .i64 0, .int .i64 0, .int .i64 0, .int .i64 0, .int .i64 0, .int .i64 0, .int .i64 0, .bool false]) (V 10) (V 11) wi := hI.1.build
          rw [h5] at e84
          rw [h8] at e87
          exact Reg.Gives.value (v := .agg #[.int .i64 4, .int .i64 p.tid.node, .int .i64 p.tid.epoch, .int .i64 p.tid.seq, .slice yy.A p.items.length yy.c, .slice yy.B p.nodes.length yy.d, .int .i64 0, .int .i64 0, .int .i64 0, .int .i64 0, .int .i64 0, .int .i64 0, .int .i64 0, .int .i64 0, .bool false]) (w' := wi) (by go_simp) ⟨fun x h => (by cases h), by show (cpR 51 w1.heap.size lq (rcR p) wa u3 (D 5) (D 8) true (D 10) (D 11) (V 5) (V 8) (.agg #[.int .i64 4, .int .i64 p.tid.node, .int .i64 p.tid.epoch, .int .i64 p.tid.seq, .slice yy.A p.items.length yy.c, .slice yy.B p.nodes.length yy.d, .int .i64 0, .int .i64 0, .int .i64 0, .int .i64 0, .int .i64 0, .int .i64 0, .int .i64 0, .int .i64 0, .bool false]) (V 10) (V 11) _) ∧ ((D 12) = true → V 12 = V 11); rw [hD5, hD8, hD10, hD11]; exact ⟨hn, hI.2⟩⟩
        · have e88 : ρ (.tmp 88) = V 9 := hd 9 88; have hD5 : D 5 = true := hT 2 5; have hD8 : D 8 = true := hT 2 8; have hD9 : D 9 = true := hT 1 9; have hD10 : D 10 = false := hDi; have hD11 : D 11 = false := hF 1 11; clear hT hF
          rw [hD5, hD8, hD9, hD10, hD11] at hI
          obtain ⟨yy, h9, hn⟩ : ∃ yy : Lay, V 9 = .agg #[.int .i64 4, .int .i64 p.tid.node, .int .i64 p.tid.epoch, .int .i64 p.tid.seq, .slice yy.A p.items.length yy.c, .slice yy.B p.nodes.length yy.d, .int .i64 0, .int .i64 0, .int .i64 0, .int .i64 0, .int .i64 0, .int .i64 0, .int .i64 0, .int .i64 0, .bool false] ∧ cpR 51 w1.heap.size lq (rcR p) wa u3 true true true true false (V 5) (V 8) (V 9) (.slice (some ⟨wi.heap.size, 0, none⟩) 1 1) (V 11) (wi.alloc (.cells #[.int .i64 4, .int .i64 p.tid.node, .int .i64 p.tid.epoch, .int .i64 p.tid.seq, .slice yy.A p.items.length yy.c, .slice yy.B p.nodes.length yy.d, .int .i64 0, .int .i64 0, .int .i64 0, .int .i64 0, .int .i64 0, .int .i64 0, .int .i64 0, .int .i64 0, .bool false] 51)) := hI.1.make
          rw [h9] at e88
          exact Reg.Gives.value (v := .slice (some ⟨wi.heap.size, 0, none⟩) 1 1) (w' := wi.alloc (.cells #[.int .i64 4, .int .i64 p.tid.node, .int .i64 p.tid.epoch, .int .i64 p.tid.seq, .slice yy.A p.items.length yy.c, .slice yy.B p.nodes.length yy.d, .int .i64 0, .int .i64 0, .int .i64 0, .int .i64 0, .int .i64 0, .int .i64 0, .int .i64 0, .int .i64 0, .bool false] 51)) (by go_simp) ⟨fun x h => (by cases h), by show (cpR 51 w1.heap.size lq (rcR p) wa u3 (D 5) (D 8) (D 9) true (D 11) (V 5) (V 8) (V 9) (.slice (some ⟨wi.heap.size, 0, none⟩) 1 1) (V 11) _) ∧ ((D 12) = true → V 12 = V 11); rw [hD5, hD8, hD9, hD11]; exact ⟨hn, hI.2⟩⟩
        · have e79 : ρ (.tmp 79) = u3 := (hd 0 79).trans (hk 0 _ rfl); have e89 : ρ (.tmp 89) = V 10 := hd 10 89; have hD5 : D 5 = true := hT 2 5; have hD8 : D 8 = true := hT 1 8; have hD9 : D 9 = true := hT 2 9; have hD10 : D 10 = true := hT 1 10; have hD11 : D 11 = false := hDi; have hD12 : D 12 = false := hF 1 12; clear hT hF
          rw [hD5, hD8, hD9, hD10, hD11] at hI
          obtain ⟨g, A, n, m, w'', h10, hrun, hn⟩ := hI.1.put rt_code HRA.out HBA.out.size (Nat.le_trans HPL.out (by decide))
          rw [h10] at e89
          exact Reg.Gives.value (v := .slice A n m) (w' := w'') (Reg.exec_append rfl e79 e89 hrun) ⟨fun x h => (by cases h), by show (cpR 51 w1.heap.size lq (rcR p) wa u3 (D 5) (D 8) (D 9) (D 10) true (V 5) (V 8) (V 9) (V 10) (.slice A n m) _) ∧ ((D 12) = true → V 12 = .slice A n m); rw [hD5, hD8, hD9, hD10]; exact ⟨hn, fun e => absurd (hD12.symm.trans e) (by decide)⟩⟩
        · have e90 : ρ (.tmp 90) = V 11 := hd 11 90; clear hT hF
          exact Reg.Gives.value (v := V 11) (w' := wi) (by go_simp) ⟨fun x h => (by cases h), ⟨hI.1, fun _ => rfl⟩⟩
      · intro V wx hk hI
        simp only [Reg.putsO, List.foldl_cons, List.foldl_nil, Act.put, List.setIfInBounds_toArray, List.set_cons_succ, List.set_cons_zero]
        replace hI : (cpR 51 w1.heap.size lq (rcR p) wa u3 true true true true true (V 5) (V 8) (V 9) (V 10) (V 11) wx) ∧ (true = true → V 12 = V 11) := hI
        clear hk
        have h11 := hI.2 rfl
        obtain ⟨hrw, hbw⟩ := hI.1.fin rfl
        rw [h11]
        have QR := Lib.hid hrw
        have QO := Lib.hid hbw
        have QB := Lib.hid (HBA.out.trans (HRA.out.bel (Below.refl _ _) HBA.out.size hbw))
        clear hI hrw hbw h11
        obtain ⟨vq, hvq⟩ : ∃ q, V 11 = q := ⟨_, rfl⟩
        rw [hvq] at QR ⊢
        obtain ⟨wq, hwq⟩ : ∃ q, q = wx := ⟨_, rfl⟩
        rw [← hwq] at QR QB QO ⊢
        clear hvq hwq
        have HRN : Hid (RwR 51 w1.heap.size (ls ++ (s.prep.take (j + 1)).map rcR) vq wq) := Lib.hid (by
          have h := QR.out
          rw [← HLQ.out] at h
          rw [HTK.out, List.map_append, ← List.append_assoc]
          exact h)
        go_wp2_with fail
        go_roundw
        case rel => exact ⟨j + 1, by omega, by go_num, HRN, QB⟩
        case measure => simp [intOf]; omega
    · have hjn : j = n := by omega
      have HR2 : Hid (RwR 51 w1.heap.size (ls ++ s.prep.map rcR) u3 wr) := Lib.hid (by
        have h := HR.out
        rw [List.take_of_length_le (by have := HN.out; omega)] at h
        exact h)
      clear hjn
      go_wp2_with fail
      exact HKT.out _ _ (rtk3 HX.out HB.out HR2.out (by rw [HLS.out]; simp [List.append_assoc]) (by kernel_rfl))
set_option maxHeartbeats 4000000 in
theorem rtk1 {w0 w1 wr : World} {g1 : Nat} {s : St} {y : Sy} (h : Rx 32 w0 w1 g1 s y) (hb : Below w1.heap.size w1 wr) {ls : List Rc} {v : Value} (hr : RwR 51 w1.heap.size ls v wr) (hls : recordsL s = ls ++ (s.dec.map rcP ++ (s.prep.map rcR ++ s.com.flatMap rcK)))
    {cc : Code} (hc : cc = sub [1, 1, 1, 1] ((Tryz.f28.body).getD .skip)) {s0 s2 s4 s5 s6 s7 s8 s9 s10 s11 s12 s13 s14 s15 s16 s17 s18 s19 s20 s21 s22 s23 s24 s25 s26 s27 s28 s29 s30 s31 s32 s33 s34 s35 s36 s37 s38 s39 s40 s41 s42 s43 s44 s45 s46 s47 s48 s49 s50 s51 s52 s53 s54 s55 s56 s57 s58 s59 s60 s61 s62 s63 s64 s65 s66 s67 s68 s69 s70 s71 s72 s73 s74 s75 s76 s77 s78 s79 s80 s81 s82 s83 s84 s85 s86 s87 s88 s89 s90 s91 s92 s93 s94 s95 s96 s97 s98 s99 s100 s101 s102 s103 s104 s105 s106 s107 s108 s109 s110 s111 s112 s113 s114 s115 s116 s117 s118 s119 s120 : Value} :
    cc.wp Tryz.prog (bodyPost Tryz.prog Tryz.f28 (fun e w' => (∃ A c zs, e = .returned (.slice A (recordsL s).length c) ∧ Recs w' A (recordsL s) zs ∧ (A = none → c = 0)) ∧ Below w0.heap.size w0 w')) { tmps := List.toArray (s0::.pointer (some ⟨g1, 0, none⟩)::s2::v::s4::s5::s6::s7::s8::s9::s10::s11::s12::s13::s14::s15::s16::s17::s18::s19::s20::s21::s22::s23::s24::s25::s26::s27::s28::s29::s30::s31::s32::s33::s34::s35::s36::s37::s38::s39::s40::s41::s42::s43::s44::s45::s46::s47::s48::s49::s50::s51::s52::s53::s54::s55::s56::s57::s58::s59::s60::s61::s62::s63::s64::s65::s66::s67::s68::s69::s70::s71::s72::s73::s74::s75::s76::s77::s78::s79::s80::s81::s82::s83::s84::s85::s86::s87::s88::s89::s90::s91::s92::s93::s94::s95::s96::s97::s98::s99::s100::s101::s102::s103::s104::s105::s106::s107::s108::s109::s110::s111::s112::s113::s114::s115::s116::s117::s118::s119::s120::[]), defers := [] } wr := by
  conv at hc => rhs; whnf
  subst hc
  apply wp_seq_k
  intro K hK
  have HKT := Lib.hid hK
  clear hK
  obtain ⟨yP, yp, yQ, yq, yD, yd, yC, yc, yps, ycs⟩ := y
  have HX := Lib.hid h
  have HB0 := Lib.hid hb
  have HR0 := Lib.hid hr
  have HLS := Lib.hid hls
  obtain ⟨n, hn⟩ : ∃ n, s.dec.length = n := ⟨_, rfl⟩
  have HN := Lib.hid hn
  have hnb : n ≤ 100000 := by rw [← hn]; exact h.sm.dec
  have HLL : Hid (ls.length ≤ 1000000) := Lib.hid (by
    have h1 := congrArg List.length hls
    rw [List.length_append] at h1
    have h2 := recs_len h.sm
    omega)
  have hcx : wr.cell? ⟨g1, 6, none⟩ = some (.slice yD n yd) := by rw [← hn]; exact (h.box.later hb).cell (j := 6) rfl
  clear h hb hr hls hn
  go_wp2_with fail
  go_loopw [3, 7, 59] (fun v _ i wr => ∃ (j : Nat), j ≤ n ∧ i = .int .i64 (j : Int) ∧ Hid (RwR 51 w1.heap.size (ls ++ (s.dec.take j).map rcP) v wr) ∧ Hid (Below w1.heap.size w1 wr)) (fun _ _ i _ => n - (intOf i).toNat)
  case atStart => exact ⟨0, Nat.zero_le _, rfl, Lib.hid (by simpa [cellsFrom] using HR0.out), HB0⟩
  case round =>
    clear hcx
    obtain ⟨j, hj, rfl, HR, HB⟩ := hrel
    have hcx : wr.cell? ⟨g1, 6, none⟩ = some (.slice yD n yd) := by rw [← HN.out]; exact (HX.out.box.later HB.out).cell (j := 6) rfl
    by_cases hlt : j < n
    · have hl0 : j < s.dec.length := by rw [HN.out]; exact hlt
      have hse := HX.out.see.later HB.out
      have HPL : Hid ((ls ++ (s.dec.take j).map rcP).length ≤ 900000000) := Lib.hid (by
        have h1 := HLL.out
        have h2 : ((s.dec.take j).map rcP).length ≤ 1000000 := (by rw [List.length_map, List.length_take]; omega)
        rw [List.length_append]
        omega)
      obtain ⟨bb, off, hA, hr0⟩ := hse.dec j (by rw [List.length_map]; exact hl0)
      simp only at hA
      subst hA
      rw [List.getElem_map] at hr0
      obtain ⟨p, hp⟩ : ∃ p, s.dec[j] = p := ⟨_, rfl⟩
      have HTK : Hid (s.dec.take (j + 1) = s.dec.take j ++ [p]) := Lib.hid (by rw [List.take_succ_eq_append_getElem hl0, hp])
      rw [hp] at hr0
      clear hp hl0 hse
      have z0 : wr.cell? ⟨bb, off + j * 4, none⟩ = some (.int .i64 p.tid.node) := hr0 0 _ rfl
      have z1 : wr.cell? ⟨bb, off + j * 4 + 1, none⟩ = some (.int .i64 p.tid.epoch) := hr0 1 _ rfl
      have z2 : wr.cell? ⟨bb, off + j * 4 + 2, none⟩ = some (.int .i64 p.tid.seq) := hr0 2 _ rfl
      have z3 : wr.cell? ⟨bb, off + j * 4 + 3, none⟩ = some (.bool p.yes) := hr0 3 _ rfl
      obtain ⟨wa, hwa⟩ : ∃ v, v = wr.alloc (.cells #[.int .i64 p.tid.node, .int .i64 p.tid.epoch, .int .i64 p.tid.seq, .bool p.yes] 87) := ⟨_, rfl⟩
      have hba : Below wr.heap.size wr wa := by rw [hwa]; exact below_alloc _ _
      have hsa : wa.heap.size = wr.heap.size + 1 := by rw [hwa, World.size_alloc]
      have HRA := Lib.hid (HR.out.later hba)
      have HBA := Lib.hid (HB.out.trans (hba.mono HB.out.size))
      obtain ⟨wb, hwb⟩ : ∃ v, v = wa.alloc (.cells #[.int .i64 11, .int .i64 p.tid.node, .int .i64 p.tid.epoch, .int .i64 p.tid.seq, .slice none 0 0, .slice none 0 0, .int .i64 0, .int .i64 0, .int .i64 0, .int .i64 0, .int .i64 0, .int .i64 0, .int .i64 0, .int .i64 0, .bool p.yes] 51) := ⟨_, rfl⟩
      have hbb : Below wa.heap.size wa wb := by rw [hwb]; exact below_alloc _ _
      have hcb : Cells wb wa.heap.size 51 (Rc.vals (rcP p) ⟨none, 0, none, 0⟩) := by rw [hwb]; exact cells_new _ _ _ _ rfl
      rw [hsa] at hcb
      obtain ⟨A, m, c, w', hrun, hrw, hbw⟩ := HRA.out.more rt_code HBA.out.size (rcP p) ⟨none, 0, none, 0⟩ wb hbb (fr_nil _ _ rfl rfl) (by have := HPL.out; first | omega | (simp only [List.length_append, List.length_singleton] at this ⊢; omega)) (wr.heap.size + 1) hcb
      have HRUN := Lib.hid hrun
      have QR : Hid (RwR 51 w1.heap.size ((ls ++ (s.dec.take j).map rcP) ++ [(rcP p)]) (.slice A m c) w') := Lib.hid hrw
      have QB : Hid (Below w1.heap.size w1 w') := Lib.hid (HBA.out.trans (HRA.out.bel hbb HBA.out.size hbw))
      clear hrun hrw hbw hcb hbb
      have HRN : Hid (RwR 51 w1.heap.size (ls ++ (s.dec.take (j + 1)).map rcP) (.slice A m c) w') := Lib.hid (by
        have h := QR.out
        rw [HTK.out, List.map_append, ← List.append_assoc]
        exact h)
      clear hba hsa
      go_wp2_with (at_builtin
                   rw [← hwa]
                   rw [← hwb]
                   refine Lib.wpList_append_run _ rfl _ _ 24 24 rfl _ _ rfl rfl _ _ HRUN.out ?_)
      go_roundw
      case rel => exact ⟨j + 1, by omega, by go_num, HRN, QB⟩
      case measure => simp [intOf]; omega
    · have hjn : j = n := by omega
      have HR2 : Hid (RwR 51 w1.heap.size (ls ++ s.dec.map rcP) u3 wr) := Lib.hid (by
        have h := HR.out
        rw [List.take_of_length_le (by have := HN.out; omega)] at h
        exact h)
      clear hjn
      go_wp2_with fail
      exact HKT.out _ _ (rtk2 HX.out HB.out HR2.out (by rw [HLS.out]; simp [List.append_assoc]) (by kernel_rfl))
set_option maxHeartbeats 4000000 in
theorem rtk0 {w0 w1 wr : World} {g1 : Nat} {s : St} {y : Sy} (h : Rx 32 w0 w1 g1 s y) (hb : Below w1.heap.size w1 wr) {ls : List Rc} {v : Value} (hr : RwR 51 w1.heap.size ls v wr) (hls : recordsL s = ls ++ (cellsFrom 0 s.places ++ (s.dec.map rcP ++ (s.prep.map rcR ++ s.com.flatMap rcK))))
    {cc : Code} (hc : cc = sub [1, 1, 1] ((Tryz.f28.body).getD .skip)) {s0 s2 s4 s5 s6 s7 s8 s9 s10 s11 s12 s13 s14 s15 s16 s17 s18 s19 s20 s21 s22 s23 s24 s25 s26 s27 s28 s29 s30 s31 s32 s33 s34 s35 s36 s37 s38 s39 s40 s41 s42 s43 s44 s45 s46 s47 s48 s49 s50 s51 s52 s53 s54 s55 s56 s57 s58 s59 s60 s61 s62 s63 s64 s65 s66 s67 s68 s69 s70 s71 s72 s73 s74 s75 s76 s77 s78 s79 s80 s81 s82 s83 s84 s85 s86 s87 s88 s89 s90 s91 s92 s93 s94 s95 s96 s97 s98 s99 s100 s101 s102 s103 s104 s105 s106 s107 s108 s109 s110 s111 s112 s113 s114 s115 s116 s117 s118 s119 s120 : Value} :
    cc.wp Tryz.prog (bodyPost Tryz.prog Tryz.f28 (fun e w' => (∃ A c zs, e = .returned (.slice A (recordsL s).length c) ∧ Recs w' A (recordsL s) zs ∧ (A = none → c = 0)) ∧ Below w0.heap.size w0 w')) { tmps := List.toArray (s0::.pointer (some ⟨g1, 0, none⟩)::s2::v::s4::s5::s6::s7::s8::s9::s10::s11::s12::s13::s14::s15::s16::s17::s18::s19::s20::s21::s22::s23::s24::s25::s26::s27::s28::s29::s30::s31::s32::s33::s34::s35::s36::s37::s38::s39::s40::s41::s42::s43::s44::s45::s46::s47::s48::s49::s50::s51::s52::s53::s54::s55::s56::s57::s58::s59::s60::s61::s62::s63::s64::s65::s66::s67::s68::s69::s70::s71::s72::s73::s74::s75::s76::s77::s78::s79::s80::s81::s82::s83::s84::s85::s86::s87::s88::s89::s90::s91::s92::s93::s94::s95::s96::s97::s98::s99::s100::s101::s102::s103::s104::s105::s106::s107::s108::s109::s110::s111::s112::s113::s114::s115::s116::s117::s118::s119::s120::[]), defers := [] } wr := by
  conv at hc => rhs; whnf
  subst hc
  apply wp_seq_k
  intro K hK
  have HKT := Lib.hid hK
  clear hK
  obtain ⟨yP, yp, yQ, yq, yD, yd, yC, yc, yps, ycs⟩ := y
  have HX := Lib.hid h
  have HB0 := Lib.hid hb
  have HR0 := Lib.hid hr
  have HLS := Lib.hid hls
  obtain ⟨n, hn⟩ : ∃ n, s.places.length = n := ⟨_, rfl⟩
  have HN := Lib.hid hn
  have hnb : n ≤ 100000 := by rw [← hn]; exact h.sm.places
  have HLL : Hid (ls.length ≤ 1000000) := Lib.hid (by
    have h1 := congrArg List.length hls
    rw [List.length_append] at h1
    have h2 := recs_len h.sm
    omega)
  have hcx : wr.cell? ⟨g1, 4, none⟩ = some (.slice yP n yp) := by rw [← hn]; exact (h.box.later hb).cell (j := 4) rfl
  clear h hb hr hls hn
  go_wp2_with fail
  go_loopw [3, 4, 5, 32] (fun v _ _ i wr => ∃ (j : Nat), j ≤ n ∧ i = .int .i64 (j : Int) ∧ Hid (RwR 51 w1.heap.size (ls ++ cellsFrom 0 (s.places.take j)) v wr) ∧ Hid (Below w1.heap.size w1 wr)) (fun _ _ _ i _ => n - (intOf i).toNat)
  case atStart => exact ⟨0, Nat.zero_le _, rfl, Lib.hid (by simpa [cellsFrom] using HR0.out), HB0⟩
  case round =>
    clear hcx
    obtain ⟨j, hj, rfl, HR, HB⟩ := hrel
    have hcx : wr.cell? ⟨g1, 4, none⟩ = some (.slice yP n yp) := by rw [← HN.out]; exact (HX.out.box.later HB.out).cell (j := 4) rfl
    by_cases hlt : j < n
    · have hl0 : j < s.places.length := by rw [HN.out]; exact hlt
      have hse := HX.out.see.later HB.out
      have HPL : Hid ((ls ++ cellsFrom 0 (s.places.take j)).length ≤ 900000000) := Lib.hid (by
        have h1 := HLL.out
        have h2 : (cellsFrom 0 (s.places.take j)).length ≤ 1000000 := (Nat.le_trans (cellsFrom_len _ _) (by rw [List.length_take]; omega))
        rw [List.length_append]
        omega)
      obtain ⟨bb, off, hA, hr0⟩ := hse.places j (by rw [List.length_map]; exact hl0)
      simp only at hA
      subst hA
      rw [List.getElem_map] at hr0
      obtain ⟨p, hp⟩ : ∃ p, s.places[j] = p := ⟨_, rfl⟩
      have HTK : Hid (s.places.take (j + 1) = s.places.take j ++ [p]) := Lib.hid (by rw [List.take_succ_eq_append_getElem hl0, hp])
      rw [hp] at hr0
      clear hp hl0 hse
      have z0 : wr.cell? ⟨bb, off + j * 5, none⟩ = some (.int .i64 p.status) := hr0 0 _ rfl
      have z1 : wr.cell? ⟨bb, off + j * 5 + 1, none⟩ = some (.int .i64 p.hop) := hr0 1 _ rfl
      have z2 : wr.cell? ⟨bb, off + j * 5 + 2, none⟩ = some (.int .i64 p.to) := hr0 2 _ rfl
      have z3 : wr.cell? ⟨bb, off + j * 5 + 3, none⟩ = some (.int .i64 p.version) := hr0 3 _ rfl
      have z4 : wr.cell? ⟨bb, off + j * 5 + 4, none⟩ = some (.int .i64 p.value) := hr0 4 _ rfl
      obtain ⟨wa, hwa⟩ : ∃ v, v = wr.alloc (.cells #[.int .i64 p.status, .int .i64 p.hop, .int .i64 p.to, .int .i64 p.version, .int .i64 p.value] 74) := ⟨_, rfl⟩
      have hba : Below wr.heap.size wr wa := by rw [hwa]; exact below_alloc _ _
      have hsa : wa.heap.size = wr.heap.size + 1 := by rw [hwa, World.size_alloc]
      have HRA := Lib.hid (HR.out.later hba)
      have HBA := Lib.hid (HB.out.trans (hba.mono HB.out.size))
      obtain ⟨dif, hdif⟩ : ∃ v, (!(decide (p.status = 0) && decide (p.hop = 0) && decide (p.to = 0) && decide (p.version = 0) && decide (p.value = 0))) = v := ⟨_, rfl⟩
      have hne : ∀ w, (binOp .neq 74 (.agg #[.int .i64 p.status, .int .i64 p.hop, .int .i64 p.to, .int .i64 p.version, .int .i64 p.value]) (.agg #[.int .i64 0, .int .i64 0, .int .i64 0, .int .i64 0, .int .i64 0])).run Tryz.prog w = .ok (.bool dif) w := fun w => by rw [lplace_neq, hdif]
      have HDF : Hid (dif = false ↔ p = pl0) := Lib.hid (by
        rw [← hdif]
        obtain ⟨p1, p2, p3, p4, p5⟩ := p
        simp [pl0, and_assoc])
      clear hdif
      cases dif with
      | false =>
        have HRN : Hid (RwR 51 w1.heap.size (ls ++ cellsFrom 0 (s.places.take (j + 1))) u3 wa) := Lib.hid (by
          have h := HRA.out
          rw [HTK.out, cellsFrom_app, if_pos (HDF.out.1 rfl), List.append_nil]
          exact h)
        clear hba hsa
        go_wp2_with fail
        rw [← hwa]
        clear hwa
        go_roundw
        case rel => exact ⟨j + 1, by omega, by go_num, HRN, HBA⟩
        case measure => simp [intOf]; omega
      | true =>
        have HPN : Hid (p ≠ pl0) := Lib.hid (fun e => by have := HDF.out.2 e; cases this)
        obtain ⟨wb, hwb⟩ : ∃ v, v = wa.alloc (.cells #[.int .i64 3, .int .i64 0, .int .i64 0, .int .i64 0, .slice none 0 0, .slice none 0 0, .int .i64 p.to, .int .i64 0, .int .i64 0, .int .i64 (j : Int), .int .i64 p.status, .int .i64 p.hop, .int .i64 p.version, .int .i64 p.value, .bool false] 51) := ⟨_, rfl⟩
        have hbb : Below wa.heap.size wa wb := by rw [hwb]; exact below_alloc _ _
        have hcb : Cells wb wa.heap.size 51 (Rc.vals (rcC (j : Int) p) ⟨none, 0, none, 0⟩) := by rw [hwb]; exact cells_new _ _ _ _ rfl
        rw [hsa] at hcb
        obtain ⟨A, m, c, w', hrun, hrw, hbw⟩ := HRA.out.more rt_code HBA.out.size (rcC (j : Int) p) ⟨none, 0, none, 0⟩ wb hbb (fr_nil _ _ rfl rfl) (by have := HPL.out; first | omega | (simp only [List.length_append, List.length_singleton] at this ⊢; omega)) (wr.heap.size + 1) hcb
        have HRUN := Lib.hid hrun
        have QR : Hid (RwR 51 w1.heap.size ((ls ++ cellsFrom 0 (s.places.take j)) ++ [(rcC (j : Int) p)]) (.slice A m c) w') := Lib.hid hrw
        have QB : Hid (Below w1.heap.size w1 w') := Lib.hid (HBA.out.trans (HRA.out.bel hbb HBA.out.size hbw))
        clear hrun hrw hbw hcb hbb
        have HRN : Hid (RwR 51 w1.heap.size (ls ++ cellsFrom 0 (s.places.take (j + 1))) (.slice A m c) w') := Lib.hid (by
          have h := QR.out
          rw [HTK.out, cellsFrom_app, if_neg HPN.out, ← List.append_assoc, List.length_take, show min j s.places.length = j by have := HN.out; omega, Nat.zero_add]
          exact h)
        clear hba hsa
        go_wp2_with (at_builtin
                     rw [← hwa]
                     rw [← hwb]
                     refine Lib.wpList_append_run _ rfl _ _ 24 24 rfl _ _ rfl rfl _ _ HRUN.out ?_)
        go_roundw
        case rel => exact ⟨j + 1, by omega, by go_num, HRN, QB⟩
        case measure => simp [intOf]; omega
    · have hjn : j = n := by omega
      have HR2 : Hid (RwR 51 w1.heap.size (ls ++ cellsFrom 0 s.places) u3 wr) := Lib.hid (by
        have h := HR.out
        rw [List.take_of_length_le (by have := HN.out; omega)] at h
        exact h)
      clear hjn
      go_wp2_with fail
      exact HKT.out _ _ (rtk1 HX.out HB.out HR2.out (by rw [HLS.out]; simp [List.append_assoc]) (by kernel_rfl))
set_option maxHeartbeats 4000000 in
theorem rtkA {w0 w1 wr : World} {g1 : Nat} {s : St} {y : Sy} (h : Rx 32 w0 w1 g1 s y) (hb : Below w1.heap.size w1 wr) {v : Value} (hr : RwR 51 w1.heap.size [rcB s.node s.nodes s.cells] v wr)
    {cc : Code} (hc : cc = sub [1, 1] ((Tryz.f28.body).getD .skip)) {s0 s2 s4 s5 s6 s7 s8 s9 s10 s11 s12 s13 s14 s15 s16 s17 s18 s19 s20 s21 s22 s23 s24 s25 s26 s27 s28 s29 s30 s31 s32 s33 s34 s35 s36 s37 s38 s39 s40 s41 s42 s43 s44 s45 s46 s47 s48 s49 s50 s51 s52 s53 s54 s55 s56 s57 s58 s59 s60 s61 s62 s63 s64 s65 s66 s67 s68 s69 s70 s71 s72 s73 s74 s75 s76 s77 s78 s79 s80 s81 s82 s83 s84 s85 s86 s87 s88 s89 s90 s91 s92 s93 s94 s95 s96 s97 s98 s99 s100 s101 s102 s103 s104 s105 s106 s107 s108 s109 s110 s111 s112 s113 s114 s115 s116 s117 s118 s119 s120 : Value} :
    cc.wp Tryz.prog (bodyPost Tryz.prog Tryz.f28 (fun e w' => (∃ A c zs, e = .returned (.slice A (recordsL s).length c) ∧ Recs w' A (recordsL s) zs ∧ (A = none → c = 0)) ∧ Below w0.heap.size w0 w')) { tmps := List.toArray (s0::.pointer (some ⟨g1, 0, none⟩)::s2::v::s4::s5::s6::s7::s8::s9::s10::s11::s12::s13::s14::s15::s16::s17::s18::s19::s20::s21::s22::s23::s24::s25::s26::s27::s28::s29::s30::s31::s32::s33::s34::s35::s36::s37::s38::s39::s40::s41::s42::s43::s44::s45::s46::s47::s48::s49::s50::s51::s52::s53::s54::s55::s56::s57::s58::s59::s60::s61::s62::s63::s64::s65::s66::s67::s68::s69::s70::s71::s72::s73::s74::s75::s76::s77::s78::s79::s80::s81::s82::s83::s84::s85::s86::s87::s88::s89::s90::s91::s92::s93::s94::s95::s96::s97::s98::s99::s100::s101::s102::s103::s104::s105::s106::s107::s108::s109::s110::s111::s112::s113::s114::s115::s116::s117::s118::s119::s120::[]), defers := [] } wr := by
  conv at hc => rhs; whnf
  subst hc
  apply wp_seq_k
  intro K hK
  have HKT := Lib.hid hK
  clear hK
  have HX := Lib.hid h
  have HB := Lib.hid hb
  have HR := Lib.hid hr
  have hcx : wr.cell? ⟨g1, 3, none⟩ = some (.int .i64 s.epoch) := (h.box.later hb).cell (j := 3) rfl
  have HPL : Hid (([rcB s.node s.nodes s.cells] ++ ([] : List Rc)).length ≤ 900000000) := Lib.hid (by simp)
  clear h hb hr
  by_cases he : s.epoch = 0
  · have HLS : Hid (recordsL s = [rcB s.node s.nodes s.cells] ++ (cellsFrom 0 s.places ++ (s.dec.map rcP ++ (s.prep.map rcR ++ s.com.flatMap rcK)))) := Lib.hid (by unfold recordsL; rw [if_pos he]; rfl)
    have he2 : (s.epoch != 0) = false := by simpa using he
    have he3 : (s.epoch == 0) = true := by simpa using he
    clear he
    go_wp2_with fail
    exact HKT.out _ _ (rtk0 HX.out HB.out HR.out HLS.out (by kernel_rfl))
  · have HLS : Hid (recordsL s = ([rcB s.node s.nodes s.cells] ++ [rcE s.epoch]) ++ (cellsFrom 0 s.places ++ (s.dec.map rcP ++ (s.prep.map rcR ++ s.com.flatMap rcK)))) := Lib.hid (by unfold recordsL; rw [if_neg he]; rfl)
    have he2 : (s.epoch != 0) = true := by simpa using he
    have he3 : (s.epoch == 0) = false := by simpa using he
    clear he
    obtain ⟨wb, hwb⟩ : ∃ v, v = wr.alloc (.cells #[.int .i64 2, .int .i64 0, .int .i64 0, .int .i64 0, .slice none 0 0, .slice none 0 0, .int .i64 0, .int .i64 0, .int .i64 s.epoch, .int .i64 0, .int .i64 0, .int .i64 0, .int .i64 0, .int .i64 0, .bool false] 51) := ⟨_, rfl⟩
    have hbb : Below wr.heap.size wr wb := by rw [hwb]; exact below_alloc _ _
    have hcb : Cells wb wr.heap.size 51 (Rc.vals (rcE s.epoch) ⟨none, 0, none, 0⟩) := by rw [hwb]; exact cells_new _ _ _ _ rfl
    obtain ⟨A, m, c, w', hrun, hrw, hbw⟩ := HR.out.more rt_code HB.out.size (rcE s.epoch) ⟨none, 0, none, 0⟩ wb hbb (fr_nil _ _ rfl rfl) (by have := HPL.out; first | omega | (simp only [List.length_append, List.length_singleton] at this ⊢; omega)) (wr.heap.size) hcb
    have HRUN := Lib.hid hrun
    have QR : Hid (RwR 51 w1.heap.size ([rcB s.node s.nodes s.cells] ++ [(rcE s.epoch)]) (.slice A m c) w') := Lib.hid hrw
    have QB : Hid (Below w1.heap.size w1 w') := Lib.hid (HB.out.trans (HR.out.bel hbb HB.out.size hbw))
    clear hrun hrw hbw hcb hbb
    go_wp2_with (at_builtin
                 rw [← hwb]
                 refine Lib.wpList_append_run _ rfl _ _ 24 24 rfl _ _ rfl rfl _ _ HRUN.out ?_)
    exact HKT.out _ _ (rtk0 HX.out QB.out QR.out HLS.out (by kernel_rfl))
set_option maxHeartbeats 4000000 in
theorem recordsK_any (s : St) (y : Sy) (w0 : World) (h : Sees w0 s y) (hs : Small s) :
    Calls Tryz.prog 28 #[s.val y] w0 fun e w' => (∃ A c zs, e = .returned (.slice A (recordsL s).length c) ∧ Recs w' A (recordsL s) zs ∧ (A = none → c = 0)) ∧ Below w0.heap.size w0 w' := by
  obtain ⟨w1, hw1⟩ : ∃ v, v = w0.alloc (.cells #[.int .i64 s.node, .int .i64 s.nodes, .int .i64 s.cells, .int .i64 s.epoch, .slice y.P s.places.length y.p, .slice y.Q s.prep.length y.q, .slice y.D s.dec.length y.d, .slice y.C s.com.length y.c] 32) := ⟨_, rfl⟩
  obtain ⟨w2, hw2⟩ : ∃ v, v = w1.alloc (.cells #[.int .i64 1, .int .i64 0, .int .i64 0, .int .i64 0, .slice none 0 0, .slice none 0 0, .int .i64 s.node, .int .i64 s.nodes, .int .i64 s.cells, .int .i64 0, .int .i64 0, .int .i64 0, .int .i64 0, .int .i64 0, .bool false] 51) := ⟨_, rfl⟩
  have hb1 : Below w0.heap.size w0 w1 := by rw [hw1]; exact below_alloc _ _
  have HX : Hid (Rx 32 w0 w1 w0.heap.size s y) := Lib.hid ⟨hb1, by rw [hw1]; exact cells_new _ _ _ _ rfl, h.later hb1, hs⟩
  have HB : Hid (Below w1.heap.size w1 w2) := Lib.hid (by rw [hw2]; exact below_alloc _ _)
  have HR : Hid (RwR 51 w1.heap.size [rcB s.node s.nodes s.cells] (.slice (some ⟨w1.heap.size, 0, none⟩) 1 1) w2) := Lib.hid (by rw [hw2]; exact RwR.one (Nat.le_refl _) (rcB s.node s.nodes s.cells) rfl rfl)
  have hz1 : w1.heap.size = w0.heap.size + 1 := by rw [hw1, World.size_alloc]
  clear h hs hb1
  unfold St.val
  go_enter Tryz.func28, Tryz.ntmps28
  apply wp_seq_k
  intro K hK
  have HKT := Lib.hid hK
  clear hK
  go_wp2_with fail
  refine HKT.out _ _ ?_
  clear HKT
  rw [← hw1]
  clear hw1
  have c0 : w1.cell? ⟨w0.heap.size, 0, none⟩ = some (.int .i64 s.node) := HX.out.box.cell (j := 0) rfl
  have c1 : w1.cell? ⟨w0.heap.size, 1, none⟩ = some (.int .i64 s.nodes) := HX.out.box.cell (j := 1) rfl
  have c2 : w1.cell? ⟨w0.heap.size, 2, none⟩ = some (.int .i64 s.cells) := HX.out.box.cell (j := 2) rfl
  apply wp_seq_k
  intro K hK
  have HKT := Lib.hid hK
  clear hK hz1
  go_wp2_with fail
  rw [← hw2]
  exact HKT.out _ _ (rtkA HX.out HB.out HR.out (by kernel_rfl))
end Go.Proofs.YtalhbblmnahcdaaGreat.Led
