/-
  Layer 10: the document reads a message, from some place of its code on. Conditions: none.
-/
import Derived.Test.YtfnkjdkckpdfhaaMsgRd6
namespace Go.Proofs.Ytfnkjdkckpdfhaa.Msg
set_option maxRecDepth 100000
open Go.RowKit Go.Proofs.Ytfnkjdkckpdfhaa.Mem Go.Proofs.Ytfnkjdkckpdfhaa.Item Go.Proofs.Ytfnkjdkckpdfhaa.Wire

set_option maxHeartbeats 4000000 in
theorem t31 (s : ByteArray) (w : World) (hs : s.size ≤ 1000000) {m : Nat} {wr : World} {k t1 t2 t3 a0 a1 a2 a3 a4 a5 : Int} {a : Nat} {b : Bool} {Ls : List It} {A : Option Addr} {c : Nat}
    (hk : 1 ≤ k ∧ k ≤ 15) (hst : rfSt w m wr (⟨k, ⟨t1, t2, t3⟩, Ls, [], a0, a1, a2, a3, a4, a5, false⟩ : Rc) s a b (⟨A, c, none, 0⟩ : Lay)) {T : Rc × ByteArray × Bool} (hsim : Sim s (⟨k, ⟨t1, t2, t3⟩, Ls, [], a0, a1, a2, a3, a4, a5, false⟩ : Rc) a b T) (hd : dec0 s = e31 k T)
    {cc : Code} (hc : cc = sub [1, 1, 1, 1, 1, 1, 1, 1, 1, 1] ((Try.f15.body).getD .skip)) {s1 s3 s7 s8 s9 s10 s11 s12 s13 s14 s15 s16 s17 s18 s19 s20 s21 s22 s23 s24 s25 s26 s27 s28 s29 s30 s31 s32 s33 s34 s35 s36 s37 s38 s39 s40 s41 s42 s43 s44 s45 s46 s47 s48 s49 s50 s51 s52 s53 s54 s55 s56 s57 s58 s59 s60 s61 s62 s63 s64 s65 s66 s67 s68 s69 s70 s71 s72 s73 s74 s75 s76 s77 s78 s79 s80 s81 s82 s83 s84 s85 s86 s87 s88 s89 s90 s91 s92 s93 s94 s95 s96 s97 s98 s99 s100 s101 s102 s103 s104 s105 s106 s107 s108 s109 s110 s111 s112 s113 s114 s115 s116 s117 s118 s119 s120 s121 s122 s123 s124 s125 s126 s127 s128 s129 s130 s131 s132 s133 s134 s135 s136 s137 s138 s139 s140 s141 s142 s143 s144 s145 s146 s147 s148 s149 s150 s151 s152 s153 s154 s155 s156 s157 s158 s159 s160 s161 s162 s163 : Value} :
    cc.wp Try.prog (bodyPost Try.prog Try.f15 (fun e w' => (∃ y, e = .returned (.tuple #[(decR s).val y, .bool (dec s).isSome]) ∧ Has w' (decR s) y) ∧ Below w.heap.size w w')) { tmps := List.toArray (.string s::s1::.pointer (some ⟨w.heap.size, 0, none⟩)::s3::.pointer (some ⟨w.heap.size + 1, 0, none⟩)::.pointer (some ⟨m, 0, none⟩)::.int .i64 k::s7::s8::s9::s10::s11::s12::s13::s14::s15::s16::s17::s18::s19::s20::s21::s22::s23::s24::s25::s26::s27::s28::s29::s30::s31::s32::s33::s34::s35::s36::s37::s38::s39::s40::s41::s42::s43::s44::s45::s46::s47::s48::s49::s50::s51::s52::s53::s54::s55::s56::s57::s58::s59::s60::s61::s62::s63::s64::s65::s66::s67::s68::s69::s70::s71::s72::s73::s74::s75::s76::s77::s78::s79::s80::s81::s82::s83::s84::s85::s86::s87::s88::s89::s90::s91::s92::s93::s94::s95::s96::s97::s98::s99::s100::s101::s102::s103::s104::s105::s106::s107::s108::s109::s110::s111::s112::s113::s114::s115::s116::s117::s118::s119::s120::s121::s122::s123::s124::s125::s126::s127::s128::s129::s130::s131::s132::s133::s134::s135::s136::s137::s138::s139::s140::s141::s142::s143::s144::s145::s146::s147::s148::s149::s150::s151::s152::s153::s154::s155::s156::s157::s158::s159::s160::s161::s162::s163::[]), defers := [] } wr := by
  conv at hc => rhs; whnf
  subst hc
  have HSZ := Lib.hid hs
  apply wp_seq_k
  intro K hK
  have HKT := Lib.hid hK
  clear hK
  have HST := Lib.hid hst
  have HK := Lib.hid hk
  have HLE := Lib.hid hsim.pos.le
  have HSIM := Lib.hid hsim
  have HD := Lib.hid hd
  have HLL : Hid (Ls.length = Ls.length) := Lib.hid rfl
  clear hst hk hsim hd hs
  go_upto_region 31 with (fail)
  go_cut [120] from 115 to 120 (fun v wx => v = .bool (decide (k = 7 ∨ k = 9)) ∧ wx = wr)
  case first =>
    by_cases h7 : k = 7
    · subst h7
      go_wp2_with fail
      go_meet
      exact ⟨rfl, rfl⟩
    · have e7 : (k == 7) = false := by simpa using h7
      by_cases h9 : k = 9
      · subst h9
        go_wp2_with fail
        go_meet
        exact ⟨rfl, rfl⟩
      · have e9 : (k == 9) = false := by simpa using h9
        have ed : decide (k = 7 ∨ k = 9) = false := by simp [h7, h9]
        clear h7 h9
        go_wp2_with fail
        go_meet
        exact ⟨by rw [ed], rfl⟩
  case rest =>
    obtain ⟨rfl, rfl⟩ := hcut
    by_cases h79 : k = 7 ∨ k = 9
    · have ed : decide (k = 7 ∨ k = 9) = true := by simpa using h79
      have HD2 : Hid (dec0 s = e39 k (stepF 8 T)) := Lib.hid (by rw [HD.out]; unfold e31; rw [if_pos h79])
      rw [ed]
      clear ed h79 HD
      go_wp2_with fail
      refine (in_any 2 s a b (w.heap.size + 1) wc (by decide) HST.out.inn HLE.out HSZ.out).mono ?_
      rintro e w1 ⟨rfl, hi, ho⟩
      have HC1 := Lib.hid (HST.out.step hi ho)
      have HLE1 := Lib.hid (inA_le 2 s a b HLE.out)
      rw [cnt_eq s a b]
      have HSN := Lib.hid (fun h => HSIM.out.nodes h)
      have HSNO := Lib.hid (fun h => HSIM.out.nodes_no h)
      obtain ⟨N, hN⟩ : ∃ N, cnt s a b = N := ⟨_, rfl⟩
      obtain ⟨qa, hA⟩ : ∃ v, inA 2 s a b = v := ⟨_, rfl⟩
      obtain ⟨qb, hB⟩ : ∃ v, inB 2 s a b = v := ⟨_, rfl⟩
      rw [hN, hA, hB] at HSN
      rw [hN] at HSNO
      rw [hA, hB] at HC1
      rw [hA] at HLE1
      rw [hN]
      clear hi ho hN hA hB
      by_cases h16 : N ≤ 16
      · have HSN2 := Lib.hid (HSN.out h16)
        have h17 : ¬ 16 < N := by omega
        clear HSN HSNO
        go_wp2_with fail
        go_loopw [13] (fun i wr => ∃ (k2 : Nat) (B : Option Addr) (d : Nat), k2 ≤ N ∧ i = .int .i64 (k2 : Int) ∧ rfSt w m wr (⟨k, ⟨t1, t2, t3⟩, Ls, (ndsA s k2 qa qb).2.2, a0, a1, a2, a3, a4, a5, false⟩ : Rc) s (ndsA s k2 qa qb).1 (ndsA s k2 qa qb).2.1 ⟨A, c, B, d⟩) (fun i _ => N - (intOf i).toNat)
        case atStart => exact ⟨0, none, 0, Nat.zero_le _, rfl, HC1.out⟩
        case round =>
          obtain ⟨k2, B, d, hk2, rfl, hst⟩ := hrel
          by_cases hlt2 : k2 < N
          · have HST1 : Hid (ndsA s (k2 + 1) qa qb = (inA 3 s (ndsA s k2 qa qb).1 (ndsA s k2 qa qb).2.1, inB 3 s (ndsA s k2 qa qb).1 (ndsA s k2 qa qb).2.1, (ndsA s k2 qa qb).2.2 ++ [inV 3 s (ndsA s k2 qa qb).1 (ndsA s k2 qa qb).2.1])) := Lib.hid rfl
            have HIL := Lib.hid (ndsA_le s k2 (b := qb) HLE1.out)
            have HLM2 := Lib.hid (ndsA_length s k2 qa qb)
            obtain ⟨t, ht⟩ : ∃ t, ndsA s k2 qa qb = t := ⟨_, rfl⟩
            rw [ht] at hst HST1 HIL HLM2
            obtain ⟨a, b, Ms⟩ := t
            simp only at hst HST1 HIL HLM2
            have HST := Lib.hid hst
            have HKB := Lib.hid (show k2 ≤ 1000000 by omega)
            have HI : Hid (∀ V : Nat → Value, ndSt s a b (⟨k, ⟨t1, t2, t3⟩, Ls, Ms, a0, a1, a2, a3, a4, a5, false⟩ : Rc) ⟨A, c, B, d⟩ w m wr false false false false (V 4) (V 5) wr.drew) := Lib.hid fun V =>
              ⟨Cells.later hst.inn (Below.refl _ _).drew, Only.of_below (Below.refl _ _).drew, hst, fun _ => hst.rcd.later (Below.refl _ _).drew, fun hd => (by cases hd), fun _ => hst.rowB.drew, fun hd => (by cases hd), fun hd => (by cases hd)⟩
            clear hst ht
            go_wp2_with fail
            refine Reg.region_inv (by kernel_rfl) (fun i => ([some (.pointer (some ⟨m, 5, none⟩)), some (.slice B k2 d), some (.pointer (some ⟨w.heap.size + 1, 0, none⟩)), some (.int .i64 (inV 3 s a b)), none, none, some (.pointer (some ⟨m, 5, none⟩)), none] : List (Option Value)).getD i none) (fun D V W => ndSt s a b (⟨k, ⟨t1, t2, t3⟩, Ls, Ms, a0, a1, a2, a3, a4, a5, false⟩ : Rc) ⟨A, c, B, d⟩ w m wr (D 3) (D 4) (D 5) (D 7) (V 4) (V 5) W) (fun V => [(some 131, V 0), (some 132, V 1), (some 133, V 2), (some 134, V 3), (some 135, V 4), (some 136, V 5), (some 137, V 6), (none, V 7)]) (by kernel_rfl) (by kernel_rfl) (fun V => rfl) ?_ ?_ ?_
            · intro V
              exact HI.out V
            · intro i o ho
              have hi : i < 8 := (Array.getElem?_eq_some_iff.1 ho).1
              rcases i with _ | _ | _ | _ | _ | _ | _ | _ | i
              · obtain rfl := Option.some.inj ho
                intro D V ρ wi hE hI hDi hT hF hs hd hk
                have e5 : ρ (.tmp 5) = .pointer (some ⟨m, 0, none⟩) := hs 5 (by kernel_rfl)
                clear hT hF hk
                exact Reg.Gives.value (v := .pointer (some ⟨m, 5, none⟩)) (w' := wi) (by go_simp) ⟨fun x h => Option.some.inj h, hI⟩
              · obtain rfl := Option.some.inj ho
                intro D V ρ wi hE hI hDi hT hF hs hd hk
                have e131 : ρ (.tmp 131) = .pointer (some ⟨m, 5, none⟩) := (hd 0 131 (by kernel_rfl) (by kernel_rfl) (by show _ < 164; decide)).trans (hk 0 (by kernel_rfl) _ rfl)
                have hD5 : D 5 = false := hF 1 5 (by show _ < 8; decide) (by kernel_rfl)
                have hD7 : D 7 = false := hF 1 7 (by show _ < 8; decide) (by kernel_rfl)
                clear hT hF
                rw [hD7] at hI
                have hq := (hI.rcd rfl).cell (j := 5) rfl
                rw [HLM2.out] at hq
                exact Reg.Gives.value (v := .slice B k2 d) (w' := wi) (by go_simp) ⟨fun x h => Option.some.inj h, by show ndSt s a b (⟨k, ⟨t1, t2, t3⟩, Ls, Ms, a0, a1, a2, a3, a4, a5, false⟩ : Rc) ⟨A, c, B, d⟩ w m wr (D 3) (D 4) (D 5) (D 7) (V 4) (V 5) wi; rw [hD7]; exact hI⟩
              · obtain rfl := Option.some.inj ho
                intro D V ρ wi hE hI hDi hT hF hs hd hk
                have e4 : ρ (.tmp 4) = .pointer (some ⟨w.heap.size + 1, 0, none⟩) := hs 4 (by kernel_rfl)
                clear hT hF hk
                exact Reg.Gives.value (v := .pointer (some ⟨w.heap.size + 1, 0, none⟩)) (w' := wi) (by go_simp) ⟨fun x h => Option.some.inj h, hI⟩
              · obtain rfl := Option.some.inj ho
                intro D V ρ wi hE hI hDi hT hF hs hd hk
                have e133 : ρ (.tmp 133) = .pointer (some ⟨w.heap.size + 1, 0, none⟩) := (hd 2 133 (by kernel_rfl) (by kernel_rfl) (by show _ < 164; decide)).trans (hk 2 (by kernel_rfl) _ rfl)
                have hc := hE.const
                have hf := hE.func
                have hD3 : D 3 = false := hDi
                have hD4 : D 4 = false := hF 1 4 (by show _ < 8; decide) (by kernel_rfl)
                have hD5 : D 5 = false := hF 1 5 (by show _ < 8; decide) (by kernel_rfl)
                have hD7 : D 7 = false := hF 1 7 (by show _ < 8; decide) (by kernel_rfl)
                clear hT hF
                rw [hD3] at hI
                have hin := hI.inn
                simp only [cond_false] at hin
                refine Reg.Gives.call (f := 40) (args := #[.pointer (some ⟨w.heap.size + 1, 0, none⟩), .int .i64 3]) (w' := wi) (by go_simp) ?_
                refine (in_any 3 s a b (w.heap.size + 1) wi (by decide) hin HIL.out HSZ.out).mono ?_
                rintro e w'' ⟨rfl, hi', ho'⟩
                refine ⟨_, rfl, fun x h => Option.some.inj h, ?_⟩
                show ndSt s a b (⟨k, ⟨t1, t2, t3⟩, Ls, Ms, a0, a1, a2, a3, a4, a5, false⟩ : Rc) ⟨A, c, B, d⟩ w m wr true (D 4) (D 5) (D 7) (V 4) (V 5) w''
                exact hI.call hi' ho'
              · obtain rfl := Option.some.inj ho
                intro D V ρ wi hE hI hDi hT hF hs hd hk
                have e134 : ρ (.tmp 134) = .int .i64 (inV 3 s a b) := (hd 3 134 (by kernel_rfl) (by kernel_rfl) (by show _ < 164; decide)).trans (hk 3 (by kernel_rfl) _ rfl)
                have hD3 : D 3 = true := hT 1 3 (by kernel_rfl)
                have hD4 : D 4 = false := hDi
                have hD5 : D 5 = false := hF 1 5 (by show _ < 8; decide) (by kernel_rfl)
                have hD7 : D 7 = false := hF 1 7 (by show _ < 8; decide) (by kernel_rfl)
                clear hT hF
                rw [hD4, hD5] at hI
                exact Reg.Gives.value (v := .slice (some ⟨wi.heap.size, 0, none⟩) 1 1) (w' := wi.alloc (.cells #[.int .i64 (inV 3 s a b)] 3)) (by go_simp) ⟨fun x h => (by cases h), by show ndSt s a b (⟨k, ⟨t1, t2, t3⟩, Ls, Ms, a0, a1, a2, a3, a4, a5, false⟩ : Rc) ⟨A, c, B, d⟩ w m wr (D 3) true (D 5) (D 7) (.slice (some ⟨wi.heap.size, 0, none⟩) 1 1) (V 5) _; rw [hD5]; exact hI.alloc⟩
              · obtain rfl := Option.some.inj ho
                intro D V ρ wi hE hI hDi hT hF hs hd hk
                have e132 : ρ (.tmp 132) = .slice B k2 d := (hd 1 132 (by kernel_rfl) (by kernel_rfl) (by show _ < 164; decide)).trans (hk 1 (by kernel_rfl) _ rfl)
                have e135 : ρ (.tmp 135) = V 4 := hd 4 135 (by kernel_rfl) (by kernel_rfl) (by show _ < 164; decide)
                have hD3 : D 3 = true := hT 1 3 (by kernel_rfl)
                have hD4 : D 4 = true := hT 1 4 (by kernel_rfl)
                have hD5 : D 5 = false := hDi
                have hD7 : D 7 = false := hF 1 7 (by show _ < 8; decide) (by kernel_rfl)
                clear hT hF
                rw [hD4, hD5, hD7] at hI
                obtain ⟨j, hv, hj0, hcj⟩ := hI.blk rfl rfl
                rw [hv] at e135
                have hold := hI.old rfl
                simp only [HLM2.out] at hold
                obtain ⟨v', w'', hrun, hrow, hgr, hat⟩ := append_node hold hcj HKB.out (by have h1 := hI.foot.size; have h2 := HST.out.low; omega)
                exact Reg.Gives.value (v := v') (w' := w'') (Reg.exec_append rfl e132 e135 hrun) ⟨fun x h => (by cases h), by show ndSt s a b (⟨k, ⟨t1, t2, t3⟩, Ls, Ms, a0, a1, a2, a3, a4, a5, false⟩ : Rc) ⟨A, c, B, d⟩ w m wr (D 3) (D 4) true (D 7) (V 4) v' w''; rw [hD4, hD7]; exact hI.append (by rw [HLM2.out]; exact hrow) (by rw [HLM2.out]; exact hgr) (by rw [HLM2.out]; exact hat)⟩
              · obtain rfl := Option.some.inj ho
                intro D V ρ wi hE hI hDi hT hF hs hd hk
                have e5 : ρ (.tmp 5) = .pointer (some ⟨m, 0, none⟩) := hs 5 (by kernel_rfl)
                clear hT hF hk
                exact Reg.Gives.value (v := .pointer (some ⟨m, 5, none⟩)) (w' := wi) (by go_simp) ⟨fun x h => Option.some.inj h, hI⟩
              · obtain rfl := Option.some.inj ho
                intro D V ρ wi hE hI hDi hT hF hs hd hk
                have e137 : ρ (.tmp 137) = .pointer (some ⟨m, 5, none⟩) := (hd 6 137 (by kernel_rfl) (by kernel_rfl) (by show _ < 164; decide)).trans (hk 6 (by kernel_rfl) _ rfl)
                have e136 : ρ (.tmp 136) = V 5 := hd 5 136 (by kernel_rfl) (by kernel_rfl) (by show _ < 164; decide)
                have hD3 : D 3 = true := hT 1 3 (by kernel_rfl)
                have hD4 : D 4 = true := hT 1 4 (by kernel_rfl)
                have hD5 : D 5 = true := hT 1 5 (by kernel_rfl)
                have hD7 : D 7 = false := hDi
                clear hT hF
                rw [hD3, hD4, hD5, hD7] at hI
                have fq := (hI.rcd rfl).frozen (j := 5) (by simp [Rc.vals])
                have hq := (hI.rcd rfl).cell (j := 5) rfl
                obtain ⟨A5, n5, c5, hv5⟩ := own_slice (hI.new rfl).1
                have e136v := e136
                rw [hv5] at e136v
                exact Reg.Gives.skip (w' := wi.setCell ⟨m, 5, none⟩ (V 5)) (by rw [hv5]; go_simp) ⟨fun x h => (by cases h), by show ndSt s a b (⟨k, ⟨t1, t2, t3⟩, Ls, Ms, a0, a1, a2, a3, a4, a5, false⟩ : Rc) ⟨A, c, B, d⟩ w m wr (D 3) (D 4) (D 5) true (V 4) (V 5) _; rw [hD3, hD4, hD5]; exact hI.store⟩
              · omega
            · intro V w1 hk hI
              simp only [Reg.putsO, List.foldl_cons, List.foldl_nil, Act.put, List.setIfInBounds_toArray, List.set_cons_succ, List.set_cons_zero]
              replace hI : ndSt s a b (⟨k, ⟨t1, t2, t3⟩, Ls, Ms, a0, a1, a2, a3, a4, a5, false⟩ : Rc) ⟨A, c, B, d⟩ w m wr true true true true (V 4) (V 5) w1 := hI
              clear hk
              obtain ⟨B2, d2, hd2⟩ := hI.done
              have HPU := Lib.hid hd2
              clear hI hd2
              go_wp2_with fail
              go_roundw
              case rel =>
                refine ⟨k2 + 1, B2, d2, by omega, by go_num, ?_⟩
                rw [HST1.out]
                exact HPU.out
              case measure => simp [intOf]; omega
          · obtain rfl : k2 = N := by omega
            have HSIM4 : Hid (Sim s (⟨k, ⟨t1, t2, t3⟩, Ls, (ndsA s k2 qa qb).2.2, a0, a1, a2, a3, a4, a5, false⟩ : Rc) (ndsA s k2 qa qb).1 (ndsA s k2 qa qb).2.1 (stepF 8 T)) := Lib.hid HSN2.out
            have HST := Lib.hid hst
            clear hst
            go_wp2_with fail
            exact HKT.out _ _ (t39 s w HSZ.out HK.out HST.out HSIM4.out HD2.out (by kernel_rfl))
      · have HNO2 := Lib.hid (HSNO.out (by omega))
        have h17 : 16 < N := by omega
        clear HSN HSNO h16
        have HNO := Lib.hid (fin_none (dec_broken (by rw [HD2.out]; exact e39_true HNO2.out)))
        go_upto_region 34 with (fail)
        apply wp_region_lit
        refine wpList_buildTo rfl 31 _ rfl (some 125) rfl #[.int .i64 0, .int .i64 0, .int .i64 0, .int .i64 0, .slice none 0 0, .slice none 0 0, .int .i64 0, .int .i64 0, .int .i64 0, .int .i64 0, .int .i64 0, .int .i64 0, .bool false] (by kernel_rfl) ?_
        refine wpList_store_cells rfl 31 _ _ rfl w.heap.size #[.int .i64 0, .int .i64 0, .int .i64 0, .int .i64 0, .slice none 0 0, .slice none 0 0, .int .i64 0, .int .i64 0, .int .i64 0, .int .i64 0, .int .i64 0, .int .i64 0, .bool false] [.int .i64 0, .int .i64 0, .int .i64 0, .int .i64 0, .slice none 0 0, .slice none 0 0, .int .i64 0, .int .i64 0, .int .i64 0, .int .i64 0, .int .i64 0, .int .i64 0, .bool false] rfl rfl rfl HC1.out.res rfl (by kernel_rfl) (by kernel_rfl) fun wv hpt hov => ?_
        have HPT := Lib.hid hpt
        have HO := Lib.hid (HC1.out.ended hov)
        clear hpt hov
        go_wp2_with fail
        refine bodyPost_ret (v := .tuple #[.agg #[.int .i64 0, .int .i64 0, .int .i64 0, .int .i64 0, .slice none 0 0, .slice none 0 0, .int .i64 0, .int .i64 0, .int .i64 0, .int .i64 0, .int .i64 0, .int .i64 0, .bool false], .bool false]) ?_ rfl ?_
        · exact (ret_cell_tmp (p := 2) (q := 3) (ty := 31) (by rfl) _ HPT.out _ (by rfl) Try.underlying31 rfl (by kernel_rfl)).trans (by rfl)
        · exact ⟨⟨lay0, by rw [HNO.out.1, HNO.out.2]; rfl, by rw [HNO.out.1]; exact has0 _⟩, HO.out.2⟩
    · have ed : decide (k = 7 ∨ k = 9) = false := by simpa using h79
      have HD2 : Hid (dec0 s = e39 k T) := Lib.hid (by rw [HD.out]; unfold e31; rw [if_neg h79])
      rw [ed]
      clear ed h79 HD
      go_wp2_with fail
      exact HKT.out _ _ (t39 s w HSZ.out HK.out HST.out HSIM.out HD2.out (by kernel_rfl))
end Go.Proofs.Ytfnkjdkckpdfhaa.Msg
