/-
  Layer 17, CachePlays: what kind 2 does, on both sides. Conditions: none.
-/
import Derived.Test.YteedlenelfidcaaCacDuo
import Derived.Test.YteedlenelfidcaaSub
namespace Go.Proofs.Yteedlenelfidcaa.CachePlays
set_option maxRecDepth 100000
open Go.ChangeShapes Go.WideShapes Go.ChangeAt Go.RowKit Go.Deep Go.Proofs.Yteedlenelfidcaa.Mem Go.Proofs.Yteedlenelfidcaa.Cac

theorem en_nec (p q : En) (w : World) : (binOp .neq 38 p.v q.v).run Try.prog w = .ok (.bool (!decide (p = q))) w := by
  have h := en_cmp 38 (by kernel_rfl) (by kernel_rfl) ⟨_, _, _, _, rfl, rfl, rfl, rfl, rfl, rfl, rfl, rfl, rfl, by decide, by decide, by decide, by decide⟩ p q w
  show (binOp .neq 38 (.agg _) (.agg _)).run Try.prog w = _
  rw [run_neq_struct]
  unfold En.v at h
  rw [h]
  rfl
def cacPl33f (rb g n ac ii : Nat) (e : En) : Nat → Value → World → Prop
  | 0, v, _ => v = .bool true
  | 1, v, _ => v = .int .i64 (ii : Int)
  | 2, v, _ => v = .bool true
  | 3, v, _ => v = .bool false
  | 4, v, _ => v = .bool false
  | 5, v, _ => v = .bool true
  | 6, v, _ => v = .bool true
  | 7, v, _ => v = .agg #[.int .i64 e.cell, .int .i64 e.ver, .int .i64 e.val, .int .i64 e.frm]
  | 8, v, _ => v = .pointer (some ⟨rb, 0, none⟩)
  | 9, v, _ => v = .pointer (some ⟨rb, 0, none⟩)
  | 10, v, _ => v = .pointer (some ⟨rb, 1, none⟩)
  | 11, v, _ => v = .slice (some ⟨g, 0, none⟩) n ac
  | 12, v, _ => v = .int .i64 (ii : Int)
  | 13, v, _ => v = .pointer (some ⟨g, ii * 4, none⟩)
  | 14, v, _ => v = .agg #[.int .i64 e.cell, .int .i64 e.ver, .int .i64 e.val, .int .i64 e.frm]
  | 15, v, _ => v = .bool false
  | 16, v, _ => v = .bool false
  | 17, v, _ => v = .bool false
  | 18, v, _ => v = .bool false
  | 19, v, _ => v = .bool true
  | 20, v, _ => v = .bool false
  | 21, v, _ => v = .bool false
  | 22, v, _ => v = undef
  | 23, v, _ => v = undef
  | 24, v, _ => v = undef
  | 25, v, _ => v = .bool false
  | 26, v, _ => v = .bool false
  | _, _, _ => True
def cacPl33n  : Nat → Value → World → Prop
  | 0, v, _ => v = .bool false
  | 1, v, _ => v = .int .i64 (-1)
  | 2, v, _ => v = .bool false
  | 3, v, _ => v = .bool false
  | 4, v, _ => v = .bool false
  | 5, v, _ => v = .bool false
  | 6, v, _ => v = .bool false
  | 7, v, _ => v = undef
  | 8, v, _ => v = undef
  | 9, v, _ => v = undef
  | 10, v, _ => v = undef
  | 11, v, _ => v = undef
  | 12, v, _ => v = undef
  | 13, v, _ => v = undef
  | 14, v, _ => v = undef
  | 15, v, _ => v = undef
  | 16, v, _ => v = .bool false
  | 17, v, _ => v = .bool false
  | 18, v, _ => v = .bool false
  | 19, v, _ => v = .bool false
  | 20, v, _ => v = .bool true
  | 21, v, _ => v = .bool true
  | 22, v, _ => v = .agg #[.int .i64 0, .int .i64 0, .int .i64 0, .int .i64 0]
  | 23, v, _ => v = .agg #[.int .i64 0, .int .i64 0, .int .i64 0, .int .i64 0]
  | 24, v, _ => v = .bool false
  | 25, v, _ => v = .bool false
  | 26, v, _ => v = .bool false
  | _, _, _ => True
set_option maxHeartbeats 4000000 in
theorem sw2 {w1 we : World} {cb rb gb lq cq oac occ : Nat} {vs : List Value} {F : Nat → Prop} {R : Cc} {ok oc ov : Int} {oA oC : Option Addr} {ol : List En} {ocs : List Int} (hx : Hid (Two w1.heap.size w1 we cb rb gb vs F R R) ∧ Hid (vs[1]? = some (.int .i64 oc) ∧ vs[2]? = some (.int .i64 ov) ∧ vs[3]? = some (.slice oA lq oac) ∧ vs[4]? = some (.slice oC cq occ)) ∧ Hid (Cok R) ∧ Hid (∀ w', Below w1.heap.size w1 w' → (⟨ok, oc, ov, oA, oac, ol, oC, occ, ocs⟩ : Opk).Ok w') ∧ Hid ((∀ i, ol ≠ [] → blk oA = some i → i < w1.heap.size) ∧ ∀ i, ocs ≠ [] → blk oC = some i → i < w1.heap.size) ∧ Hid (ol.length = lq) ∧ Hid (ocs.length = cq) ∧ lq ≤ 40 ∧ cq ≤ 40) (k2 : ok = 2)
    {cc : Code} (hc : cc = sub [1, 1, 1, 1, 1, 1, 1, 0, 1, 0, 0, 1, 1, 0, 0, 1, 0, 1] ((Try.f3.body).getD .skip)) {s0 s1 s2 s3 s4 s6 s8 s10 s11 s12 s13 s14 s15 s16 s17 s18 s19 s20 s21 s22 s23 s24 s25 s26 s27 s28 s29 s30 s31 s32 s33 s34 s35 s36 s37 s38 s39 s40 s41 s42 s43 s44 s45 s46 s47 s48 s49 s50 s51 s52 s53 s54 s55 s56 s57 s58 s59 s60 s61 s63 s64 s65 s66 s67 s68 s69 s70 s71 s72 s73 s74 s75 s76 s77 s78 s79 s80 s81 s82 s83 s84 s85 s86 s87 s88 s89 s90 s91 s92 s93 s94 s95 s96 s97 s98 s99 s100 s101 s102 s103 s104 s105 s106 s107 s108 s109 s110 s111 s112 s113 s114 s115 s116 s117 s118 s119 s120 s121 s122 s123 s124 s125 s126 s127 s128 s129 s130 s131 s132 s133 s134 s135 s136 s137 s138 s139 s140 s141 s142 s143 s144 s145 s146 s147 s148 s149 s150 s151 s152 s153 s154 s155 s156 s157 s158 s159 s160 s161 s162 s163 s164 s165 s166 s167 s168 s169 s170 s171 s172 s173 s174 s175 s176 s177 s178 s179 s180 s181 s182 s183 s184 s185 s186 s187 s188 s189 s190 s191 s192 s193 s194 s195 s196 s197 s198 s199 s200 s201 s202 s203 s204 s205 s206 s207 s208 s209 s210 s211 s212 s213 s214 s215 s216 s217 s218 s219 s220 : Value} {Q : Exit → Act → World → Prop}
    (hQ : ∀ (u10 u12 u13 u14 u15 u16 u17 u18 u19 u20 u21 u22 u24 u63 u64 u65 u66 u67 u68 u69 u70 u71 u72 u73 u74 u75 u76 u77 u78 u79 u80 u81 u82 u83 u84 u85 u86 u87 u88 u89 u90 u91 u92 u93 u94 u95 u96 u97 u98 u99 u100 u101 u102 u103 u104 u105 u106 u107 u108 u109 u110 u111 u112 u113 u114 u115 u116 u117 u118 u119 u120 u121 u122 u123 u124 u125 u126 u127 u128 u129 u130 u131 u132 u133 u134 u135 u136 u137 u138 u139 u140 u141 u142 u143 u144 u145 u146 u147 u148 u149 u150 u151 u152 u153 u154 u155 u156 u157 u158 u159 u160 u161 u162 u163 u164 u165 u166 u167 u168 u169 u170 u171 u172 u173 u174 u175 u176 u177 u178 u179 u180 u181 u182 u183 u184 u185 u186 u187 u188 u189 u190 u191 u192 u193 u194 u195 u196 u197 u198 u199 u200 u201 u202 u203 u204 u205 u206 u207 u208 u209 u210 : Value) (w' : World), (∃ R' : Cc, Hid (Cok R') ∧ Hid (Two w1.heap.size w1 w' cb rb gb vs F R' R')) → Q .normal { tmps := List.toArray (s0::s1::s2::s3::s4::.pointer (some ⟨cb, 0, none⟩)::s6::.pointer (some ⟨rb, 0, none⟩)::s8::.pointer (some ⟨gb, 0, none⟩)::u10::s11::u12::u13::u14::u15::u16::u17::u18::u19::u20::u21::u22::s23::u24::s25::s26::s27::s28::s29::s30::s31::s32::s33::s34::s35::s36::s37::s38::s39::s40::s41::s42::s43::s44::s45::s46::s47::s48::s49::s50::s51::s52::s53::s54::s55::s56::s57::s58::s59::s60::s61::.int .i64 ok::u63::u64::u65::u66::u67::u68::u69::u70::u71::u72::u73::u74::u75::u76::u77::u78::u79::u80::u81::u82::u83::u84::u85::u86::u87::u88::u89::u90::u91::u92::u93::u94::u95::u96::u97::u98::u99::u100::u101::u102::u103::u104::u105::u106::u107::u108::u109::u110::u111::u112::u113::u114::u115::u116::u117::u118::u119::u120::u121::u122::u123::u124::u125::u126::u127::u128::u129::u130::u131::u132::u133::u134::u135::u136::u137::u138::u139::u140::u141::u142::u143::u144::u145::u146::u147::u148::u149::u150::u151::u152::u153::u154::u155::u156::u157::u158::u159::u160::u161::u162::u163::u164::u165::u166::u167::u168::u169::u170::u171::u172::u173::u174::u175::u176::u177::u178::u179::u180::u181::u182::u183::u184::u185::u186::u187::u188::u189::u190::u191::u192::u193::u194::u195::u196::u197::u198::u199::u200::u201::u202::u203::u204::u205::u206::u207::u208::u209::u210::s211::s212::s213::s214::s215::s216::s217::s218::s219::s220::[]), defers := [] } w') :
    Code.wp Try.prog cc Q { tmps := List.toArray (s0::s1::s2::s3::s4::.pointer (some ⟨cb, 0, none⟩)::s6::.pointer (some ⟨rb, 0, none⟩)::s8::.pointer (some ⟨gb, 0, none⟩)::s10::s11::s12::s13::s14::s15::s16::s17::s18::s19::s20::s21::s22::s23::s24::s25::s26::s27::s28::s29::s30::s31::s32::s33::s34::s35::s36::s37::s38::s39::s40::s41::s42::s43::s44::s45::s46::s47::s48::s49::s50::s51::s52::s53::s54::s55::s56::s57::s58::s59::s60::s61::.int .i64 ok::s63::s64::s65::s66::s67::s68::s69::s70::s71::s72::s73::s74::s75::s76::s77::s78::s79::s80::s81::s82::s83::s84::s85::s86::s87::s88::s89::s90::s91::s92::s93::s94::s95::s96::s97::s98::s99::s100::s101::s102::s103::s104::s105::s106::s107::s108::s109::s110::s111::s112::s113::s114::s115::s116::s117::s118::s119::s120::s121::s122::s123::s124::s125::s126::s127::s128::s129::s130::s131::s132::s133::s134::s135::s136::s137::s138::s139::s140::s141::s142::s143::s144::s145::s146::s147::s148::s149::s150::s151::s152::s153::s154::s155::s156::s157::s158::s159::s160::s161::s162::s163::s164::s165::s166::s167::s168::s169::s170::s171::s172::s173::s174::s175::s176::s177::s178::s179::s180::s181::s182::s183::s184::s185::s186::s187::s188::s189::s190::s191::s192::s193::s194::s195::s196::s197::s198::s199::s200::s201::s202::s203::s204::s205::s206::s207::s208::s209::s210::s211::s212::s213::s214::s215::s216::s217::s218::s219::s220::[]), defers := [] } we := by
  obtain ⟨HT, HV, HK, HIN, HOBL, HLQ, HCQ, hl40, hc40⟩ := hx
  have HQ := Lib.hid hQ
  clear hQ
  conv at hc => rhs; whnf
  subst hc
  subst k2
  have y1 := HT.out.box.cell HV.out.1
  obtain ⟨A1, c1, A2, c2, hx, hy, hd, hf⟩ := HT.out.ex
  have HPC := Lib.hid (Peek_any hx oc)
  obtain ⟨e, he⟩ : ∃ e, getD0 oc R.l = e := ⟨_, rfl⟩
  obtain ⟨hb, hhb⟩ : ∃ b, hasE oc R.l = b := ⟨_, rfl⟩
  rw [he, hhb] at HPC
  have HE := Lib.hid he
  have HHB := Lib.hid hhb
  have HY := Lib.hid hy
  unfold En.v at HPC
  clear he hhb hx hy hd hf
  go_wp2_with fail
  refine HPC.out.mono ?_
  rintro e5 w3 ⟨rfl, hb3⟩
  obtain ⟨w4, hw4⟩ : ∃ W, W = w3.alloc (.cells #[.int .i64 e.cell, .int .i64 e.ver, .int .i64 e.val, .int .i64 e.frm] 38) := ⟨_, rfl⟩
  have hb4 : Below w3.heap.size w3 w4 := by rw [hw4]; exact below_alloc _ _
  have hc4 : Cells w4 w3.heap.size 38 e.vals := by rw [hw4]; exact cells_new _ _ _ _ rfl
  obtain ⟨xb, hxb⟩ : ∃ bx, w3.heap.size = bx := ⟨_, rfl⟩
  have hb34 := hb3.trans (hb4.mono hb3.size)
  have HT4 := Lib.hid (HT.out.later hb34)
  have hy4 := HY.out.later hb34
  have HAT := Lib.hid (RAt_any hy4 oc)
  have HY4 := Lib.hid hy4
  rw [hxb] at hc4
  have HC4 := Lib.hid hc4
  have y1 := HT4.out.box.cell HV.out.1
  clear hb3 hb4 hb34 hy4 hc4 HPC HY
  go_upto_region 32 with (fail)
  rw [← hw4]
  clear hw4
  try rw [hxb]
  clear hxb
  have HXB : Hid (∀ wi, Below w4.heap.size w4 wi → Cells wi xb 38 e.vals) := Lib.hid fun wi hb => HC4.out.later hb
  rcases atE_spec oc R.l 0 with ⟨h1, h2, h3, h4⟩ | ⟨ii, hii, h1, h2, h3, h4⟩
  · rw [h1] at HAT
    obtain rfl : e = en0 := by rw [← HE.out]; unfold getD0; rw [h2]; rfl
    obtain rfl : hb = false := by rw [← HHB.out]; unfold hasE; rw [h2]; rfl
    replace HXB : Hid (∀ wi, Below w4.heap.size w4 wi → Cells wi xb 38 [.int .i64 0, .int .i64 0, .int .i64 0, .int .i64 0]) := HXB
    have HEQ : Hid (∀ wi, (binOp .neq 38 (.agg #[.int .i64 0, .int .i64 0, .int .i64 0, .int .i64 0]) (.agg #[.int .i64 0, .int .i64 0, .int .i64 0, .int .i64 0])).run Try.prog wi = .ok (.bool false) wi) := Lib.hid fun wi => by
      have h1 := en_nec en0 en0 wi
      rw [decide_eq_true rfl] at h1
      exact h1
    clear h1 h2 h3 h4
    go_wp2_with fail
    refine HAT.out.mono ?_
    rintro e5 we ⟨rfl, hwe⟩
    rw [← hwe] at HXB HT4
    clear hwe y1
    go_upto_region 33 with (fail)
    refine Reg.region_heavy (by kernel_rfl) 26 [26] (cacPl33n ) (fun a => Below we.heap.size we a) (fun a => Below we.heap.size we a) (fun V => [(some 121, V 0), (some 122, V 1), (some 123, V 2), (some 124, V 3), (some 125, V 4), (some 126, V 5), (some 127, V 6), (some 128, V 7), (some 129, V 8), (some 130, V 9), (some 131, V 10), (some 132, V 11), (some 133, V 12), (some 134, V 13), (some 135, V 14), (some 136, V 15), (some 137, V 16), (some 138, V 17), (some 139, V 18), (some 140, V 19), (some 141, V 20), (some 142, V 21), (some 143, V 22), (some 144, V 23), (some 145, V 24), (some 146, V 25), (some 147, V 26)]) (by kernel_rfl) (by kernel_rfl) (by kernel_rfl) (fun V => rfl) ?_ ?_ ?_
    · exact (Below.refl _ _).drew
    · intro i o ho
      have hi : i < 27 := (Array.getElem?_eq_some_iff.1 ho).1
      rcases i with _ | _ | _ | _ | _ | _ | _ | _ | _ | _ | _ | _ | _ | _ | _ | _ | _ | _ | _ | _ | _ | _ | _ | _ | _ | _ | _ | i
      rotate_right
      · omega
      all_goals obtain rfl := Option.some.inj ho
      all_goals intro ρ wi hE hI hs hd
      all_goals try dsimp only at hI
      · have e18 : ρ (.tmp 18) = .bool false := hs 18; exact Reg.gw hI
      · have e19 : ρ (.tmp 19) = .int .i64 (-1) := hs 19; exact Reg.gw hI
      · obtain ⟨_, rfl, e122⟩ := hd 1 122; have hc := hE.const; exact Reg.gw hI
      · obtain ⟨_, rfl, e121⟩ := hd 0 121; obtain ⟨_, rfl, e123⟩ := hd 2 123; exact Reg.gw hI
      · obtain ⟨_, rfl, e124⟩ := hd 3 124; exact Reg.gw hI
      · have e18 : ρ (.tmp 18) = .bool false := hs 18
        refine Reg.yes ?_
        exact Reg.gw hI
      · obtain ⟨_, rfl, e126⟩ := hd 5 126
        refine Reg.yes ?_
        exact Reg.gw hI
      · exact Reg.no hI
      · exact Reg.no hI
      · exact Reg.no hI
      · exact Reg.no hI
      · exact Reg.no hI
      · exact Reg.no hI
      · exact Reg.no hI
      · exact Reg.no hI
      · exact Reg.no hI
      · obtain ⟨_, rfl, e127⟩ := hd 6 127; obtain ⟨_, rfl, e136⟩ := hd 15 136; have hc := hE.const
        refine Reg.yes ?_
        exact Reg.gw hI
      · obtain ⟨_, rfl, e125⟩ := hd 4 125; obtain ⟨_, rfl, e137⟩ := hd 16 137; have hc := hE.const; exact Reg.gw hI
      · obtain ⟨_, rfl, e138⟩ := hd 17 138; exact Reg.gw hI
      · have e18 : ρ (.tmp 18) = .bool false := hs 18
        refine Reg.yes ?_
        exact Reg.gw hI
      · obtain ⟨_, rfl, e140⟩ := hd 19 140
        refine Reg.yes ?_
        exact Reg.gw hI
      · obtain ⟨_, rfl, e141⟩ := hd 20 141
        refine Reg.yes ?_
        exact Reg.gw hI
      · have e17 : ρ (.tmp 17) = .pointer (some ⟨xb, 0, none⟩) := hs 17
        refine Reg.yes ?_
        have hq := HXB.out _ hI; have q0 := hq.cell (j := 0) rfl; have q1 := hq.cell (j := 1) rfl; have q2 := hq.cell (j := 2) rfl; have q3 := hq.cell (j := 3) rfl; exact Reg.gw hI
      · refine Reg.yes ?_
        exact Reg.gw hI
      · obtain ⟨_, rfl, e143⟩ := hd 22 143; obtain ⟨_, rfl, e144⟩ := hd 23 144
        refine Reg.yes ?_
        exact Reg.Gives.value (v := .bool false) (w' := wi) (exec_bin .neq 38 _ _ _ rfl _ _ e143 e144 (by kernel_rfl) (HEQ.out wi)) (Reg.OwedH.same hI rfl)
      · obtain ⟨_, rfl, e142⟩ := hd 21 142; obtain ⟨_, rfl, e145⟩ := hd 24 145; have hc := hE.const
        refine Reg.yes ?_
        exact Reg.gw hI
      · obtain ⟨_, rfl, e139⟩ := hd 18 139; obtain ⟨_, rfl, e146⟩ := hd 25 146; have hc := hE.const; exact Reg.gw hI
    · intro V wf hV hI
      have hV26 : V 26 = .bool false := hV 26 (by decide) rfl
      simp only [Reg.putsO, List.foldl_cons, List.foldl_nil, Act.put, List.setIfInBounds_toArray, List.set_cons_succ, List.set_cons_zero, hV26]
      replace hI : (fun a => Below we.heap.size we a) wf := hI
      clear hV hV26
      have HT5 := Lib.hid (HT4.out.later hI)
      clear hI
      go_wp2_with fail
      exact HQ.out _ _ _ _ _ _ _ _ _ _ _ _ _ _ _ _ _ _ _ _ _ _ _ _ _ _ _ _ _ _ _ _ _ _ _ _ _ _ _ _ _ _ _ _ _ _ _ _ _ _ _ _ _ _ _ _ _ _ _ _ _ _ _ _ _ _ _ _ _ _ _ _ _ _ _ _ _ _ _ _ _ _ _ _ _ _ _ _ _ _ _ _ _ _ _ _ _ _ _ _ _ _ _ _ _ _ _ _ _ _ _ _ _ _ _ _ _ _ _ _ _ _ _ _ _ _ _ _ _ _ _ _ _ _ _ _ _ _ _ _ _ _ _ _ _ _ _ _ _ _ _ _ _ _ _ _ _ _ _ _ _ _ ⟨_, HK, HT5⟩
  · rw [Nat.zero_add] at h1
    rw [h1] at HAT
    obtain rfl : e = R.l[ii] := by rw [← HE.out]; unfold getD0; rw [h2]; rfl
    obtain rfl : hb = true := by rw [← HHB.out]; unfold hasE; rw [h2]; rfl
    obtain ⟨n, hn⟩ : ∃ n, R.l.length = n := ⟨_, rfl⟩
    have HI : Hid (ii < n) := Lib.hid (by omega)
    obtain ⟨g, rfl, hrg, _⟩ := HY4.out.at hii
    obtain ⟨e, he⟩ : ∃ e, R.l[ii] = e := ⟨_, rfl⟩
    have HN := Lib.hid hn
    rw [he] at hrg HXB ⊢
    have HRG := Lib.hid hrg
    have HEQ : Hid (∀ wi, (binOp .neq 40 (.agg #[.int .i64 e.cell, .int .i64 e.ver, .int .i64 e.val, .int .i64 e.frm]) (.agg #[.int .i64 e.cell, .int .i64 e.ver, .int .i64 e.val, .int .i64 e.frm])).run Try.prog wi = .ok (.bool false) wi) := Lib.hid fun wi => by
      have h1 := en_neqr e e wi
      rw [decide_eq_true rfl] at h1
      exact h1
    clear h1 h2 h3 h4 hrg he hn
    go_wp2_with fail
    refine HAT.out.mono ?_
    rintro e5 we ⟨rfl, hwe⟩
    rw [← hwe] at HXB HT4 HY4 HRG
    have HR1 : Hid (∀ wi, Below we.heap.size we wi → wi.cell? ⟨rb, 1, none⟩ = some (.slice (some ⟨g, 0, none⟩) n c2)) := Lib.hid fun wi hb => by
      have h1 := (HY4.out.later hb).cel.cell (j := 1) rfl
      rw [HN.out] at h1
      exact h1
    have HT0 : Hid (∀ wi, Below we.heap.size we wi → wi.rangeAt g (ii * 4) e.vals) := Lib.hid fun wi hb => range_later HRG.out hb
    obtain ⟨ac, hac⟩ : ∃ ac, c2 = ac := ⟨_, rfl⟩
    rw [hac] at HR1
    clear hwe y1 hac
    go_upto_region 33 with (fail)
    refine Reg.region_heavy (by kernel_rfl) 26 [26] (cacPl33f rb g n ac ii e) (fun a => Below we.heap.size we a) (fun a => Below we.heap.size we a) (fun V => [(some 121, V 0), (some 122, V 1), (some 123, V 2), (some 124, V 3), (some 125, V 4), (some 126, V 5), (some 127, V 6), (some 128, V 7), (some 129, V 8), (some 130, V 9), (some 131, V 10), (some 132, V 11), (some 133, V 12), (some 134, V 13), (some 135, V 14), (some 136, V 15), (some 137, V 16), (some 138, V 17), (some 139, V 18), (some 140, V 19), (some 141, V 20), (some 142, V 21), (some 143, V 22), (some 144, V 23), (some 145, V 24), (some 146, V 25), (some 147, V 26)]) (by kernel_rfl) (by kernel_rfl) (by kernel_rfl) (fun V => rfl) ?_ ?_ ?_
    · exact (Below.refl _ _).drew
    · intro i o ho
      have hi : i < 27 := (Array.getElem?_eq_some_iff.1 ho).1
      rcases i with _ | _ | _ | _ | _ | _ | _ | _ | _ | _ | _ | _ | _ | _ | _ | _ | _ | _ | _ | _ | _ | _ | _ | _ | _ | _ | _ | i
      rotate_right
      · omega
      all_goals obtain rfl := Option.some.inj ho
      all_goals intro ρ wi hE hI hs hd
      all_goals try dsimp only at hI
      · have e18 : ρ (.tmp 18) = .bool true := hs 18; exact Reg.gw hI
      · have e19 : ρ (.tmp 19) = .int .i64 (ii : Int) := hs 19; exact Reg.gw hI
      · obtain ⟨_, rfl, e122⟩ := hd 1 122; have hc := hE.const
        have z1 : decide ((ii : Int) ≥ 0) = true := by simp
        exact Reg.gw hI
      · obtain ⟨_, rfl, e121⟩ := hd 0 121; obtain ⟨_, rfl, e123⟩ := hd 2 123; exact Reg.gw hI
      · obtain ⟨_, rfl, e124⟩ := hd 3 124; exact Reg.gw hI
      · have e18 : ρ (.tmp 18) = .bool true := hs 18
        refine Reg.yes ?_
        exact Reg.gw hI
      · obtain ⟨_, rfl, e126⟩ := hd 5 126
        refine Reg.yes ?_
        exact Reg.gw hI
      · have e17 : ρ (.tmp 17) = .pointer (some ⟨xb, 0, none⟩) := hs 17
        refine Reg.yes ?_
        have hq := HXB.out _ hI; have q0 := hq.cell (j := 0) rfl; have q1 := hq.cell (j := 1) rfl; have q2 := hq.cell (j := 2) rfl; have q3 := hq.cell (j := 3) rfl; exact Reg.gw hI
      · have e7 : ρ (.tmp 7) = .pointer (some ⟨rb, 0, none⟩) := hs 7
        refine Reg.yes ?_
        exact Reg.gw hI
      · obtain ⟨_, rfl, e129⟩ := hd 8 129
        refine Reg.yes ?_
        exact Reg.gw hI
      · obtain ⟨_, rfl, e130⟩ := hd 9 130
        refine Reg.yes ?_
        exact Reg.gw hI
      · obtain ⟨_, rfl, e131⟩ := hd 10 131
        refine Reg.yes ?_
        have x0 := HR1.out _ hI; exact Reg.gw hI
      · have e19 : ρ (.tmp 19) = .int .i64 (ii : Int) := hs 19
        refine Reg.yes ?_
        exact Reg.gw hI
      · obtain ⟨_, rfl, e132⟩ := hd 11 132; obtain ⟨_, rfl, e133⟩ := hd 12 133
        refine Reg.yes ?_
        have z1 : (0 : Int) ≤ (ii : Int) := by omega
        have z2 : (ii : Int) < (n : Int) := by have := HI.out; omega
        have z3 : ii < n := HI.out; exact Reg.gw hI
      · obtain ⟨_, rfl, e134⟩ := hd 13 134
        refine Reg.yes ?_
        have q0 := HT0.out _ hI 0 _ rfl
        rw [Nat.add_zero] at q0
        have q1 := HT0.out _ hI 1 _ rfl; have q2 := HT0.out _ hI 2 _ rfl; have q3 := HT0.out _ hI 3 _ rfl; exact Reg.gw hI
      · obtain ⟨_, rfl, e128⟩ := hd 7 128; obtain ⟨_, rfl, e135⟩ := hd 14 135
        refine Reg.yes ?_
        exact Reg.Gives.value (v := .bool false) (w' := wi) (exec_bin .neq 40 _ _ _ rfl _ _ e128 e135 (by kernel_rfl) (HEQ.out wi)) (Reg.OwedH.same hI rfl)
      · obtain ⟨_, rfl, e127⟩ := hd 6 127; obtain ⟨_, rfl, e136⟩ := hd 15 136; have hc := hE.const
        refine Reg.yes ?_
        exact Reg.gw hI
      · obtain ⟨_, rfl, e125⟩ := hd 4 125; obtain ⟨_, rfl, e137⟩ := hd 16 137; have hc := hE.const; exact Reg.gw hI
      · obtain ⟨_, rfl, e138⟩ := hd 17 138; exact Reg.gw hI
      · have e18 : ρ (.tmp 18) = .bool true := hs 18
        refine Reg.yes ?_
        exact Reg.gw hI
      · obtain ⟨_, rfl, e140⟩ := hd 19 140
        refine Reg.yes ?_
        exact Reg.gw hI
      · obtain ⟨_, rfl, e141⟩ := hd 20 141
        refine Reg.yes ?_
        exact Reg.gw hI
      · exact Reg.no hI
      · exact Reg.no hI
      · exact Reg.no hI
      · obtain ⟨_, rfl, e142⟩ := hd 21 142; obtain ⟨_, rfl, e145⟩ := hd 24 145; have hc := hE.const
        refine Reg.yes ?_
        exact Reg.gw hI
      · obtain ⟨_, rfl, e139⟩ := hd 18 139; obtain ⟨_, rfl, e146⟩ := hd 25 146; have hc := hE.const; exact Reg.gw hI
    · intro V wf hV hI
      have hV26 : V 26 = .bool false := hV 26 (by decide) rfl
      simp only [Reg.putsO, List.foldl_cons, List.foldl_nil, Act.put, List.setIfInBounds_toArray, List.set_cons_succ, List.set_cons_zero, hV26]
      replace hI : (fun a => Below we.heap.size we a) wf := hI
      clear hV hV26
      have HT5 := Lib.hid (HT4.out.later hI)
      clear hI
      go_wp2_with fail
      exact HQ.out _ _ _ _ _ _ _ _ _ _ _ _ _ _ _ _ _ _ _ _ _ _ _ _ _ _ _ _ _ _ _ _ _ _ _ _ _ _ _ _ _ _ _ _ _ _ _ _ _ _ _ _ _ _ _ _ _ _ _ _ _ _ _ _ _ _ _ _ _ _ _ _ _ _ _ _ _ _ _ _ _ _ _ _ _ _ _ _ _ _ _ _ _ _ _ _ _ _ _ _ _ _ _ _ _ _ _ _ _ _ _ _ _ _ _ _ _ _ _ _ _ _ _ _ _ _ _ _ _ _ _ _ _ _ _ _ _ _ _ _ _ _ _ _ _ _ _ _ _ _ _ _ _ _ _ _ _ _ _ _ _ _ ⟨_, HK, HT5⟩
end Go.Proofs.Yteedlenelfidcaa.CachePlays
