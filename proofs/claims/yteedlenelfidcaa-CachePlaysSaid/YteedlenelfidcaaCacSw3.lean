/-
  Layer 17, CachePlays: what kind 3 does, on both sides. Conditions: none.
-/
import Derived.Test.YteedlenelfidcaaCacDuo
import Derived.Test.YteedlenelfidcaaSub
namespace Go.Proofs.Yteedlenelfidcaa.CachePlays
set_option maxRecDepth 100000
open Go.ChangeShapes Go.WideShapes Go.ChangeAt Go.RowKit Go.Deep Go.Proofs.Yteedlenelfidcaa.Mem Go.Proofs.Yteedlenelfidcaa.Cac

def cacPl37n  : Nat → Value → World → Prop
  | 0, v, _ => v = .int .i64 (-1)
  | 1, v, _ => v = .bool false
  | 2, v, _ => v = .bool false
  | 3, v, _ => v = undef
  | 4, v, _ => v = undef
  | 5, v, _ => v = undef
  | 6, v, _ => v = undef
  | 7, v, _ => v = undef
  | 8, v, _ => v = undef
  | 9, v, _ => v = undef
  | 10, v, _ => v = undef
  | 11, v, _ => v = undef
  | 12, v, _ => v = undef
  | 13, v, _ => v = undef
  | 14, v, _ => v = .bool false
  | 15, v, _ => v = .bool false
  | 16, v, _ => v = undef
  | 17, v, _ => v = undef
  | 18, v, _ => v = undef
  | 19, v, _ => v = undef
  | 20, v, _ => v = .bool false
  | 21, v, _ => v = .bool false
  | _, _, _ => True
def cacPl37k (rb gb g n ac ii : Nat) (ov ev : Int) : Nat → Value → World → Prop
  | 0, v, _ => v = .int .i64 (ii : Int)
  | 1, v, _ => v = .bool true
  | 2, v, _ => v = .bool true
  | 3, v, _ => v = .pointer (some ⟨rb, 0, none⟩)
  | 4, v, _ => v = .pointer (some ⟨rb, 0, none⟩)
  | 5, v, _ => v = .pointer (some ⟨rb, 1, none⟩)
  | 6, v, _ => v = .slice (some ⟨g, 0, none⟩) n ac
  | 7, v, _ => v = .int .i64 (ii : Int)
  | 8, v, _ => v = .pointer (some ⟨g, ii * 4, none⟩)
  | 9, v, _ => v = .pointer (some ⟨g, ii * 4 + 1, none⟩)
  | 10, v, _ => v = .int .i64 ev
  | 11, v, _ => v = .pointer (some ⟨gb, 2, none⟩)
  | 12, v, _ => v = .int .i64 ov
  | 13, v, _ => v = .bool false
  | 14, v, _ => v = .bool false
  | 15, v, _ => v = .bool false
  | 16, v, _ => v = undef
  | 17, v, _ => v = undef
  | 18, v, _ => v = undef
  | 19, v, _ => v = undef
  | 20, v, _ => v = .bool false
  | 21, v, _ => v = .bool false
  | _, _, _ => True
set_option maxHeartbeats 4000000 in
theorem sw3 {w1 we : World} {cb rb gb lq cq oac occ : Nat} {vs : List Value} {F : Nat → Prop} {R : Cc} {ok oc ov : Int} {oA oC : Option Addr} {ol : List En} {ocs : List Int} (hx : Hid (Two w1.heap.size w1 we cb rb gb vs F R R) ∧ Hid (vs[1]? = some (.int .i64 oc) ∧ vs[2]? = some (.int .i64 ov) ∧ vs[3]? = some (.slice oA lq oac) ∧ vs[4]? = some (.slice oC cq occ)) ∧ Hid (Cok R) ∧ Hid (∀ w', Below w1.heap.size w1 w' → (⟨ok, oc, ov, oA, oac, ol, oC, occ, ocs⟩ : Opk).Ok w') ∧ Hid ((∀ i, ol ≠ [] → blk oA = some i → i < w1.heap.size) ∧ ∀ i, ocs ≠ [] → blk oC = some i → i < w1.heap.size) ∧ Hid (ol.length = lq) ∧ Hid (ocs.length = cq) ∧ lq ≤ 40 ∧ cq ≤ 40) (k3 : ok = 3)
    {cc : Code} (hc : cc = sub [1, 1, 1, 1, 1, 1, 1, 0, 1, 0, 0, 1, 1, 0, 0, 1, 0, 1] ((Try.f3.body).getD .skip)) {s0 s1 s2 s3 s4 s6 s8 s10 s11 s12 s13 s14 s15 s16 s17 s18 s19 s20 s21 s22 s23 s24 s25 s26 s27 s28 s29 s30 s31 s32 s33 s34 s35 s36 s37 s38 s39 s40 s41 s42 s43 s44 s45 s46 s47 s48 s49 s50 s51 s52 s53 s54 s55 s56 s57 s58 s59 s60 s61 s63 s64 s65 s66 s67 s68 s69 s70 s71 s72 s73 s74 s75 s76 s77 s78 s79 s80 s81 s82 s83 s84 s85 s86 s87 s88 s89 s90 s91 s92 s93 s94 s95 s96 s97 s98 s99 s100 s101 s102 s103 s104 s105 s106 s107 s108 s109 s110 s111 s112 s113 s114 s115 s116 s117 s118 s119 s120 s121 s122 s123 s124 s125 s126 s127 s128 s129 s130 s131 s132 s133 s134 s135 s136 s137 s138 s139 s140 s141 s142 s143 s144 s145 s146 s147 s148 s149 s150 s151 s152 s153 s154 s155 s156 s157 s158 s159 s160 s161 s162 s163 s164 s165 s166 s167 s168 s169 s170 s171 s172 s173 s174 s175 s176 s177 s178 s179 s180 s181 s182 s183 s184 s185 s186 s187 s188 s189 s190 s191 s192 s193 s194 s195 s196 s197 s198 s199 s200 s201 s202 s203 s204 s205 s206 s207 s208 s209 s210 s211 s212 s213 s214 s215 s216 s217 s218 s219 s220 : Value} {Q : Exit → Act → World → Prop}
    (hQ : ∀ (u10 u12 u13 u14 u15 u16 u17 u18 u19 u20 u21 u22 u24 u63 u64 u65 u66 u67 u68 u69 u70 u71 u72 u73 u74 u75 u76 u77 u78 u79 u80 u81 u82 u83 u84 u85 u86 u87 u88 u89 u90 u91 u92 u93 u94 u95 u96 u97 u98 u99 u100 u101 u102 u103 u104 u105 u106 u107 u108 u109 u110 u111 u112 u113 u114 u115 u116 u117 u118 u119 u120 u121 u122 u123 u124 u125 u126 u127 u128 u129 u130 u131 u132 u133 u134 u135 u136 u137 u138 u139 u140 u141 u142 u143 u144 u145 u146 u147 u148 u149 u150 u151 u152 u153 u154 u155 u156 u157 u158 u159 u160 u161 u162 u163 u164 u165 u166 u167 u168 u169 u170 u171 u172 u173 u174 u175 u176 u177 u178 u179 u180 u181 u182 u183 u184 u185 u186 u187 u188 u189 u190 u191 u192 u193 u194 u195 u196 u197 u198 u199 u200 u201 u202 u203 u204 u205 u206 u207 u208 u209 u210 : Value) (w' : World), (∃ R' : Cc, Hid (Cok R') ∧ Hid (Two w1.heap.size w1 w' cb rb gb vs F R' R')) → Q .normal { tmps := List.toArray (s0::s1::s2::s3::s4::.pointer (some ⟨cb, 0, none⟩)::s6::.pointer (some ⟨rb, 0, none⟩)::s8::.pointer (some ⟨gb, 0, none⟩)::u10::s11::u12::u13::u14::u15::u16::u17::u18::u19::u20::u21::u22::s23::u24::s25::s26::s27::s28::s29::s30::s31::s32::s33::s34::s35::s36::s37::s38::s39::s40::s41::s42::s43::s44::s45::s46::s47::s48::s49::s50::s51::s52::s53::s54::s55::s56::s57::s58::s59::s60::s61::.int .i64 ok::u63::u64::u65::u66::u67::u68::u69::u70::u71::u72::u73::u74::u75::u76::u77::u78::u79::u80::u81::u82::u83::u84::u85::u86::u87::u88::u89::u90::u91::u92::u93::u94::u95::u96::u97::u98::u99::u100::u101::u102::u103::u104::u105::u106::u107::u108::u109::u110::u111::u112::u113::u114::u115::u116::u117::u118::u119::u120::u121::u122::u123::u124::u125::u126::u127::u128::u129::u130::u131::u132::u133::u134::u135::u136::u137::u138::u139::u140::u141::u142::u143::u144::u145::u146::u147::u148::u149::u150::u151::u152::u153::u154::u155::u156::u157::u158::u159::u160::u161::u162::u163::u164::u165::u166::u167::u168::u169::u170::u171::u172::u173::u174::u175::u176::u177::u178::u179::u180::u181::u182::u183::u184::u185::u186::u187::u188::u189::u190::u191::u192::u193::u194::u195::u196::u197::u198::u199::u200::u201::u202::u203::u204::u205::u206::u207::u208::u209::u210::s211::s212::s213::s214::s215::s216::s217::s218::s219::s220::[]), defers := [] } w') :
    Code.wp Try.prog cc Q { tmps := List.toArray (s0::s1::s2::s3::s4::.pointer (some ⟨cb, 0, none⟩)::s6::.pointer (some ⟨rb, 0, none⟩)::s8::.pointer (some ⟨gb, 0, none⟩)::s10::s11::s12::s13::s14::s15::s16::s17::s18::s19::s20::s21::s22::s23::s24::s25::s26::s27::s28::s29::s30::s31::s32::s33::s34::s35::s36::s37::s38::s39::s40::s41::s42::s43::s44::s45::s46::s47::s48::s49::s50::s51::s52::s53::s54::s55::s56::s57::s58::s59::s60::s61::.int .i64 ok::s63::s64::s65::s66::s67::s68::s69::s70::s71::s72::s73::s74::s75::s76::s77::s78::s79::s80::s81::s82::s83::s84::s85::s86::s87::s88::s89::s90::s91::s92::s93::s94::s95::s96::s97::s98::s99::s100::s101::s102::s103::s104::s105::s106::s107::s108::s109::s110::s111::s112::s113::s114::s115::s116::s117::s118::s119::s120::s121::s122::s123::s124::s125::s126::s127::s128::s129::s130::s131::s132::s133::s134::s135::s136::s137::s138::s139::s140::s141::s142::s143::s144::s145::s146::s147::s148::s149::s150::s151::s152::s153::s154::s155::s156::s157::s158::s159::s160::s161::s162::s163::s164::s165::s166::s167::s168::s169::s170::s171::s172::s173::s174::s175::s176::s177::s178::s179::s180::s181::s182::s183::s184::s185::s186::s187::s188::s189::s190::s191::s192::s193::s194::s195::s196::s197::s198::s199::s200::s201::s202::s203::s204::s205::s206::s207::s208::s209::s210::s211::s212::s213::s214::s215::s216::s217::s218::s219::s220::[]), defers := [] } we := by
  obtain ⟨HT, HV, HK, HIN, HOBL, HLQ, HCQ, hl40, hc40⟩ := hx
  have HQ := Lib.hid hQ
  clear hQ
  conv at hc => rhs; whnf
  subst hc
  subst k3
  have y1 := HT.out.box.cell HV.out.1
  obtain ⟨A1, c1, A2, c2, hx, hy, hd, hf⟩ := HT.out.ex
  have HAT := Lib.hid (RAt_any hy oc)
  have HY := Lib.hid hy
  clear hx hy hd hf
  rcases atE_spec oc R.l 0 with ⟨h1, h2, h3, h4⟩ | ⟨ii, hii, h1, h2, h3, h4⟩
  · rw [h1] at HAT
    have HSE : Hid (staleE R oc ov = (false, R)) := Lib.hid (by unfold staleE hasE; rw [h2]; rfl)
    have HKF := HK
    clear h1 h2 h3 h4
    go_wp2_with fail
    refine HAT.out.mono ?_
    rintro e5 we ⟨rfl, hwe⟩
    rw [← hwe] at HT HY
    clear hwe y1
    go_upto_region 37 with (fail)
    refine Reg.region_heavy (by kernel_rfl) 20 [21] (cacPl37n ) (fun a => Below we.heap.size we a) (fun a => Below we.heap.size we a) (fun V => [(some 154, V 0), (some 155, V 1), (some 156, V 2), (some 157, V 3), (some 158, V 4), (some 159, V 5), (some 160, V 6), (some 161, V 7), (some 162, V 8), (some 163, V 9), (some 164, V 10), (some 165, V 11), (some 166, V 12), (some 167, V 13), (some 168, V 14), (some 169, V 15), (some 170, V 16), (some 171, V 17), (some 172, V 18), (some 173, V 19), (some 174, V 20), (some 21, V 21)]) (by kernel_rfl) (by kernel_rfl) (by kernel_rfl) (fun V => rfl) ?_ ?_ ?_
    · exact (Below.refl _ _).drew
    · intro i o ho
      have hi : i < 22 := (Array.getElem?_eq_some_iff.1 ho).1
      rcases i with _ | _ | _ | _ | _ | _ | _ | _ | _ | _ | _ | _ | _ | _ | _ | _ | _ | _ | _ | _ | _ | _ | i
      rotate_right
      · omega
      all_goals obtain rfl := Option.some.inj ho
      all_goals intro ρ wi hE hI hs hd
      all_goals try dsimp only at hI
      · have e20 : ρ (.tmp 20) = .int .i64 (-1) := hs 20; exact Reg.gw hI
      · obtain ⟨_, rfl, e154⟩ := hd 0 154; have hc := hE.const; exact Reg.gw hI
      · obtain ⟨_, rfl, e155⟩ := hd 1 155; exact Reg.gw hI
      · exact Reg.no hI
      · exact Reg.no hI
      · exact Reg.no hI
      · exact Reg.no hI
      · exact Reg.no hI
      · exact Reg.no hI
      · exact Reg.no hI
      · exact Reg.no hI
      · exact Reg.no hI
      · exact Reg.no hI
      · exact Reg.no hI
      · obtain ⟨_, rfl, e156⟩ := hd 2 156; obtain ⟨_, rfl, e167⟩ := hd 13 167; have hc := hE.const; exact Reg.gw hI
      · obtain ⟨_, rfl, e168⟩ := hd 14 168; exact Reg.gw hI
      · exact Reg.no hI
      · exact Reg.no hI
      · exact Reg.no hI
      · exact Reg.no hI
      · obtain ⟨_, rfl, e169⟩ := hd 15 169; obtain ⟨_, rfl, e173⟩ := hd 19 173; have hc := hE.const; exact Reg.gw hI
      · obtain ⟨_, rfl, e174⟩ := hd 20 174; exact Reg.gw hI
    · intro V wf hV hI
      have hV21 : V 21 = .bool false := hV 21 (by decide) rfl
      simp only [Reg.putsO, List.foldl_cons, List.foldl_nil, Act.put, List.setIfInBounds_toArray, List.set_cons_succ, List.set_cons_zero, hV21]
      replace hI : (fun a => Below we.heap.size we a) wf := hI
      clear hV hV21
      have HT5 := Lib.hid (HT.out.later hI)
      clear hI
      have HS := Lib.hid (HT5.out.callC (Q := fun x _ => x = .returned (.bool (staleE R oc ov).1)) fun A1 c1 hx => Stale_any hx oc ov)
      rw [HSE.out] at HS
      have y1 := HT5.out.box.cell HV.out.1
      have y2 := HT5.out.box.cell HV.out.2.1
      go_wp2_with fail
      refine HS.out.mono ?_
      rintro e5 w7 ⟨rfl, ht7, _⟩
      have HT7 := Lib.hid ht7
      clear ht7 HS y1 y2
      go_wp2_with fail
      exact HQ.out _ _ _ _ _ _ _ _ _ _ _ _ _ _ _ _ _ _ _ _ _ _ _ _ _ _ _ _ _ _ _ _ _ _ _ _ _ _ _ _ _ _ _ _ _ _ _ _ _ _ _ _ _ _ _ _ _ _ _ _ _ _ _ _ _ _ _ _ _ _ _ _ _ _ _ _ _ _ _ _ _ _ _ _ _ _ _ _ _ _ _ _ _ _ _ _ _ _ _ _ _ _ _ _ _ _ _ _ _ _ _ _ _ _ _ _ _ _ _ _ _ _ _ _ _ _ _ _ _ _ _ _ _ _ _ _ _ _ _ _ _ _ _ _ _ _ _ _ _ _ _ _ _ _ _ _ _ _ _ _ _ _ ⟨_, HKF, HT7⟩
  · rw [Nat.zero_add] at h1
    rw [h1] at HAT
    obtain ⟨n, hn⟩ : ∃ n, R.l.length = n := ⟨_, rfl⟩
    have HI : Hid (ii < n) := Lib.hid (by omega)
    have HII := Lib.hid hii
    obtain ⟨g, rfl, hrg, _⟩ := HY.out.at hii
    obtain ⟨e, he⟩ : ∃ e, R.l[ii] = e := ⟨_, rfl⟩
    have HN := Lib.hid hn
    have HEE : Hid (∀ q : ii < R.l.length, R.l[ii]'q = e) := Lib.hid fun _ => he
    obtain ⟨ac, hac⟩ : ∃ ac, c2 = ac := ⟨_, rfl⟩
    have HAC := Lib.hid hac
    have hgd : getD0 oc R.l = e := by unfold getD0; rw [h2, ← he]; rfl
    have hha : hasE oc R.l = true := by unfold hasE; rw [h2]; rfl
    obtain ⟨ev, hev⟩ : ∃ ev, e.ver = ev := ⟨_, rfl⟩
    have HEV := Lib.hid hev
    by_cases hlt : e.ver < ov
    · obtain ⟨D1, hD1⟩ : ∃ D1 : Cc, ({ R with l := delE oc R.l } : Cc) = D1 := ⟨_, rfl⟩
      have HSE : Hid (staleE R oc ov = (true, D1)) := Lib.hid (by unfold staleE; rw [hgd, hha, if_pos ⟨rfl, hlt⟩, hD1])
      have HLS : Hid (decide (ev < ov) = true) := Lib.hid (by rw [← hev]; simpa using hlt)
      have HKF : Hid (Cok D1) := Lib.hid (by rw [← hD1]; exact HK.out.del oc)
      have HDC : Hid (hasE oc R.l = true ∧ (dropE R oc).2 = D1) := Lib.hid ⟨hha, by rw [← hD1]; rfl⟩
      clear h1 h2 h3 h4 hrg he hn hac hgd hha hlt hD1 hev hii
      go_wp2_with fail
      refine HAT.out.mono ?_
      rintro e5 we ⟨rfl, hwe⟩
      rw [← hwe] at HT HY
      have HR1 : Hid (∀ wi, Below we.heap.size we wi → wi.cell? ⟨rb, 1, none⟩ = some (.slice (some ⟨g, 0, none⟩) n ac)) := Lib.hid fun wi hb => by
        have h1 := (HY.out.later hb).cel.cell (j := 1) rfl
        rw [HN.out, HAC.out] at h1
        exact h1
      have HT0 : Hid (∀ wi, Below we.heap.size we wi → wi.rangeAt g (ii * 4) [.int .i64 e.cell, .int .i64 ev, .int .i64 e.val, .int .i64 e.frm]) := Lib.hid fun wi hb => by
        obtain ⟨g', e1, h1, _⟩ := HY.out.at HII.out
        obtain rfl : g = g' := by simpa using e1
        rw [HEE.out HII.out] at h1
        rw [← HEV.out]
        exact range_later h1 hb
      have HG1 : Hid (∀ wi, Below we.heap.size we wi → wi.cell? ⟨gb, 1, none⟩ = some (.int .i64 oc)) := Lib.hid fun wi hb => (HT.out.later hb).box.cell HV.out.1
      have HG2 : Hid (∀ wi, Below we.heap.size we wi → wi.cell? ⟨gb, 2, none⟩ = some (.int .i64 ov)) := Lib.hid fun wi hb => (HT.out.later hb).box.cell HV.out.2.1
      have HDR : Hid (∀ wi, Below we.heap.size we wi → Calls Try.prog 16 #[.pointer (some ⟨rb, 0, none⟩), .int .i64 oc] wi fun x w' => x = .returned (.bool true) ∧ Two w1.heap.size w1 w' cb rb gb vs F R D1) := Lib.hid fun wi hb => by
        have hT := HT.out.later hb
        refine (hT.callR (Q := fun x _ => x = .returned (.bool (hasE oc R.l))) fun A2 c2 hx => RDrop_any hx oc hT.big).mono ?_
        rintro x w' ⟨q1, q2, _⟩
        rw [HDC.out.1] at q1
        rw [HDC.out.2] at q2
        exact ⟨q1, q2⟩
      clear hwe y1
      go_upto_region 37 with (fail)
      refine Reg.region_inv (by kernel_rfl) (fun i => ([some (.int .i64 (ii : Int)), some (.bool true), some (.bool true), some (.pointer (some ⟨rb, 0, none⟩)), some (.pointer (some ⟨rb, 0, none⟩)), some (.pointer (some ⟨rb, 1, none⟩)), some (.slice (some ⟨g, 0, none⟩) n ac), some (.int .i64 (ii : Int)), some (.pointer (some ⟨g, ii * 4, none⟩)), some (.pointer (some ⟨g, ii * 4 + 1, none⟩)), some (.int .i64 ev), some (.pointer (some ⟨gb, 2, none⟩)), some (.int .i64 ov), some (.bool true), some (.bool true), some (.bool true), some (.pointer (some ⟨rb, 0, none⟩)), some (.pointer (some ⟨gb, 1, none⟩)), some (.int .i64 oc), some (.bool true), some (.bool true), some (.bool true)] : List (Option Value)).getD i none) (fun D V W => (D 19 = false → Below we.heap.size we W) ∧ (D 19 = true → Two w1.heap.size w1 W cb rb gb vs F R D1)) (fun V => [(some 154, V 0), (some 155, V 1), (some 156, V 2), (some 157, V 3), (some 158, V 4), (some 159, V 5), (some 160, V 6), (some 161, V 7), (some 162, V 8), (some 163, V 9), (some 164, V 10), (some 165, V 11), (some 166, V 12), (some 167, V 13), (some 168, V 14), (some 169, V 15), (some 170, V 16), (some 171, V 17), (some 172, V 18), (some 173, V 19), (some 174, V 20), (some 21, V 21)]) (by kernel_rfl) (by kernel_rfl) (fun V => rfl) ?_ ?_ ?_
      · intro V
        exact ⟨fun _ => (Below.refl _ _).drew, fun e => (by cases e)⟩
      · intro i o ho
        have hi : i < 22 := (Array.getElem?_eq_some_iff.1 ho).1
        rcases i with _ | _ | _ | _ | _ | _ | _ | _ | _ | _ | _ | _ | _ | _ | _ | _ | _ | _ | _ | _ | _ | _ | i
        rotate_right
        · omega
        all_goals obtain rfl := Option.some.inj ho
        all_goals intro D V ρ wi hE hI hDi hT hF hs hd hk
        · have e20 : ρ (.tmp 20) = .int .i64 (ii : Int) := hs 20; clear hT hF hk
          exact Reg.Gives.value (v := .int .i64 (ii : Int)) (w' := wi) (by go_simp) ⟨fun x h => Option.some.inj h, hI⟩
        · have e154 : ρ (.tmp 154) = .int .i64 (ii : Int) := (hd 0 154).trans (hk 0 _ rfl); have hc := hE.const; clear hT hF
          have z1 : decide ((ii : Int) ≥ 0) = true := by simp
          exact Reg.Gives.value (v := .bool true) (w' := wi) (by go_simp) ⟨fun x h => Option.some.inj h, hI⟩
        · have e155 : ρ (.tmp 155) = .bool true := (hd 1 155).trans (hk 1 _ rfl); clear hT hF hk
          exact Reg.Gives.value (v := .bool true) (w' := wi) (by go_simp) ⟨fun x h => Option.some.inj h, hI⟩
        · have e7 : ρ (.tmp 7) = .pointer (some ⟨rb, 0, none⟩) := hs 7; have hgd : V 2 = .bool true := hk 2 _ rfl
          refine ⟨fun _ => ?_, fun h => absurd hgd h⟩
          clear hT hF hk
          exact Reg.Gives.value (v := .pointer (some ⟨rb, 0, none⟩)) (w' := wi) (by go_simp) ⟨fun x h => Option.some.inj h, hI⟩
        · have e157 : ρ (.tmp 157) = .pointer (some ⟨rb, 0, none⟩) := (hd 3 157).trans (hk 3 _ rfl); have hgd : V 2 = .bool true := hk 2 _ rfl
          refine ⟨fun _ => ?_, fun h => absurd hgd h⟩
          clear hT hF hk
          exact Reg.Gives.value (v := .pointer (some ⟨rb, 0, none⟩)) (w' := wi) (by go_simp) ⟨fun x h => Option.some.inj h, hI⟩
        · have e158 : ρ (.tmp 158) = .pointer (some ⟨rb, 0, none⟩) := (hd 4 158).trans (hk 4 _ rfl); have hgd : V 2 = .bool true := hk 2 _ rfl
          refine ⟨fun _ => ?_, fun h => absurd hgd h⟩
          clear hT hF hk
          exact Reg.Gives.value (v := .pointer (some ⟨rb, 1, none⟩)) (w' := wi) (by go_simp) ⟨fun x h => Option.some.inj h, hI⟩
        · have e159 : ρ (.tmp 159) = .pointer (some ⟨rb, 1, none⟩) := (hd 5 159).trans (hk 5 _ rfl); have hgd : V 2 = .bool true := hk 2 _ rfl
          refine ⟨fun _ => ?_, fun h => absurd hgd h⟩
          have hD19 : D 19 = false := hF 7 19; clear hT hF; have hL : Below we.heap.size we wi := hI.1 hD19; have x0 := HR1.out _ hL
          exact Reg.Gives.value (v := .slice (some ⟨g, 0, none⟩) n ac) (w' := wi) (by go_simp) ⟨fun x h => Option.some.inj h, hI⟩
        · have e20 : ρ (.tmp 20) = .int .i64 (ii : Int) := hs 20; have hgd : V 2 = .bool true := hk 2 _ rfl
          refine ⟨fun _ => ?_, fun h => absurd hgd h⟩
          clear hT hF hk
          exact Reg.Gives.value (v := .int .i64 (ii : Int)) (w' := wi) (by go_simp) ⟨fun x h => Option.some.inj h, hI⟩
        · have e160 : ρ (.tmp 160) = .slice (some ⟨g, 0, none⟩) n ac := (hd 6 160).trans (hk 6 _ rfl); have e161 : ρ (.tmp 161) = .int .i64 (ii : Int) := (hd 7 161).trans (hk 7 _ rfl); have hgd : V 2 = .bool true := hk 2 _ rfl
          refine ⟨fun _ => ?_, fun h => absurd hgd h⟩
          clear hT hF
          have z1 : (0 : Int) ≤ (ii : Int) := by omega
          have z2 : (ii : Int) < (n : Int) := by have := HI.out; omega
          have z3 : ii < n := HI.out
          exact Reg.Gives.value (v := .pointer (some ⟨g, ii * 4, none⟩)) (w' := wi) (by go_simp) ⟨fun x h => Option.some.inj h, hI⟩
        · have e162 : ρ (.tmp 162) = .pointer (some ⟨g, ii * 4, none⟩) := (hd 8 162).trans (hk 8 _ rfl); have hgd : V 2 = .bool true := hk 2 _ rfl
          refine ⟨fun _ => ?_, fun h => absurd hgd h⟩
          clear hT hF hk
          exact Reg.Gives.value (v := .pointer (some ⟨g, ii * 4 + 1, none⟩)) (w' := wi) (by go_simp) ⟨fun x h => Option.some.inj h, hI⟩
        · have e163 : ρ (.tmp 163) = .pointer (some ⟨g, ii * 4 + 1, none⟩) := (hd 9 163).trans (hk 9 _ rfl); have hgd : V 2 = .bool true := hk 2 _ rfl
          refine ⟨fun _ => ?_, fun h => absurd hgd h⟩
          have hD19 : D 19 = false := hF 4 19; clear hT hF; have hL : Below we.heap.size we wi := hI.1 hD19; have q1 := HT0.out _ hL 1 _ rfl
          exact Reg.Gives.value (v := .int .i64 ev) (w' := wi) (by go_simp) ⟨fun x h => Option.some.inj h, hI⟩
        · have e9 : ρ (.tmp 9) = .pointer (some ⟨gb, 0, none⟩) := hs 9; have hgd : V 2 = .bool true := hk 2 _ rfl
          refine ⟨fun _ => ?_, fun h => absurd hgd h⟩
          clear hT hF hk
          exact Reg.Gives.value (v := .pointer (some ⟨gb, 2, none⟩)) (w' := wi) (by go_simp) ⟨fun x h => Option.some.inj h, hI⟩
        · have e165 : ρ (.tmp 165) = .pointer (some ⟨gb, 2, none⟩) := (hd 11 165).trans (hk 11 _ rfl); have hgd : V 2 = .bool true := hk 2 _ rfl
          refine ⟨fun _ => ?_, fun h => absurd hgd h⟩
          have hD19 : D 19 = false := hF 4 19; clear hT hF; have hL : Below we.heap.size we wi := hI.1 hD19; have y2 := HG2.out _ hL
          exact Reg.Gives.value (v := .int .i64 ov) (w' := wi) (by go_simp) ⟨fun x h => Option.some.inj h, hI⟩
        · have e164 : ρ (.tmp 164) = .int .i64 ev := (hd 10 164).trans (hk 10 _ rfl); have e166 : ρ (.tmp 166) = .int .i64 ov := (hd 12 166).trans (hk 12 _ rfl); have hgd : V 2 = .bool true := hk 2 _ rfl
          refine ⟨fun _ => ?_, fun h => absurd hgd h⟩
          clear hT hF; have z1 := HLS.out
          exact Reg.Gives.value (v := .bool true) (w' := wi) (by go_simp) ⟨fun x h => Option.some.inj h, hI⟩
        · have e156 : ρ (.tmp 156) = .bool true := (hd 2 156).trans (hk 2 _ rfl); have e167 : ρ (.tmp 167) = .bool true := (hd 13 167).trans (hk 13 _ rfl); have hc := hE.const; clear hT hF hk
          exact Reg.Gives.value (v := .bool true) (w' := wi) (by go_simp) ⟨fun x h => Option.some.inj h, hI⟩
        · have e168 : ρ (.tmp 168) = .bool true := (hd 14 168).trans (hk 14 _ rfl); clear hT hF hk
          exact Reg.Gives.value (v := .bool true) (w' := wi) (by go_simp) ⟨fun x h => Option.some.inj h, hI⟩
        · have e7 : ρ (.tmp 7) = .pointer (some ⟨rb, 0, none⟩) := hs 7; have hgd : V 15 = .bool true := hk 15 _ rfl
          refine ⟨fun _ => ?_, fun h => absurd hgd h⟩
          clear hT hF hk
          exact Reg.Gives.value (v := .pointer (some ⟨rb, 0, none⟩)) (w' := wi) (by go_simp) ⟨fun x h => Option.some.inj h, hI⟩
        · have e9 : ρ (.tmp 9) = .pointer (some ⟨gb, 0, none⟩) := hs 9; have hgd : V 15 = .bool true := hk 15 _ rfl
          refine ⟨fun _ => ?_, fun h => absurd hgd h⟩
          clear hT hF hk
          exact Reg.Gives.value (v := .pointer (some ⟨gb, 1, none⟩)) (w' := wi) (by go_simp) ⟨fun x h => Option.some.inj h, hI⟩
        · have e171 : ρ (.tmp 171) = .pointer (some ⟨gb, 1, none⟩) := (hd 17 171).trans (hk 17 _ rfl); have hgd : V 15 = .bool true := hk 15 _ rfl
          refine ⟨fun _ => ?_, fun h => absurd hgd h⟩
          have hD19 : D 19 = false := hF 1 19; clear hT hF; have hL : Below we.heap.size we wi := hI.1 hD19; have y1 := HG1.out _ hL
          exact Reg.Gives.value (v := .int .i64 oc) (w' := wi) (by go_simp) ⟨fun x h => Option.some.inj h, hI⟩
        · have e170 : ρ (.tmp 170) = .pointer (some ⟨rb, 0, none⟩) := (hd 16 170).trans (hk 16 _ rfl); have e172 : ρ (.tmp 172) = .int .i64 oc := (hd 18 172).trans (hk 18 _ rfl); have hf := hE.func; have hgd : V 15 = .bool true := hk 15 _ rfl
          refine ⟨fun _ => ?_, fun h => absurd hgd h⟩
          have hD19 : D 19 = false := hDi; clear hT hF; have hL : Below we.heap.size we wi := hI.1 hD19
          refine Reg.Gives.call (f := 16) (args := #[.pointer (some ⟨rb, 0, none⟩), .int .i64 oc]) (w' := wi) (by go_simp) ?_
          refine (HDR.out wi hL).mono ?_
          rintro e w'' ⟨rfl, hn⟩
          exact ⟨_, rfl, fun x h => Option.some.inj h, by show (true = false → Below we.heap.size we w'') ∧ (true = true → Two w1.heap.size w1 w'' cb rb gb vs F R D1); exact ⟨fun e => (by cases e), fun _ => hn⟩⟩
        · have e169 : ρ (.tmp 169) = .bool true := (hd 15 169).trans (hk 15 _ rfl); have e173 : ρ (.tmp 173) = .bool true := (hd 19 173).trans (hk 19 _ rfl); have hc := hE.const; clear hT hF hk
          exact Reg.Gives.value (v := .bool true) (w' := wi) (by go_simp) ⟨fun x h => Option.some.inj h, hI⟩
        · have e174 : ρ (.tmp 174) = .bool true := (hd 20 174).trans (hk 20 _ rfl); clear hT hF hk
          exact Reg.Gives.value (v := .bool true) (w' := wi) (by go_simp) ⟨fun x h => Option.some.inj h, hI⟩
      · intro V wf hk hI
        have hV21 : V 21 = .bool true := hk 21 (by show _ < 22; decide) _ rfl
        simp only [Reg.putsO, List.foldl_cons, List.foldl_nil, Act.put, List.setIfInBounds_toArray, List.set_cons_succ, List.set_cons_zero, hV21]
        replace hI : ((fun _ => true) 19 = false → Below we.heap.size we wf) ∧ ((fun _ => true) 19 = true → Two w1.heap.size w1 wf cb rb gb vs F R D1) := hI
        clear hk hV21
        have HT5 := Lib.hid (hI.2 rfl)
        clear hI
        have HS := Lib.hid (HT5.out.callC (Q := fun x _ => x = .returned (.bool (staleE R oc ov).1)) fun A1 c1 hx => Stale_any hx oc ov)
        rw [HSE.out] at HS
        have y1 := HT5.out.box.cell HV.out.1
        have y2 := HT5.out.box.cell HV.out.2.1
        go_wp2_with fail
        refine HS.out.mono ?_
        rintro e5 w7 ⟨rfl, ht7, _⟩
        have HT7 := Lib.hid ht7
        clear ht7 HS y1 y2
        go_wp2_with fail
        exact HQ.out _ _ _ _ _ _ _ _ _ _ _ _ _ _ _ _ _ _ _ _ _ _ _ _ _ _ _ _ _ _ _ _ _ _ _ _ _ _ _ _ _ _ _ _ _ _ _ _ _ _ _ _ _ _ _ _ _ _ _ _ _ _ _ _ _ _ _ _ _ _ _ _ _ _ _ _ _ _ _ _ _ _ _ _ _ _ _ _ _ _ _ _ _ _ _ _ _ _ _ _ _ _ _ _ _ _ _ _ _ _ _ _ _ _ _ _ _ _ _ _ _ _ _ _ _ _ _ _ _ _ _ _ _ _ _ _ _ _ _ _ _ _ _ _ _ _ _ _ _ _ _ _ _ _ _ _ _ _ _ _ _ _ ⟨_, HKF, HT7⟩
    · have HSE : Hid (staleE R oc ov = (false, R)) := Lib.hid (by unfold staleE; rw [hgd, if_neg (fun q => hlt q.2)])
      have HLS : Hid (decide (ev < ov) = false) := Lib.hid (by rw [← hev]; simpa using hlt)
      have HKF := HK
      clear h1 h2 h3 h4 hrg he hn hac hgd hha hlt hev hii
      go_wp2_with fail
      refine HAT.out.mono ?_
      rintro e5 we ⟨rfl, hwe⟩
      rw [← hwe] at HT HY
      have HR1 : Hid (∀ wi, Below we.heap.size we wi → wi.cell? ⟨rb, 1, none⟩ = some (.slice (some ⟨g, 0, none⟩) n ac)) := Lib.hid fun wi hb => by
        have h1 := (HY.out.later hb).cel.cell (j := 1) rfl
        rw [HN.out, HAC.out] at h1
        exact h1
      have HT0 : Hid (∀ wi, Below we.heap.size we wi → wi.rangeAt g (ii * 4) [.int .i64 e.cell, .int .i64 ev, .int .i64 e.val, .int .i64 e.frm]) := Lib.hid fun wi hb => by
        obtain ⟨g', e1, h1, _⟩ := HY.out.at HII.out
        obtain rfl : g = g' := by simpa using e1
        rw [HEE.out HII.out] at h1
        rw [← HEV.out]
        exact range_later h1 hb
      have HG1 : Hid (∀ wi, Below we.heap.size we wi → wi.cell? ⟨gb, 1, none⟩ = some (.int .i64 oc)) := Lib.hid fun wi hb => (HT.out.later hb).box.cell HV.out.1
      have HG2 : Hid (∀ wi, Below we.heap.size we wi → wi.cell? ⟨gb, 2, none⟩ = some (.int .i64 ov)) := Lib.hid fun wi hb => (HT.out.later hb).box.cell HV.out.2.1
      clear hwe y1
      go_upto_region 37 with (fail)
      refine Reg.region_heavy (by kernel_rfl) 20 [21] (cacPl37k rb gb g n ac ii ov ev) (fun a => Below we.heap.size we a) (fun a => Below we.heap.size we a) (fun V => [(some 154, V 0), (some 155, V 1), (some 156, V 2), (some 157, V 3), (some 158, V 4), (some 159, V 5), (some 160, V 6), (some 161, V 7), (some 162, V 8), (some 163, V 9), (some 164, V 10), (some 165, V 11), (some 166, V 12), (some 167, V 13), (some 168, V 14), (some 169, V 15), (some 170, V 16), (some 171, V 17), (some 172, V 18), (some 173, V 19), (some 174, V 20), (some 21, V 21)]) (by kernel_rfl) (by kernel_rfl) (by kernel_rfl) (fun V => rfl) ?_ ?_ ?_
      · exact (Below.refl _ _).drew
      · intro i o ho
        have hi : i < 22 := (Array.getElem?_eq_some_iff.1 ho).1
        rcases i with _ | _ | _ | _ | _ | _ | _ | _ | _ | _ | _ | _ | _ | _ | _ | _ | _ | _ | _ | _ | _ | _ | i
        rotate_right
        · omega
        all_goals obtain rfl := Option.some.inj ho
        all_goals intro ρ wi hE hI hs hd
        all_goals try dsimp only at hI
        · have e20 : ρ (.tmp 20) = .int .i64 (ii : Int) := hs 20; exact Reg.gw hI
        · obtain ⟨_, rfl, e154⟩ := hd 0 154; have hc := hE.const
          have z1 : decide ((ii : Int) ≥ 0) = true := by simp
          exact Reg.gw hI
        · obtain ⟨_, rfl, e155⟩ := hd 1 155; exact Reg.gw hI
        · have e7 : ρ (.tmp 7) = .pointer (some ⟨rb, 0, none⟩) := hs 7
          refine Reg.yes ?_
          exact Reg.gw hI
        · obtain ⟨_, rfl, e157⟩ := hd 3 157
          refine Reg.yes ?_
          exact Reg.gw hI
        · obtain ⟨_, rfl, e158⟩ := hd 4 158
          refine Reg.yes ?_
          exact Reg.gw hI
        · obtain ⟨_, rfl, e159⟩ := hd 5 159
          refine Reg.yes ?_
          have x0 := HR1.out _ hI; exact Reg.gw hI
        · have e20 : ρ (.tmp 20) = .int .i64 (ii : Int) := hs 20
          refine Reg.yes ?_
          exact Reg.gw hI
        · obtain ⟨_, rfl, e160⟩ := hd 6 160; obtain ⟨_, rfl, e161⟩ := hd 7 161
          refine Reg.yes ?_
          have z1 : (0 : Int) ≤ (ii : Int) := by omega
          have z2 : (ii : Int) < (n : Int) := by have := HI.out; omega
          have z3 : ii < n := HI.out; exact Reg.gw hI
        · obtain ⟨_, rfl, e162⟩ := hd 8 162
          refine Reg.yes ?_
          exact Reg.gw hI
        · obtain ⟨_, rfl, e163⟩ := hd 9 163
          refine Reg.yes ?_
          have q1 := HT0.out _ hI 1 _ rfl; exact Reg.gw hI
        · have e9 : ρ (.tmp 9) = .pointer (some ⟨gb, 0, none⟩) := hs 9
          refine Reg.yes ?_
          exact Reg.gw hI
        · obtain ⟨_, rfl, e165⟩ := hd 11 165
          refine Reg.yes ?_
          have y2 := HG2.out _ hI; exact Reg.gw hI
        · obtain ⟨_, rfl, e164⟩ := hd 10 164; obtain ⟨_, rfl, e166⟩ := hd 12 166
          refine Reg.yes ?_
          have z1 := HLS.out; exact Reg.gw hI
        · obtain ⟨_, rfl, e156⟩ := hd 2 156; obtain ⟨_, rfl, e167⟩ := hd 13 167; have hc := hE.const; exact Reg.gw hI
        · obtain ⟨_, rfl, e168⟩ := hd 14 168; exact Reg.gw hI
        · exact Reg.no hI
        · exact Reg.no hI
        · exact Reg.no hI
        · exact Reg.no hI
        · obtain ⟨_, rfl, e169⟩ := hd 15 169; obtain ⟨_, rfl, e173⟩ := hd 19 173; have hc := hE.const; exact Reg.gw hI
        · obtain ⟨_, rfl, e174⟩ := hd 20 174; exact Reg.gw hI
      · intro V wf hV hI
        have hV21 : V 21 = .bool false := hV 21 (by decide) rfl
        simp only [Reg.putsO, List.foldl_cons, List.foldl_nil, Act.put, List.setIfInBounds_toArray, List.set_cons_succ, List.set_cons_zero, hV21]
        replace hI : (fun a => Below we.heap.size we a) wf := hI
        clear hV hV21
        have HT5 := Lib.hid (HT.out.later hI)
        clear hI
        have HS := Lib.hid (HT5.out.callC (Q := fun x _ => x = .returned (.bool (staleE R oc ov).1)) fun A1 c1 hx => Stale_any hx oc ov)
        rw [HSE.out] at HS
        have y1 := HT5.out.box.cell HV.out.1
        have y2 := HT5.out.box.cell HV.out.2.1
        go_wp2_with fail
        refine HS.out.mono ?_
        rintro e5 w7 ⟨rfl, ht7, _⟩
        have HT7 := Lib.hid ht7
        clear ht7 HS y1 y2
        go_wp2_with fail
        exact HQ.out _ _ _ _ _ _ _ _ _ _ _ _ _ _ _ _ _ _ _ _ _ _ _ _ _ _ _ _ _ _ _ _ _ _ _ _ _ _ _ _ _ _ _ _ _ _ _ _ _ _ _ _ _ _ _ _ _ _ _ _ _ _ _ _ _ _ _ _ _ _ _ _ _ _ _ _ _ _ _ _ _ _ _ _ _ _ _ _ _ _ _ _ _ _ _ _ _ _ _ _ _ _ _ _ _ _ _ _ _ _ _ _ _ _ _ _ _ _ _ _ _ _ _ _ _ _ _ _ _ _ _ _ _ _ _ _ _ _ _ _ _ _ _ _ _ _ _ _ _ _ _ _ _ _ _ _ _ _ _ _ _ _ ⟨_, HKF, HT7⟩
end Go.Proofs.Yteedlenelfidcaa.CachePlays
