/-
  Layer 17, CachePlays: what kind 1 does, on both sides. Conditions: none.
-/
import Derived.Test.YteedlenelfidcaaCacDuo
import Derived.Test.YteedlenelfidcaaSub
namespace Go.Proofs.Yteedlenelfidcaa.CachePlays
set_option maxRecDepth 100000
open Go.ChangeShapes Go.WideShapes Go.ChangeAt Go.RowKit Go.Deep Go.Proofs.Yteedlenelfidcaa.Mem Go.Proofs.Yteedlenelfidcaa.Cac

set_option maxHeartbeats 4000000 in
theorem sw1 {w1 we : World} {cb rb gb lq cq oac occ : Nat} {vs : List Value} {F : Nat → Prop} {R : Cc} {ok oc ov : Int} {oA oC : Option Addr} {ol : List En} {ocs : List Int} (hx : Hid (Two w1.heap.size w1 we cb rb gb vs F R R) ∧ Hid (vs[1]? = some (.int .i64 oc) ∧ vs[2]? = some (.int .i64 ov) ∧ vs[3]? = some (.slice oA lq oac) ∧ vs[4]? = some (.slice oC cq occ)) ∧ Hid (Cok R) ∧ Hid (∀ w', Below w1.heap.size w1 w' → (⟨ok, oc, ov, oA, oac, ol, oC, occ, ocs⟩ : Opk).Ok w') ∧ Hid ((∀ i, ol ≠ [] → blk oA = some i → i < w1.heap.size) ∧ ∀ i, ocs ≠ [] → blk oC = some i → i < w1.heap.size) ∧ Hid (ol.length = lq) ∧ Hid (ocs.length = cq) ∧ lq ≤ 40 ∧ cq ≤ 40) (k1 : ok = 1)
    {cc : Code} (hc : cc = sub [1, 1, 1, 1, 1, 1, 1, 0, 1, 0, 0, 1, 1, 0, 0, 1, 0, 1] ((Try.f3.body).getD .skip)) {s0 s1 s2 s3 s4 s6 s8 s10 s11 s12 s13 s14 s15 s16 s17 s18 s19 s20 s21 s22 s23 s24 s25 s26 s27 s28 s29 s30 s31 s32 s33 s34 s35 s36 s37 s38 s39 s40 s41 s42 s43 s44 s45 s46 s47 s48 s49 s50 s51 s52 s53 s54 s55 s56 s57 s58 s59 s60 s61 s63 s64 s65 s66 s67 s68 s69 s70 s71 s72 s73 s74 s75 s76 s77 s78 s79 s80 s81 s82 s83 s84 s85 s86 s87 s88 s89 s90 s91 s92 s93 s94 s95 s96 s97 s98 s99 s100 s101 s102 s103 s104 s105 s106 s107 s108 s109 s110 s111 s112 s113 s114 s115 s116 s117 s118 s119 s120 s121 s122 s123 s124 s125 s126 s127 s128 s129 s130 s131 s132 s133 s134 s135 s136 s137 s138 s139 s140 s141 s142 s143 s144 s145 s146 s147 s148 s149 s150 s151 s152 s153 s154 s155 s156 s157 s158 s159 s160 s161 s162 s163 s164 s165 s166 s167 s168 s169 s170 s171 s172 s173 s174 s175 s176 s177 s178 s179 s180 s181 s182 s183 s184 s185 s186 s187 s188 s189 s190 s191 s192 s193 s194 s195 s196 s197 s198 s199 s200 s201 s202 s203 s204 s205 s206 s207 s208 s209 s210 s211 s212 s213 s214 s215 s216 s217 s218 s219 s220 : Value} {Q : Exit → Act → World → Prop}
    (hQ : ∀ (u10 u12 u13 u14 u15 u16 u17 u18 u19 u20 u21 u22 u24 u63 u64 u65 u66 u67 u68 u69 u70 u71 u72 u73 u74 u75 u76 u77 u78 u79 u80 u81 u82 u83 u84 u85 u86 u87 u88 u89 u90 u91 u92 u93 u94 u95 u96 u97 u98 u99 u100 u101 u102 u103 u104 u105 u106 u107 u108 u109 u110 u111 u112 u113 u114 u115 u116 u117 u118 u119 u120 u121 u122 u123 u124 u125 u126 u127 u128 u129 u130 u131 u132 u133 u134 u135 u136 u137 u138 u139 u140 u141 u142 u143 u144 u145 u146 u147 u148 u149 u150 u151 u152 u153 u154 u155 u156 u157 u158 u159 u160 u161 u162 u163 u164 u165 u166 u167 u168 u169 u170 u171 u172 u173 u174 u175 u176 u177 u178 u179 u180 u181 u182 u183 u184 u185 u186 u187 u188 u189 u190 u191 u192 u193 u194 u195 u196 u197 u198 u199 u200 u201 u202 u203 u204 u205 u206 u207 u208 u209 u210 : Value) (w' : World), (∃ R' : Cc, Hid (Cok R') ∧ Hid (Two w1.heap.size w1 w' cb rb gb vs F R' R')) → Q .normal { tmps := List.toArray (s0::s1::s2::s3::s4::.pointer (some ⟨cb, 0, none⟩)::s6::.pointer (some ⟨rb, 0, none⟩)::s8::.pointer (some ⟨gb, 0, none⟩)::u10::s11::u12::u13::u14::u15::u16::u17::u18::u19::u20::u21::u22::s23::u24::s25::s26::s27::s28::s29::s30::s31::s32::s33::s34::s35::s36::s37::s38::s39::s40::s41::s42::s43::s44::s45::s46::s47::s48::s49::s50::s51::s52::s53::s54::s55::s56::s57::s58::s59::s60::s61::.int .i64 ok::u63::u64::u65::u66::u67::u68::u69::u70::u71::u72::u73::u74::u75::u76::u77::u78::u79::u80::u81::u82::u83::u84::u85::u86::u87::u88::u89::u90::u91::u92::u93::u94::u95::u96::u97::u98::u99::u100::u101::u102::u103::u104::u105::u106::u107::u108::u109::u110::u111::u112::u113::u114::u115::u116::u117::u118::u119::u120::u121::u122::u123::u124::u125::u126::u127::u128::u129::u130::u131::u132::u133::u134::u135::u136::u137::u138::u139::u140::u141::u142::u143::u144::u145::u146::u147::u148::u149::u150::u151::u152::u153::u154::u155::u156::u157::u158::u159::u160::u161::u162::u163::u164::u165::u166::u167::u168::u169::u170::u171::u172::u173::u174::u175::u176::u177::u178::u179::u180::u181::u182::u183::u184::u185::u186::u187::u188::u189::u190::u191::u192::u193::u194::u195::u196::u197::u198::u199::u200::u201::u202::u203::u204::u205::u206::u207::u208::u209::u210::s211::s212::s213::s214::s215::s216::s217::s218::s219::s220::[]), defers := [] } w') :
    Code.wp Try.prog cc Q { tmps := List.toArray (s0::s1::s2::s3::s4::.pointer (some ⟨cb, 0, none⟩)::s6::.pointer (some ⟨rb, 0, none⟩)::s8::.pointer (some ⟨gb, 0, none⟩)::s10::s11::s12::s13::s14::s15::s16::s17::s18::s19::s20::s21::s22::s23::s24::s25::s26::s27::s28::s29::s30::s31::s32::s33::s34::s35::s36::s37::s38::s39::s40::s41::s42::s43::s44::s45::s46::s47::s48::s49::s50::s51::s52::s53::s54::s55::s56::s57::s58::s59::s60::s61::.int .i64 ok::s63::s64::s65::s66::s67::s68::s69::s70::s71::s72::s73::s74::s75::s76::s77::s78::s79::s80::s81::s82::s83::s84::s85::s86::s87::s88::s89::s90::s91::s92::s93::s94::s95::s96::s97::s98::s99::s100::s101::s102::s103::s104::s105::s106::s107::s108::s109::s110::s111::s112::s113::s114::s115::s116::s117::s118::s119::s120::s121::s122::s123::s124::s125::s126::s127::s128::s129::s130::s131::s132::s133::s134::s135::s136::s137::s138::s139::s140::s141::s142::s143::s144::s145::s146::s147::s148::s149::s150::s151::s152::s153::s154::s155::s156::s157::s158::s159::s160::s161::s162::s163::s164::s165::s166::s167::s168::s169::s170::s171::s172::s173::s174::s175::s176::s177::s178::s179::s180::s181::s182::s183::s184::s185::s186::s187::s188::s189::s190::s191::s192::s193::s194::s195::s196::s197::s198::s199::s200::s201::s202::s203::s204::s205::s206::s207::s208::s209::s210::s211::s212::s213::s214::s215::s216::s217::s218::s219::s220::[]), defers := [] } we := by
  obtain ⟨HT, HV, HK, HIN, HOBL, HLQ, HCQ, hl40, hc40⟩ := hx
  have HQ := Lib.hid hQ
  clear hQ
  conv at hc => rhs; whnf
  subst hc
  subst k1
  have y1 := HT.out.box.cell HV.out.1
  have HKF := Lib.hid (HK.out.use oc)
  obtain ⟨e, he⟩ : ∃ e, getD0 oc R.l = e := ⟨_, rfl⟩
  obtain ⟨hb, hhb⟩ : ∃ b, hasE oc R.l = b := ⟨_, rfl⟩
  have HGC := Lib.hid (HT.out.callC (Q := fun x _ => x = .returned (.tuple #[(getD0 oc R.l).v, .bool (hasE oc R.l)])) fun A1 c1 hx => Get_any hx oc HT.out.big HK.out)
  have HE := Lib.hid he
  have HHB := Lib.hid hhb
  rw [he, hhb] at HGC
  unfold En.v at HGC
  clear he hhb
  go_wp2_with fail
  refine HGC.out.mono ?_
  rintro e5 w3 ⟨rfl, ht3, _⟩
  obtain ⟨w4, hw4⟩ : ∃ W, W = w3.alloc (.cells #[.int .i64 e.cell, .int .i64 e.ver, .int .i64 e.val, .int .i64 e.frm] 38) := ⟨_, rfl⟩
  have hb4 : Below w3.heap.size w3 w4 := by rw [hw4]; exact below_alloc _ _
  have hc4 : Cells w4 w3.heap.size 38 e.vals := by rw [hw4]; exact cells_new _ _ _ _ rfl
  obtain ⟨bx, hbx⟩ : ∃ bx, w3.heap.size = bx := ⟨_, rfl⟩
  have ht4 := ht3.add hb4 (G := fun k => k = bx) (fun k ek => by have := hc4.lt; omega)
  rw [hbx] at hc4
  have HGR := Lib.hid (ht4.callR (Q := fun x _ => x = .returned (.tuple #[(getD0 oc R.l).v, .bool (hasE oc R.l)])) fun A2 c2 hx => RGet_any hx oc ht4.big)
  rw [HE.out, HHB.out] at HGR
  unfold En.v at HGR
  have HC4 := Lib.hid hc4
  have y1 := ht4.box.cell HV.out.1
  clear ht3 hb4 hc4 ht4 HGC
  go_upto_region 27 with (fail)
  rw [← hw4]
  clear hw4
  try rw [hbx]
  clear hbx
  go_wp2_with fail
  refine HGR.out.mono ?_
  rintro e5 w5 ⟨rfl, ht5, ho5⟩
  obtain ⟨w6, hw6⟩ : ∃ W, W = w5.alloc (.cells #[.int .i64 e.cell, .int .i64 e.ver, .int .i64 e.val, .int .i64 e.frm] 40) := ⟨_, rfl⟩
  have hb6 : Below w5.heap.size w5 w6 := by rw [hw6]; exact below_alloc _ _
  have hc6 : Cells w6 w5.heap.size 40 e.vals := by rw [hw6]; exact cells_new _ _ _ _ rfl
  have hx6 := (cells_only HC4.out ho5 (fun h => h (Or.inr rfl))).later hb6
  have HT6 : Hid (Two w1.heap.size w1 w6 cb rb gb vs F (useE R oc) (useE R oc)) := Lib.hid ((ht5.later hb6).fewer (fun k ek => Or.inl ek) HT.out.fgb)
  have p0 := hx6.cell (j := 0) rfl
  have p1 := hx6.cell (j := 1) rfl
  have p2 := hx6.cell (j := 2) rfl
  have p3 := hx6.cell (j := 3) rfl
  have q0 := hc6.cell (j := 0) rfl
  have q1 := hc6.cell (j := 1) rfl
  have q2 := hc6.cell (j := 2) rfl
  have q3 := hc6.cell (j := 3) rfl
  have hne : ∀ W, (binOp .neq 40 (.agg #[.int .i64 e.cell, .int .i64 e.ver, .int .i64 e.val, .int .i64 e.frm]) (.agg #[.int .i64 e.cell, .int .i64 e.ver, .int .i64 e.val, .int .i64 e.frm])).run Try.prog W = .ok (.bool false) W := fun W => by
    have h1 := en_neqr e e W
    rw [decide_eq_true rfl] at h1
    exact h1
  have hbb : (hb != hb) = false := by simp
  clear ht5 ho5 hb6 hc6 hx6 HGR y1
  go_upto_region 28 with (fail)
  rw [← hw6]
  clear hw6
  go_wp2_with fail
  exact HQ.out _ _ _ _ _ _ _ _ _ _ _ _ _ _ _ _ _ _ _ _ _ _ _ _ _ _ _ _ _ _ _ _ _ _ _ _ _ _ _ _ _ _ _ _ _ _ _ _ _ _ _ _ _ _ _ _ _ _ _ _ _ _ _ _ _ _ _ _ _ _ _ _ _ _ _ _ _ _ _ _ _ _ _ _ _ _ _ _ _ _ _ _ _ _ _ _ _ _ _ _ _ _ _ _ _ _ _ _ _ _ _ _ _ _ _ _ _ _ _ _ _ _ _ _ _ _ _ _ _ _ _ _ _ _ _ _ _ _ _ _ _ _ _ _ _ _ _ _ _ _ _ _ _ _ _ _ _ _ _ _ _ _ ⟨_, HKF, HT6⟩
end Go.Proofs.Yteedlenelfidcaa.CachePlays
