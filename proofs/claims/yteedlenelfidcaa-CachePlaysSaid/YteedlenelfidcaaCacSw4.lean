/-
  Layer 17, CachePlays: what kind 4 does, on both sides. Conditions: none.
-/
import Derived.Test.YteedlenelfidcaaCacDuo
import Derived.Test.YteedlenelfidcaaSub
namespace Go.Proofs.Yteedlenelfidcaa.CachePlays
set_option maxRecDepth 100000
open Go.ChangeShapes Go.WideShapes Go.ChangeAt Go.RowKit Go.Deep Go.Proofs.Yteedlenelfidcaa.Mem Go.Proofs.Yteedlenelfidcaa.Cac

set_option maxHeartbeats 4000000 in
theorem sw4 {w1 we : World} {cb rb gb lq cq oac occ : Nat} {vs : List Value} {F : Nat → Prop} {R : Cc} {ok oc ov : Int} {oA oC : Option Addr} {ol : List En} {ocs : List Int} (hx : Hid (Two w1.heap.size w1 we cb rb gb vs F R R) ∧ Hid (vs[1]? = some (.int .i64 oc) ∧ vs[2]? = some (.int .i64 ov) ∧ vs[3]? = some (.slice oA lq oac) ∧ vs[4]? = some (.slice oC cq occ)) ∧ Hid (Cok R) ∧ Hid (∀ w', Below w1.heap.size w1 w' → (⟨ok, oc, ov, oA, oac, ol, oC, occ, ocs⟩ : Opk).Ok w') ∧ Hid ((∀ i, ol ≠ [] → blk oA = some i → i < w1.heap.size) ∧ ∀ i, ocs ≠ [] → blk oC = some i → i < w1.heap.size) ∧ Hid (ol.length = lq) ∧ Hid (ocs.length = cq) ∧ lq ≤ 40 ∧ cq ≤ 40) (k4 : ok = 4)
    {cc : Code} (hc : cc = sub [1, 1, 1, 1, 1, 1, 1, 0, 1, 0, 0, 1, 1, 0, 0, 1, 0, 1] ((Try.f3.body).getD .skip)) {s0 s1 s2 s3 s4 s6 s8 s10 s11 s12 s13 s14 s15 s16 s17 s18 s19 s20 s21 s22 s23 s24 s25 s26 s27 s28 s29 s30 s31 s32 s33 s34 s35 s36 s37 s38 s39 s40 s41 s42 s43 s44 s45 s46 s47 s48 s49 s50 s51 s52 s53 s54 s55 s56 s57 s58 s59 s60 s61 s63 s64 s65 s66 s67 s68 s69 s70 s71 s72 s73 s74 s75 s76 s77 s78 s79 s80 s81 s82 s83 s84 s85 s86 s87 s88 s89 s90 s91 s92 s93 s94 s95 s96 s97 s98 s99 s100 s101 s102 s103 s104 s105 s106 s107 s108 s109 s110 s111 s112 s113 s114 s115 s116 s117 s118 s119 s120 s121 s122 s123 s124 s125 s126 s127 s128 s129 s130 s131 s132 s133 s134 s135 s136 s137 s138 s139 s140 s141 s142 s143 s144 s145 s146 s147 s148 s149 s150 s151 s152 s153 s154 s155 s156 s157 s158 s159 s160 s161 s162 s163 s164 s165 s166 s167 s168 s169 s170 s171 s172 s173 s174 s175 s176 s177 s178 s179 s180 s181 s182 s183 s184 s185 s186 s187 s188 s189 s190 s191 s192 s193 s194 s195 s196 s197 s198 s199 s200 s201 s202 s203 s204 s205 s206 s207 s208 s209 s210 s211 s212 s213 s214 s215 s216 s217 s218 s219 s220 : Value} {Q : Exit → Act → World → Prop}
    (hQ : ∀ (u10 u12 u13 u14 u15 u16 u17 u18 u19 u20 u21 u22 u24 u63 u64 u65 u66 u67 u68 u69 u70 u71 u72 u73 u74 u75 u76 u77 u78 u79 u80 u81 u82 u83 u84 u85 u86 u87 u88 u89 u90 u91 u92 u93 u94 u95 u96 u97 u98 u99 u100 u101 u102 u103 u104 u105 u106 u107 u108 u109 u110 u111 u112 u113 u114 u115 u116 u117 u118 u119 u120 u121 u122 u123 u124 u125 u126 u127 u128 u129 u130 u131 u132 u133 u134 u135 u136 u137 u138 u139 u140 u141 u142 u143 u144 u145 u146 u147 u148 u149 u150 u151 u152 u153 u154 u155 u156 u157 u158 u159 u160 u161 u162 u163 u164 u165 u166 u167 u168 u169 u170 u171 u172 u173 u174 u175 u176 u177 u178 u179 u180 u181 u182 u183 u184 u185 u186 u187 u188 u189 u190 u191 u192 u193 u194 u195 u196 u197 u198 u199 u200 u201 u202 u203 u204 u205 u206 u207 u208 u209 u210 : Value) (w' : World), (∃ R' : Cc, Hid (Cok R') ∧ Hid (Two w1.heap.size w1 w' cb rb gb vs F R' R')) → Q .normal { tmps := List.toArray (s0::s1::s2::s3::s4::.pointer (some ⟨cb, 0, none⟩)::s6::.pointer (some ⟨rb, 0, none⟩)::s8::.pointer (some ⟨gb, 0, none⟩)::u10::s11::u12::u13::u14::u15::u16::u17::u18::u19::u20::u21::u22::s23::u24::s25::s26::s27::s28::s29::s30::s31::s32::s33::s34::s35::s36::s37::s38::s39::s40::s41::s42::s43::s44::s45::s46::s47::s48::s49::s50::s51::s52::s53::s54::s55::s56::s57::s58::s59::s60::s61::.int .i64 ok::u63::u64::u65::u66::u67::u68::u69::u70::u71::u72::u73::u74::u75::u76::u77::u78::u79::u80::u81::u82::u83::u84::u85::u86::u87::u88::u89::u90::u91::u92::u93::u94::u95::u96::u97::u98::u99::u100::u101::u102::u103::u104::u105::u106::u107::u108::u109::u110::u111::u112::u113::u114::u115::u116::u117::u118::u119::u120::u121::u122::u123::u124::u125::u126::u127::u128::u129::u130::u131::u132::u133::u134::u135::u136::u137::u138::u139::u140::u141::u142::u143::u144::u145::u146::u147::u148::u149::u150::u151::u152::u153::u154::u155::u156::u157::u158::u159::u160::u161::u162::u163::u164::u165::u166::u167::u168::u169::u170::u171::u172::u173::u174::u175::u176::u177::u178::u179::u180::u181::u182::u183::u184::u185::u186::u187::u188::u189::u190::u191::u192::u193::u194::u195::u196::u197::u198::u199::u200::u201::u202::u203::u204::u205::u206::u207::u208::u209::u210::s211::s212::s213::s214::s215::s216::s217::s218::s219::s220::[]), defers := [] } w') :
    Code.wp Try.prog cc Q { tmps := List.toArray (s0::s1::s2::s3::s4::.pointer (some ⟨cb, 0, none⟩)::s6::.pointer (some ⟨rb, 0, none⟩)::s8::.pointer (some ⟨gb, 0, none⟩)::s10::s11::s12::s13::s14::s15::s16::s17::s18::s19::s20::s21::s22::s23::s24::s25::s26::s27::s28::s29::s30::s31::s32::s33::s34::s35::s36::s37::s38::s39::s40::s41::s42::s43::s44::s45::s46::s47::s48::s49::s50::s51::s52::s53::s54::s55::s56::s57::s58::s59::s60::s61::.int .i64 ok::s63::s64::s65::s66::s67::s68::s69::s70::s71::s72::s73::s74::s75::s76::s77::s78::s79::s80::s81::s82::s83::s84::s85::s86::s87::s88::s89::s90::s91::s92::s93::s94::s95::s96::s97::s98::s99::s100::s101::s102::s103::s104::s105::s106::s107::s108::s109::s110::s111::s112::s113::s114::s115::s116::s117::s118::s119::s120::s121::s122::s123::s124::s125::s126::s127::s128::s129::s130::s131::s132::s133::s134::s135::s136::s137::s138::s139::s140::s141::s142::s143::s144::s145::s146::s147::s148::s149::s150::s151::s152::s153::s154::s155::s156::s157::s158::s159::s160::s161::s162::s163::s164::s165::s166::s167::s168::s169::s170::s171::s172::s173::s174::s175::s176::s177::s178::s179::s180::s181::s182::s183::s184::s185::s186::s187::s188::s189::s190::s191::s192::s193::s194::s195::s196::s197::s198::s199::s200::s201::s202::s203::s204::s205::s206::s207::s208::s209::s210::s211::s212::s213::s214::s215::s216::s217::s218::s219::s220::[]), defers := [] } we := by
  obtain ⟨HT, HV, HK, HIN, HOBL, HLQ, HCQ, hl40, hc40⟩ := hx
  have HQ := Lib.hid hQ
  clear hQ
  conv at hc => rhs; whnf
  subst hc
  subst k4
  have y4 := HT.out.box.cell HV.out.2.2.2
  have HKF := Lib.hid (Cok.drops ocs HK.out)
  go_wp2_with fail
  go_loopw [22, 24, 188] (fun z _ i wr => ∃ j : Nat, j ≤ cq ∧ i = .int .i64 (j : Int) ∧ z = .int .i64 (dropsE R (ocs.take j)).1 ∧ Hid (Two w1.heap.size w1 wr cb rb gb vs F R (dropsE R (ocs.take j)).2)) (fun _ _ i _ => cq - (intOf i).toNat)
  case atStart => exact ⟨0, Nat.zero_le _, rfl, rfl, HT⟩
  case round =>
    clear y4
    obtain ⟨j, hj, rfl, rfl, HTJ⟩ := hrel
    by_cases hlt : j < cq
    · have hjl : j < ocs.length := by rw [HCQ.out]; exact hlt
      obtain ⟨e, he⟩ : ∃ e, ocs[j] = e := ⟨_, rfl⟩
      have htk : ocs.take (j + 1) = ocs.take j ++ [e] := by rw [List.take_succ_eq_append_getElem hjl, he]
      have hmo := dropsE_more e (ocs.take j) R
      rw [← htk] at hmo
      have hct := dropsE_count (ocs.take j) R
      rw [List.length_take] at hct
      obtain ⟨q, hq⟩ : ∃ q, dropsE R (ocs.take j) = q := ⟨_, rfl⟩
      rw [hq] at HTJ hmo hct ⊢
      obtain ⟨g, off2, rfl, hr2⟩ := (HIN.out wr HTJ.out.low).is j (by unfold ints; rw [List.length_map]; exact hjl)
      dsimp only at hr2
      unfold ints at hr2
      rw [List.getElem_map, he] at hr2
      have x0 := hr2 0 _ rfl
      rw [Nat.add_zero, Nat.mul_one] at x0
      have hT := HTJ.out
      have HP := Lib.hid (hT.callR (Q := fun x _ => x = .returned (.bool (dropE q.2 e).1)) fun A2 c2 hx => RDrop_any hx e hT.big)
      obtain ⟨z, hz⟩ : ∃ z, q.1 = z := ⟨_, rfl⟩
      obtain ⟨tk, htk2⟩ : ∃ b, (dropE q.2 e).1 = b := ⟨_, rfl⟩
      rw [htk2] at HP
      rw [hz] at hct ⊢
      have HZ : Hid ((dropsE R (ocs.take (j + 1))).1 = z + b1 tk) := Lib.hid (by rw [hmo, hz, htk2])
      have HQ : Hid ((dropsE R (ocs.take (j + 1))).2 = (dropE q.2 e).2) := Lib.hid (by rw [hmo])
      have hzb : 0 ≤ z ∧ z ≤ 1000 := by omega
      obtain ⟨hz1, hz2⟩ := hzb
      have hw : IntKind.i64.wrap (z + 1) = z + 1 := IntWalk.i64_in _ (by omega)
      clear hjl he htk hmo hct hq hr2 hT hz htk2 HTJ
      go_wp2_with fail
      refine HP.out.mono ?_
      rintro e5 w3 ⟨rfl, ht3, _⟩
      have HT3 : Hid (Two w1.heap.size w1 w3 cb rb gb vs F R (dropsE R (ocs.take (j + 1))).2) := Lib.hid (by rw [HQ.out]; exact ht3)
      clear ht3 HP x0
      cases tk with
      | true =>
        go_wp2_with fail
        go_roundw
        case rel => exact ⟨j + 1, by omega, by go_num, congrArg (Value.int .i64) (by rw [HZ.out]; rfl), HT3⟩
        case measure => simp [intOf]; omega
      | false =>
        go_wp2_with fail
        go_roundw
        case rel => exact ⟨j + 1, by omega, by go_num, congrArg (Value.int .i64) (by rw [HZ.out]; simp [b1]), HT3⟩
        case measure => simp [intOf]; omega
    · have HTF : Hid (Two w1.heap.size w1 wr cb rb gb vs F R (dropsE R ocs).2) := Lib.hid (by
        have h1 := HTJ.out
        rw [List.take_of_length_le (by rw [HCQ.out]; omega)] at h1
        exact h1)
      have htf : ocs.take j = ocs := List.take_of_length_le (by rw [HCQ.out]; omega)
      rw [htf]
      have y4 := HTF.out.box.cell HV.out.2.2.2
      have HP := Lib.hid (HTF.out.callC (C' := (dropsE R ocs).2) (Q := fun x _ => x = .returned (.int .i64 (dropsE R ocs).1)) (f := 18) (args := #[.pointer (some ⟨cb, 0, none⟩), .slice oC ocs.length occ]) fun A1 c1 hx => Drops_any hx HK.out (HIN.out wr HTF.out.low).is (fun hne i ei => ⟨fun e2 => by have h1 := HOBL.out.2 i hne ei; have := (hx.lt e2).1; omega, by have h1 := HOBL.out.2 i hne ei; have := HTF.out.big; omega⟩) (by rw [HCQ.out]; omega))
      rw [HCQ.out] at HP
      obtain ⟨z, hz⟩ : ∃ z, (dropsE R ocs).1 = z := ⟨_, rfl⟩
      rw [hz] at HP ⊢
      clear htf hz HTJ
      go_wp2_with fail
      refine HP.out.mono ?_
      rintro e5 w3 ⟨rfl, ht3, _⟩
      have HT3 := Lib.hid ht3
      have hzz : (z != z) = false := by simp
      clear ht3 HP y4
      go_wp2_with fail
      exact HQ.out _ _ _ _ _ _ _ _ _ _ _ _ _ _ _ _ _ _ _ _ _ _ _ _ _ _ _ _ _ _ _ _ _ _ _ _ _ _ _ _ _ _ _ _ _ _ _ _ _ _ _ _ _ _ _ _ _ _ _ _ _ _ _ _ _ _ _ _ _ _ _ _ _ _ _ _ _ _ _ _ _ _ _ _ _ _ _ _ _ _ _ _ _ _ _ _ _ _ _ _ _ _ _ _ _ _ _ _ _ _ _ _ _ _ _ _ _ _ _ _ _ _ _ _ _ _ _ _ _ _ _ _ _ _ _ _ _ _ _ _ _ _ _ _ _ _ _ _ _ _ _ _ _ _ _ _ _ _ _ _ _ _ ⟨_, HKF, HT3⟩
end Go.Proofs.Yteedlenelfidcaa.CachePlays
