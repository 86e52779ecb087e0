/-
  Layer 8: are two states alike? The document's answer.
  Conditions: none.
-/
import Derived.Test.YtalhbblmnahcdaaGreatPa47
namespace Go.Proofs.YtalhbblmnahcdaaGreat.Led
set_option maxRecDepth 100000
open Go.RowKit Go.Deep Go.Proofs.YtalhbblmnahcdaaGreat.Mem Go.Proofs.YtalhbblmnahcdaaGreat.Item Go.Proofs.YtalhbblmnahcdaaGreat.Rec
def ss11_T (xa xb : Value) (ga gb ba oa na ca bb ob nb cb jx : Nat) : Nat → Value → World → Prop
 | 0, v, _ => v = .pointer (some ⟨ga, 5, none⟩)
 | 1, v, _ => v = .slice (some ⟨ba, oa, none⟩) na ca
 | 2, v, _ => v = .int .i64 (jx : Int)
 | 3, v, _ => v = .pointer (some ⟨ba, oa + jx * 5, none⟩)
 | 4, v, _ => v = .pointer (some ⟨ba, oa + jx * 5, none⟩)
 | 5, v, _ => v = xa
 | 6, v, _ => v = .pointer (some ⟨gb, 5, none⟩)
 | 7, v, _ => v = .slice (some ⟨bb, ob, none⟩) nb cb
 | 8, v, _ => v = .int .i64 (jx : Int)
 | 9, v, _ => v = .pointer (some ⟨bb, ob + jx * 5, none⟩)
 | 10, v, _ => v = .pointer (some ⟨bb, ob + jx * 5, none⟩)
 | 11, v, _ => v = xb
 | 12, v, _ => v = .bool true
 | 13, v, _ => v = .bool true
 | 14, v, _ => v = undef
 | 15, v, _ => v = undef
 | 16, v, _ => v = undef
 | 17, v, _ => v = undef
 | 18, v, _ => v = undef
 | 19, v, _ => v = undef
 | 20, v, _ => v = undef
 | 21, v, _ => v = undef
 | 22, v, _ => v = undef
 | 23, v, _ => v = undef
 | 24, v, _ => v = undef
 | 25, v, _ => v = undef
 | 26, v, _ => v = undef
 | 27, v, _ => v = undef
 | 28, v, _ => v = .bool true
 | 29, v, _ => v = .bool true
 | 30, v, _ => v = undef
 | 31, v, _ => v = undef
 | 32, v, _ => v = undef
 | 33, v, _ => v = undef
 | 34, v, _ => v = undef
 | 35, v, _ => v = undef
 | 36, v, _ => v = undef
 | 37, v, _ => v = undef
 | 38, v, _ => v = undef
 | 39, v, _ => v = undef
 | 40, v, _ => v = undef
 | 41, v, _ => v = undef
 | 42, v, _ => v = undef
 | 43, v, _ => v = undef
 | 44, v, _ => v = .bool true
 | _, _, _ => True
def ss11_I (xa xb ia ib : Value) (ga gb ba oa na ca bb ob nb cb jx : Nat) : Nat → Value → World → Prop
 | 0, v, _ => v = .pointer (some ⟨ga, 5, none⟩)
 | 1, v, _ => v = .slice (some ⟨ba, oa, none⟩) na ca
 | 2, v, _ => v = .int .i64 (jx : Int)
 | 3, v, _ => v = .pointer (some ⟨ba, oa + jx * 5, none⟩)
 | 4, v, _ => v = .pointer (some ⟨ba, oa + jx * 5, none⟩)
 | 5, v, _ => v = xa
 | 6, v, _ => v = .pointer (some ⟨gb, 5, none⟩)
 | 7, v, _ => v = .slice (some ⟨bb, ob, none⟩) nb cb
 | 8, v, _ => v = .int .i64 (jx : Int)
 | 9, v, _ => v = .pointer (some ⟨bb, ob + jx * 5, none⟩)
 | 10, v, _ => v = .pointer (some ⟨bb, ob + jx * 5, none⟩)
 | 11, v, _ => v = xb
 | 12, v, _ => v = .bool false
 | 13, v, _ => v = .bool false
 | 14, v, _ => v = .pointer (some ⟨ga, 5, none⟩)
 | 15, v, _ => v = .slice (some ⟨ba, oa, none⟩) na ca
 | 16, v, _ => v = .int .i64 (jx : Int)
 | 17, v, _ => v = .pointer (some ⟨ba, oa + jx * 5, none⟩)
 | 18, v, _ => v = .pointer (some ⟨ba, oa + jx * 5 + 3, none⟩)
 | 19, v, _ => v = ia
 | 20, v, _ => v = .pointer (some ⟨gb, 5, none⟩)
 | 21, v, _ => v = .slice (some ⟨bb, ob, none⟩) nb cb
 | 22, v, _ => v = .int .i64 (jx : Int)
 | 23, v, _ => v = .pointer (some ⟨bb, ob + jx * 5, none⟩)
 | 24, v, _ => v = .pointer (some ⟨bb, ob + jx * 5 + 3, none⟩)
 | 25, v, _ => v = ib
 | 26, v, _ => v = .bool false
 | 27, v, _ => v = .bool true
 | 28, v, _ => v = .bool true
 | 29, v, _ => v = .bool true
 | 30, v, _ => v = undef
 | 31, v, _ => v = undef
 | 32, v, _ => v = undef
 | 33, v, _ => v = undef
 | 34, v, _ => v = undef
 | 35, v, _ => v = undef
 | 36, v, _ => v = undef
 | 37, v, _ => v = undef
 | 38, v, _ => v = undef
 | 39, v, _ => v = undef
 | 40, v, _ => v = undef
 | 41, v, _ => v = undef
 | 42, v, _ => v = undef
 | 43, v, _ => v = undef
 | 44, v, _ => v = .bool true
 | _, _, _ => True
theorem ss11_I_later {xa xb ia ib : Value} {ga gb ba oa na ca bb ob nb cb jx : Nat} {j : Nat} {v : Value} {w w' : World} (_hb : Below w.heap.size w w') (h : ss11_I xa xb ia ib ga gb ba oa na ca bb ob nb cb jx j v w) : ss11_I xa xb ia ib ga gb ba oa na ca bb ob nb cb jx j v w' := by
 match j, h with
 | 0, h | 1, h | 2, h | 3, h | 4, h | 5, h | 6, h | 7, h | 8, h | 9, h | 10, h | 11, h | 12, h | 13, h | 14, h | 15, h | 16, h | 17, h | 18, h | 19, h | 20, h | 21, h | 22, h | 23, h | 24, h | 25, h | 26, h | 27, h | 28, h | 29, h | 30, h | 31, h | 32, h | 33, h | 34, h | 35, h | 36, h | 37, h | 38, h | 39, h | 40, h | 41, h | 42, h | 43, h | 44, h => exact h
 | _ + 45, _ => exact trivial
def ss11_N (xa xb ia ib ja jb : Value) (ga gb ba oa na ca bb ob nb cb jx : Nat) (xd : Bool) : Nat → Value → World → Prop
 | 0, v, _ => v = .pointer (some ⟨ga, 5, none⟩)
 | 1, v, _ => v = .slice (some ⟨ba, oa, none⟩) na ca
 | 2, v, _ => v = .int .i64 (jx : Int)
 | 3, v, _ => v = .pointer (some ⟨ba, oa + jx * 5, none⟩)
 | 4, v, _ => v = .pointer (some ⟨ba, oa + jx * 5, none⟩)
 | 5, v, _ => v = xa
 | 6, v, _ => v = .pointer (some ⟨gb, 5, none⟩)
 | 7, v, _ => v = .slice (some ⟨bb, ob, none⟩) nb cb
 | 8, v, _ => v = .int .i64 (jx : Int)
 | 9, v, _ => v = .pointer (some ⟨bb, ob + jx * 5, none⟩)
 | 10, v, _ => v = .pointer (some ⟨bb, ob + jx * 5, none⟩)
 | 11, v, _ => v = xb
 | 12, v, _ => v = .bool false
 | 13, v, _ => v = .bool false
 | 14, v, _ => v = .pointer (some ⟨ga, 5, none⟩)
 | 15, v, _ => v = .slice (some ⟨ba, oa, none⟩) na ca
 | 16, v, _ => v = .int .i64 (jx : Int)
 | 17, v, _ => v = .pointer (some ⟨ba, oa + jx * 5, none⟩)
 | 18, v, _ => v = .pointer (some ⟨ba, oa + jx * 5 + 3, none⟩)
 | 19, v, _ => v = ia
 | 20, v, _ => v = .pointer (some ⟨gb, 5, none⟩)
 | 21, v, _ => v = .slice (some ⟨bb, ob, none⟩) nb cb
 | 22, v, _ => v = .int .i64 (jx : Int)
 | 23, v, _ => v = .pointer (some ⟨bb, ob + jx * 5, none⟩)
 | 24, v, _ => v = .pointer (some ⟨bb, ob + jx * 5 + 3, none⟩)
 | 25, v, _ => v = ib
 | 26, v, _ => v = .bool true
 | 27, v, _ => v = .bool false
 | 28, v, _ => v = .bool false
 | 29, v, _ => v = .bool false
 | 30, v, _ => v = .pointer (some ⟨ga, 5, none⟩)
 | 31, v, _ => v = .slice (some ⟨ba, oa, none⟩) na ca
 | 32, v, _ => v = .int .i64 (jx : Int)
 | 33, v, _ => v = .pointer (some ⟨ba, oa + jx * 5, none⟩)
 | 34, v, _ => v = .pointer (some ⟨ba, oa + jx * 5 + 4, none⟩)
 | 35, v, _ => v = ja
 | 36, v, _ => v = .pointer (some ⟨gb, 5, none⟩)
 | 37, v, _ => v = .slice (some ⟨bb, ob, none⟩) nb cb
 | 38, v, _ => v = .int .i64 (jx : Int)
 | 39, v, _ => v = .pointer (some ⟨bb, ob + jx * 5, none⟩)
 | 40, v, _ => v = .pointer (some ⟨bb, ob + jx * 5 + 4, none⟩)
 | 41, v, _ => v = jb
 | 42, v, _ => v = .bool xd
 | 43, v, _ => v = .bool (!xd)
 | 44, v, _ => v = .bool (!xd)
 | _, _, _ => True
theorem ss11_N_later {xa xb ia ib ja jb : Value} {ga gb ba oa na ca bb ob nb cb jx : Nat} {xd : Bool} {j : Nat} {v : Value} {w w' : World} (_hb : Below w.heap.size w w') (h : ss11_N xa xb ia ib ja jb ga gb ba oa na ca bb ob nb cb jx xd j v w) : ss11_N xa xb ia ib ja jb ga gb ba oa na ca bb ob nb cb jx xd j v w' := by
 match j, h with
 | 0, h | 1, h | 2, h | 3, h | 4, h | 5, h | 6, h | 7, h | 8, h | 9, h | 10, h | 11, h | 12, h | 13, h | 14, h | 15, h | 16, h | 17, h | 18, h | 19, h | 20, h | 21, h | 22, h | 23, h | 24, h | 25, h | 26, h | 27, h | 28, h | 29, h | 30, h | 31, h | 32, h | 33, h | 34, h | 35, h | 36, h | 37, h | 38, h | 39, h | 40, h | 41, h | 42, h | 43, h | 44, h => exact h
 | _ + 45, _ => exact trivial
set_option maxHeartbeats 4000000 in
theorem same8 {w0 w2 wr : World} {g0 g1 : Nat} {s t : St} {y z : Sy} (h0 : Below w0.heap.size w0 w2) (h : Sm w2 g0 g1 s t y z) (hb : Below w2.heap.size w2 wr) (hl : s.prep.length = t.prep.length ∧ s.dec.length = t.dec.length ∧ s.com.length = t.com.length) (hq : (s = t) ↔ s.prep = t.prep ∧ s.dec = t.dec ∧ s.com = t.com)
  {cc : Code} (hc : cc = sub [1, 1, 1] ((Tryz.f10.body).getD .skip)) {s0 s1 s4 s5 s6 s7 s8 s9 s10 s11 s12 s13 s14 s15 s16 s17 s18 s19 s20 s21 s22 s23 s24 s25 s26 s27 s28 s29 s30 s31 s32 s33 s34 s35 s36 s37 s38 s39 s40 s41 s42 s43 s44 s45 s46 s47 s48 s49 s50 s51 s52 s53 s54 s55 s56 s57 s58 s59 s60 s61 s62 s63 s64 s65 s66 s67 s68 s69 s70 s71 s72 s73 s74 s75 s76 s77 s78 s79 s80 s81 s82 s83 s84 s85 s86 s87 s88 s89 s90 s91 s92 s93 s94 s95 s96 s97 s98 s99 s100 s101 s102 s103 s104 s105 s106 s107 s108 s109 s110 s111 s112 s113 s114 s115 s116 s117 s118 s119 s120 s121 s122 s123 s124 s125 s126 s127 s128 s129 s130 s131 s132 s133 s134 s135 s136 s137 s138 s139 s140 s141 s142 s143 s144 s145 s146 s147 s148 s149 s150 s151 s152 s153 s154 s155 s156 s157 s158 s159 s160 s161 s162 s163 s164 s165 s166 s167 s168 s169 s170 s171 s172 s173 s174 s175 s176 s177 s178 s179 s180 s181 s182 s183 s184 s185 s186 s187 s188 s189 s190 s191 s192 s193 s194 s195 s196 s197 s198 s199 s200 s201 s202 s203 s204 s205 : Value} :
  cc.wp Tryz.prog (bodyPost Tryz.prog Tryz.f10 (fun e w' => SameOut (s = t) e ∧ Below w0.heap.size w0 w')) { tmps := List.toArray (s0::s1::.pointer (some ⟨g0, 0, none⟩)::.pointer (some ⟨g1, 0, none⟩)::s4::s5::s6::s7::s8::s9::s10::s11::s12::s13::s14::s15::s16::s17::s18::s19::s20::s21::s22::s23::s24::s25::s26::s27::s28::s29::s30::s31::s32::s33::s34::s35::s36::s37::s38::s39::s40::s41::s42::s43::s44::s45::s46::s47::s48::s49::s50::s51::s52::s53::s54::s55::s56::s57::s58::s59::s60::s61::s62::s63::s64::s65::s66::s67::s68::s69::s70::s71::s72::s73::s74::s75::s76::s77::s78::s79::s80::s81::s82::s83::s84::s85::s86::s87::s88::s89::s90::s91::s92::s93::s94::s95::s96::s97::s98::s99::s100::s101::s102::s103::s104::s105::s106::s107::s108::s109::s110::s111::s112::s113::s114::s115::s116::s117::s118::s119::s120::s121::s122::s123::s124::s125::s126::s127::s128::s129::s130::s131::s132::s133::s134::s135::s136::s137::s138::s139::s140::s141::s142::s143::s144::s145::s146::s147::s148::s149::s150::s151::s152::s153::s154::s155::s156::s157::s158::s159::s160::s161::s162::s163::s164::s165::s166::s167::s168::s169::s170::s171::s172::s173::s174::s175::s176::s177::s178::s179::s180::s181::s182::s183::s184::s185::s186::s187::s188::s189::s190::s191::s192::s193::s194::s195::s196::s197::s198::s199::s200::s201::s202::s203::s204::s205::[]), defers := [] } wr := by
 conv at hc => rhs; whnf
 subst hc
 apply wp_seq_k
 intro K hK
 have HKT := Lib.hid hK
 clear hK
 have H00 := Lib.hid h0
 clear h0
 obtain ⟨yP, yp, yQ, yq, yD, yd, yC, yc, yps, ycs⟩ := y
 obtain ⟨zP, zp, zQ, zq, zD, zd, zC, zc, zps, zcs⟩ := z
 have HH := Lib.hid h
 have HB0 := Lib.hid hb
 have HL := Lib.hid hl
 have HQ := Lib.hid hq
 obtain ⟨n, hn⟩ : ∃ n, s.prep.length = n := ⟨_, rfl⟩
 have HN : Hid (s.prep.length = n ∧ t.prep.length = n) := Lib.hid ⟨hn, by rw [← hn]; exact (hl.1).symm⟩
 have hnb : n ≤ 100000 := by rw [← hn]; exact h.sm.prep
 clear h hb hl hq hn
 go_wp2_with fail
 go_loopw [6] (fun i wr => ∃ (j : Nat), j ≤ n ∧ i = .int .i64 (j : Int) ∧ Hid (s.prep.take j = t.prep.take j) ∧ Hid (Below w2.heap.size w2 wr)) (fun i _ => n - (intOf i).toNat)
 case atStart => exact ⟨0, Nat.zero_le _, rfl, Lib.hid rfl, HB0⟩
 case round =>
  obtain ⟨j, hj, rfl, HT, HB⟩ := hrel
  have hc0 : wr.cell? ⟨g0, 5, none⟩ = some (.slice yQ n yq) := by rw [← HN.out.1]; exact (HH.out.c0.later HB.out).cell (j := 5) rfl
  by_cases hlt : j < n
  ·have hl0 : j < s.prep.length := by rw [HN.out.1]; exact hlt
   have hl1 : j < t.prep.length := by rw [HN.out.2]; exact hlt
   have hsa := HH.out.a.later HB.out
   have hsb := HH.out.b.later HB.out
   have hy0 : j < yps.length := by have := hsa.ps; simp only at this; omega
   have hz0 : j < zps.length := by have := hsb.ps; simp only at this; omega
   obtain ⟨b0, o0, hA, hr0⟩ := hsa.prep j (by rw [List.length_zipWith]; simp only; omega)
   obtain ⟨b1, o1, hA1, hr1⟩ := hsb.prep j (by rw [List.length_zipWith]; simp only; omega)
   have ht0 := hsa.pin j hl0 hy0
   have ht1 := hsb.pin j hl1 hz0
   simp only at hA hA1
   subst hA
   subst hA1
   have hc0 : wr.cell? ⟨g0, 5, none⟩ = some (.slice (some ⟨b0, o0, none⟩) n yq) := by rw [← HN.out.1]; exact (HH.out.c0.later HB.out).cell (j := 5) rfl
   have hc1 : wr.cell? ⟨g1, 5, none⟩ = some (.slice (some ⟨b1, o1, none⟩) n zq) := by rw [← HN.out.2]; exact (HH.out.c1.later HB.out).cell (j := 5) rfl
   rw [List.getElem_zipWith] at hr0 hr1
   simp only at hr0 hr1 ht0 ht1
   obtain ⟨p, hp⟩ : ∃ p, s.prep[j] = p := ⟨_, rfl⟩
   obtain ⟨q, hq⟩ : ∃ q, t.prep[j] = q := ⟨_, rfl⟩
   have HNX : Hid (p = q → s.prep.take (j + 1) = t.prep.take (j + 1)) := Lib.hid (fun e => by rw [List.take_succ_eq_append_getElem hl0, List.take_succ_eq_append_getElem hl1, HT.out, hp, hq, e])
   have HNO : Hid (p ≠ q → ¬ s = t) := Lib.hid (fun e h => e (by rw [← hp, ← hq]; subst h; rfl))
   have HSM : Hid (p.items.length ≤ 100000 ∧ p.nodes.length ≤ 100000) := Lib.hid (by rw [← hp]; exact HH.out.sm.pin _ (List.getElem_mem hl0))
   obtain ⟨la, hla⟩ : ∃ l, yps[j] = l := ⟨_, rfl⟩
   obtain ⟨lb, hlb⟩ : ∃ l, zps[j] = l := ⟨_, rfl⟩
   rw [hla] at hr0 ht0
   rw [hlb] at hr1 ht1
   rw [hp] at ht0
   rw [hq] at ht1
   rw [hp] at hr0
   rw [hq] at hr1
   have HRA := Lib.hid hr0
   have HRB := Lib.hid hr1
   have HCA : Hid (∀ wi, Below wr.heap.size wr wi → wi.cell? ⟨g0, 5, none⟩ = some (.slice (some ⟨b0, o0, none⟩) n yq)) := Lib.hid (fun wi hi => lowc hi hc0)
   have HCB : Hid (∀ wi, Below wr.heap.size wr wi → wi.cell? ⟨g1, 5, none⟩ = some (.slice (some ⟨b1, o1, none⟩) n zq)) := Lib.hid (fun wi hi => lowc hi hc1)
   have HJ : Hid (j < n ∧ ((j : Int).toNat = j)) := Lib.hid ⟨hlt, by omega⟩
   have HSI : Hid (∀ wi, Below wr.heap.size wr wi → Calls Tryz.prog 33 #[.slice la.A p.items.length la.c, .slice lb.A q.items.length lb.c] wi fun e w' => e = .returned (.bool (decide (p.items = q.items))) ∧ Below wi.heap.size wi w') := Lib.hid (fun wi hi => sameItems_any la.A lb.A p.items q.items la.c lb.c wi (ht0.1.later hi) (ht1.1.later hi) (by have := HSM.out; omega))
   have HSN : Hid (∀ wi, Below wr.heap.size wr wi → Calls Tryz.prog 34 #[.slice la.B p.nodes.length la.d, .slice lb.B q.nodes.length lb.d] wi fun e w' => e = .returned (.bool (decide (p.nodes = q.nodes))) ∧ Below wi.heap.size wi w') := Lib.hid (fun wi hi => sameNodes_any la.B lb.B p.nodes q.nodes la.d lb.d wi (ht0.2.1.later hi) (ht1.2.1.later hi) (by have := HSM.out; omega))
   clear hr0 hr1 hsa hsb hp hq hl0 hl1 ht0 ht1 hla hlb hy0 hz0
   obtain ⟨td, htd⟩ : ∃ v, (!(decide (p.tid.node = q.tid.node) && decide (p.tid.epoch = q.tid.epoch) && decide (p.tid.seq = q.tid.seq))) = v := ⟨_, rfl⟩
   have HNE : Hid (∀ w, (binOp .neq 47 (.agg #[.int .i64 p.tid.node, .int .i64 p.tid.epoch, .int .i64 p.tid.seq]) (.agg #[.int .i64 q.tid.node, .int .i64 q.tid.epoch, .int .i64 q.tid.seq])).run Tryz.prog w = .ok (.bool td) w) := Lib.hid (fun w => by rw [tid_neq, htd])
   have HTD : Hid (td = false ↔ p.tid = q.tid) := Lib.hid (by
    rw [← htd]
    obtain ⟨⟨p1, p2, p3⟩, p4, p5⟩ := p
    obtain ⟨⟨q1, q2, q3⟩, q4, q5⟩ := q
    simp [and_assoc])
   clear htd
   cases td with
   | true =>
    have HNO2 := Lib.hid (HNO.out fun e => by have := HTD.out.2 (by rw [e]); cases this)
    go_wp2_with fail
    refine Reg.region_heavy (by kernel_rfl) 44 [44] (ss11_T (.agg #[.int .i64 p.tid.node, .int .i64 p.tid.epoch, .int .i64 p.tid.seq]) (.agg #[.int .i64 q.tid.node, .int .i64 q.tid.epoch, .int .i64 q.tid.seq]) g0 g1 b0 o0 n yq b1 o1 n zq j) (fun a => Below wr.heap.size wr a) (fun a => Below wr.heap.size wr a) (fun V => [(some 98, V 0), (some 99, V 1), (some 100, V 2), (some 101, V 3), (some 102, V 4), (some 103, V 5), (some 104, V 6), (some 105, V 7), (some 106, V 8), (some 107, V 9), (some 108, V 10), (some 109, V 11), (some 110, V 12), (some 111, V 13), (some 112, V 14), (some 113, V 15), (some 114, V 16), (some 115, V 17), (some 116, V 18), (some 117, V 19), (some 118, V 20), (some 119, V 21), (some 120, V 22), (some 121, V 23), (some 122, V 24), (some 123, V 25), (some 124, V 26), (some 125, V 27), (some 126, V 28), (some 127, V 29), (some 128, V 30), (some 129, V 31), (some 130, V 32), (some 131, V 33), (some 132, V 34), (some 133, V 35), (some 134, V 36), (some 135, V 37), (some 136, V 38), (some 137, V 39), (some 138, V 40), (some 139, V 41), (some 140, V 42), (some 141, V 43), (some 142, V 44)]) (by kernel_rfl) (by kernel_rfl) (by kernel_rfl) (fun V => rfl) ?_ ?_ ?_
    ·exact (Below.refl _ _).drew
    ·intro i o ho
     have hi : i < 45 := (Array.getElem?_eq_some_iff.1 ho).1
     rcases i with _ | _ | _ | _ | _ | _ | _ | _ | _ | _ | _ | _ | _ | _ | _ | _ | _ | _ | _ | _ | _ | _ | _ | _ | _ | _ | _ | _ | _ | _ | _ | _ | _ | _ | _ | _ | _ | _ | _ | _ | _ | _ | _ | _ | _ | i
     rotate_right
     ·omega
     all_goals obtain rfl := Option.some.inj ho
     all_goals intro ρ wi hE hI hs hd
     all_goals try dsimp only at hI
     ·have e2 : ρ (.tmp 2) = .pointer (some ⟨g0, 0, none⟩) := hs 2; exact Reg.gw hI
     ·obtain ⟨_, rfl, e98⟩ := hd 0 98; have hx := HCA.out wi hI; exact Reg.gw hI
     ·have e6 : ρ (.tmp 6) = .int .i64 (j : Int) := hs 6; exact Reg.gw hI
     ·obtain ⟨_, rfl, e99⟩ := hd 1 99; obtain ⟨_, rfl, e100⟩ := hd 2 100; have hx1 := HJ.out.1; have hx2 := HJ.out.2; exact Reg.gw hI
     ·obtain ⟨_, rfl, e101⟩ := hd 3 101; exact Reg.gw hI
     ·obtain ⟨_, rfl, e102⟩ := hd 4 102; have hr := range_later HRA.out hI; have u0 : wi.cell? ⟨b0, o0 + j * 5, none⟩ = some (.int .i64 p.tid.node) := hr 0 _ rfl; have u1 : wi.cell? ⟨b0, o0 + j * 5 + 1, none⟩ = some (.int .i64 p.tid.epoch) := hr 1 _ rfl; have u2 : wi.cell? ⟨b0, o0 + j * 5 + 2, none⟩ = some (.int .i64 p.tid.seq) := hr 2 _ rfl; exact Reg.gw hI
     ·have e3 : ρ (.tmp 3) = .pointer (some ⟨g1, 0, none⟩) := hs 3; exact Reg.gw hI
     ·obtain ⟨_, rfl, e104⟩ := hd 6 104; have hx := HCB.out wi hI; exact Reg.gw hI
     ·have e6 : ρ (.tmp 6) = .int .i64 (j : Int) := hs 6; exact Reg.gw hI
     ·obtain ⟨_, rfl, e105⟩ := hd 7 105; obtain ⟨_, rfl, e106⟩ := hd 8 106; have hx1 := HJ.out.1; have hx2 := HJ.out.2; exact Reg.gw hI
     ·obtain ⟨_, rfl, e107⟩ := hd 9 107; exact Reg.gw hI
     ·obtain ⟨_, rfl, e108⟩ := hd 10 108; have hr := range_later HRB.out hI; have u0 : wi.cell? ⟨b1, o1 + j * 5, none⟩ = some (.int .i64 q.tid.node) := hr 0 _ rfl; have u1 : wi.cell? ⟨b1, o1 + j * 5 + 1, none⟩ = some (.int .i64 q.tid.epoch) := hr 1 _ rfl; have u2 : wi.cell? ⟨b1, o1 + j * 5 + 2, none⟩ = some (.int .i64 q.tid.seq) := hr 2 _ rfl; exact Reg.gw hI
     ·obtain ⟨_, rfl, e103⟩ := hd 5 103; obtain ⟨_, rfl, e109⟩ := hd 11 109
      exact Reg.Gives.value (v := .bool true) (w' := wi) (exec_bin .neq 47 _ _ _ rfl _ _ e103 e109 (by kernel_rfl) (HNE.out wi)) (Reg.OwedH.same hI rfl)
     ·obtain ⟨_, rfl, e110⟩ := hd 12 110; exact Reg.gw hI
     ·exact Reg.no hI
     ·exact Reg.no hI
     ·exact Reg.no hI
     ·exact Reg.no hI
     ·exact Reg.no hI
     ·exact Reg.no hI
     ·exact Reg.no hI
     ·exact Reg.no hI
     ·exact Reg.no hI
     ·exact Reg.no hI
     ·exact Reg.no hI
     ·exact Reg.no hI
     ·exact Reg.no hI
     ·exact Reg.no hI
     ·obtain ⟨_, rfl, e111⟩ := hd 13 111; obtain ⟨_, rfl, e125⟩ := hd 27 125; have hc := hE.const; exact Reg.gw hI
     ·obtain ⟨_, rfl, e126⟩ := hd 28 126; exact Reg.gw hI
     ·exact Reg.no hI
     ·exact Reg.no hI
     ·exact Reg.no hI
     ·exact Reg.no hI
     ·exact Reg.no hI
     ·exact Reg.no hI
     ·exact Reg.no hI
     ·exact Reg.no hI
     ·exact Reg.no hI
     ·exact Reg.no hI
     ·exact Reg.no hI
     ·exact Reg.no hI
     ·exact Reg.no hI
     ·exact Reg.no hI
     ·obtain ⟨_, rfl, e127⟩ := hd 29 127; obtain ⟨_, rfl, e141⟩ := hd 43 141; have hc := hE.const; exact Reg.gw hI
    ·intro V wa hV hI
     have hV44 : V 44 = .bool true := hV 44 (by decide) rfl
     simp only [Reg.putsO, List.foldl_cons, List.foldl_nil, Act.put, List.setIfInBounds_toArray, List.set_cons_succ, List.set_cons_zero, hV44]
     replace hI : (fun a => Below wr.heap.size wr a) wa := hI
     clear hV hV44
     have HW := Lib.hid (HB.out.trans (hI.mono HB.out.size))
     clear hI
     go_wp2_with fail
     go_returns
     exact ⟨sameOut (by simp [HNO2.out]), H00.out.trans (HW.out.mono H00.out.size)⟩
   | false =>
    by_cases hit : p.items = q.items
    ·have HSI2 : Hid (∀ wi, Below wr.heap.size wr wi → Calls Tryz.prog 33 #[.slice la.A p.items.length la.c, .slice lb.A q.items.length lb.c] wi fun e w' => e = .returned (.bool true) ∧ Below wi.heap.size wi w') := Lib.hid (fun wi hi => by have h := HSI.out wi hi; rw [decide_eq_true hit] at h; exact h)
     obtain ⟨nd, hnd⟩ : ∃ v, decide (p.nodes = q.nodes) = v := ⟨_, rfl⟩
     rw [hnd] at HSN
     have HND : Hid (nd = true ↔ p.nodes = q.nodes) := Lib.hid (by rw [← hnd]; exact decide_eq_true_iff)
     have HIT := Lib.hid hit
     clear hit hnd
     go_wp2_with fail
     refine Reg.region_heavy (by kernel_rfl) 44 [44] (ss11_N (.agg #[.int .i64 p.tid.node, .int .i64 p.tid.epoch, .int .i64 p.tid.seq]) (.agg #[.int .i64 q.tid.node, .int .i64 q.tid.epoch, .int .i64 q.tid.seq]) (.slice la.A p.items.length la.c) (.slice lb.A q.items.length lb.c) (.slice la.B p.nodes.length la.d) (.slice lb.B q.nodes.length lb.d) g0 g1 b0 o0 n yq b1 o1 n zq j nd) (fun a => Below wr.heap.size wr a) (fun a => Below wr.heap.size wr a) (fun V => [(some 98, V 0), (some 99, V 1), (some 100, V 2), (some 101, V 3), (some 102, V 4), (some 103, V 5), (some 104, V 6), (some 105, V 7), (some 106, V 8), (some 107, V 9), (some 108, V 10), (some 109, V 11), (some 110, V 12), (some 111, V 13), (some 112, V 14), (some 113, V 15), (some 114, V 16), (some 115, V 17), (some 116, V 18), (some 117, V 19), (some 118, V 20), (some 119, V 21), (some 120, V 22), (some 121, V 23), (some 122, V 24), (some 123, V 25), (some 124, V 26), (some 125, V 27), (some 126, V 28), (some 127, V 29), (some 128, V 30), (some 129, V 31), (some 130, V 32), (some 131, V 33), (some 132, V 34), (some 133, V 35), (some 134, V 36), (some 135, V 37), (some 136, V 38), (some 137, V 39), (some 138, V 40), (some 139, V 41), (some 140, V 42), (some 141, V 43), (some 142, V 44)]) (by kernel_rfl) (by kernel_rfl) (by kernel_rfl) (fun V => rfl) ?_ ?_ ?_
     ·exact (Below.refl _ _).drew
     ·intro i o ho
      have hi : i < 45 := (Array.getElem?_eq_some_iff.1 ho).1
      rcases i with _ | _ | _ | _ | _ | _ | _ | _ | _ | _ | _ | _ | _ | _ | _ | _ | _ | _ | _ | _ | _ | _ | _ | _ | _ | _ | _ | _ | _ | _ | _ | _ | _ | _ | _ | _ | _ | _ | _ | _ | _ | _ | _ | _ | _ | i
      rotate_right
      ·omega
      all_goals obtain rfl := Option.some.inj ho
      all_goals intro ρ wi hE hI hs hd
      all_goals try dsimp only at hI
      ·have e2 : ρ (.tmp 2) = .pointer (some ⟨g0, 0, none⟩) := hs 2; exact Reg.gw hI
      ·obtain ⟨_, rfl, e98⟩ := hd 0 98; have hx := HCA.out wi hI; exact Reg.gw hI
      ·have e6 : ρ (.tmp 6) = .int .i64 (j : Int) := hs 6; exact Reg.gw hI
      ·obtain ⟨_, rfl, e99⟩ := hd 1 99; obtain ⟨_, rfl, e100⟩ := hd 2 100; have hx1 := HJ.out.1; have hx2 := HJ.out.2; exact Reg.gw hI
      ·obtain ⟨_, rfl, e101⟩ := hd 3 101; exact Reg.gw hI
      ·obtain ⟨_, rfl, e102⟩ := hd 4 102; have hr := range_later HRA.out hI; have u0 : wi.cell? ⟨b0, o0 + j * 5, none⟩ = some (.int .i64 p.tid.node) := hr 0 _ rfl; have u1 : wi.cell? ⟨b0, o0 + j * 5 + 1, none⟩ = some (.int .i64 p.tid.epoch) := hr 1 _ rfl; have u2 : wi.cell? ⟨b0, o0 + j * 5 + 2, none⟩ = some (.int .i64 p.tid.seq) := hr 2 _ rfl; exact Reg.gw hI
      ·have e3 : ρ (.tmp 3) = .pointer (some ⟨g1, 0, none⟩) := hs 3; exact Reg.gw hI
      ·obtain ⟨_, rfl, e104⟩ := hd 6 104; have hx := HCB.out wi hI; exact Reg.gw hI
      ·have e6 : ρ (.tmp 6) = .int .i64 (j : Int) := hs 6; exact Reg.gw hI
      ·obtain ⟨_, rfl, e105⟩ := hd 7 105; obtain ⟨_, rfl, e106⟩ := hd 8 106; have hx1 := HJ.out.1; have hx2 := HJ.out.2; exact Reg.gw hI
      ·obtain ⟨_, rfl, e107⟩ := hd 9 107; exact Reg.gw hI
      ·obtain ⟨_, rfl, e108⟩ := hd 10 108; have hr := range_later HRB.out hI; have u0 : wi.cell? ⟨b1, o1 + j * 5, none⟩ = some (.int .i64 q.tid.node) := hr 0 _ rfl; have u1 : wi.cell? ⟨b1, o1 + j * 5 + 1, none⟩ = some (.int .i64 q.tid.epoch) := hr 1 _ rfl; have u2 : wi.cell? ⟨b1, o1 + j * 5 + 2, none⟩ = some (.int .i64 q.tid.seq) := hr 2 _ rfl; exact Reg.gw hI
      ·obtain ⟨_, rfl, e103⟩ := hd 5 103; obtain ⟨_, rfl, e109⟩ := hd 11 109
       exact Reg.Gives.value (v := .bool false) (w' := wi) (exec_bin .neq 47 _ _ _ rfl _ _ e103 e109 (by kernel_rfl) (HNE.out wi)) (Reg.OwedH.same hI rfl)
      ·obtain ⟨_, rfl, e110⟩ := hd 12 110; exact Reg.gw hI
      ·have e2 : ρ (.tmp 2) = .pointer (some ⟨g0, 0, none⟩) := hs 2
       refine Reg.yes ?_
       exact Reg.gw hI
      ·obtain ⟨_, rfl, e112⟩ := hd 14 112
       refine Reg.yes ?_
       have hx := HCA.out wi hI; exact Reg.gw hI
      ·have e6 : ρ (.tmp 6) = .int .i64 (j : Int) := hs 6
       refine Reg.yes ?_
       exact Reg.gw hI
      ·obtain ⟨_, rfl, e113⟩ := hd 15 113; obtain ⟨_, rfl, e114⟩ := hd 16 114
       refine Reg.yes ?_
       have hx1 := HJ.out.1; have hx2 := HJ.out.2; exact Reg.gw hI
      ·obtain ⟨_, rfl, e115⟩ := hd 17 115
       refine Reg.yes ?_
       exact Reg.gw hI
      ·obtain ⟨_, rfl, e116⟩ := hd 18 116
       refine Reg.yes ?_
       have hr := range_later HRA.out hI; have u3 : wi.cell? ⟨b0, o0 + j * 5 + 3, none⟩ = some (.slice la.A p.items.length la.c) := hr 3 _ rfl; exact Reg.gw hI
      ·have e3 : ρ (.tmp 3) = .pointer (some ⟨g1, 0, none⟩) := hs 3
       refine Reg.yes ?_
       exact Reg.gw hI
      ·obtain ⟨_, rfl, e118⟩ := hd 20 118
       refine Reg.yes ?_
       have hx := HCB.out wi hI; exact Reg.gw hI
      ·have e6 : ρ (.tmp 6) = .int .i64 (j : Int) := hs 6
       refine Reg.yes ?_
       exact Reg.gw hI
      ·obtain ⟨_, rfl, e119⟩ := hd 21 119; obtain ⟨_, rfl, e120⟩ := hd 22 120
       refine Reg.yes ?_
       have hx1 := HJ.out.1; have hx2 := HJ.out.2; exact Reg.gw hI
      ·obtain ⟨_, rfl, e121⟩ := hd 23 121
       refine Reg.yes ?_
       exact Reg.gw hI
      ·obtain ⟨_, rfl, e122⟩ := hd 24 122
       refine Reg.yes ?_
       have hr := range_later HRB.out hI; have u3 : wi.cell? ⟨b1, o1 + j * 5 + 3, none⟩ = some (.slice lb.A q.items.length lb.c) := hr 3 _ rfl; exact Reg.gw hI
      ·obtain ⟨_, rfl, e117⟩ := hd 19 117; obtain ⟨_, rfl, e123⟩ := hd 25 123; have hf := hE.func
       refine Reg.yes ?_
       refine Reg.Gives.call (f := 33) (args := #[.slice la.A p.items.length la.c, .slice lb.A q.items.length lb.c]) (w' := wi) (by go_simp) ?_
       refine (HSI2.out wi hI).mono ?_
       rintro e w'' ⟨rfl, hbb⟩
       exact ⟨_, rfl, ⟨rfl, hI.trans (hbb.mono hI.size), fun j u _ _ h => ss11_N_later hbb h⟩⟩
      ·obtain ⟨_, rfl, e124⟩ := hd 26 124
       refine Reg.yes ?_
       exact Reg.gw hI
      ·obtain ⟨_, rfl, e111⟩ := hd 13 111; obtain ⟨_, rfl, e125⟩ := hd 27 125; have hc := hE.const; exact Reg.gw hI
      ·obtain ⟨_, rfl, e126⟩ := hd 28 126; exact Reg.gw hI
      ·have e2 : ρ (.tmp 2) = .pointer (some ⟨g0, 0, none⟩) := hs 2
       refine Reg.yes ?_
       exact Reg.gw hI
      ·obtain ⟨_, rfl, e128⟩ := hd 30 128
       refine Reg.yes ?_
       have hx := HCA.out wi hI; exact Reg.gw hI
      ·have e6 : ρ (.tmp 6) = .int .i64 (j : Int) := hs 6
       refine Reg.yes ?_
       exact Reg.gw hI
      ·obtain ⟨_, rfl, e129⟩ := hd 31 129; obtain ⟨_, rfl, e130⟩ := hd 32 130
       refine Reg.yes ?_
       have hx1 := HJ.out.1; have hx2 := HJ.out.2; exact Reg.gw hI
      ·obtain ⟨_, rfl, e131⟩ := hd 33 131
       refine Reg.yes ?_
       exact Reg.gw hI
      ·obtain ⟨_, rfl, e132⟩ := hd 34 132
       refine Reg.yes ?_
       have hr := range_later HRA.out hI; have u4 : wi.cell? ⟨b0, o0 + j * 5 + 4, none⟩ = some (.slice la.B p.nodes.length la.d) := hr 4 _ rfl; exact Reg.gw hI
      ·have e3 : ρ (.tmp 3) = .pointer (some ⟨g1, 0, none⟩) := hs 3
       refine Reg.yes ?_
       exact Reg.gw hI
      ·obtain ⟨_, rfl, e134⟩ := hd 36 134
       refine Reg.yes ?_
       have hx := HCB.out wi hI; exact Reg.gw hI
      ·have e6 : ρ (.tmp 6) = .int .i64 (j : Int) := hs 6
       refine Reg.yes ?_
       exact Reg.gw hI
      ·obtain ⟨_, rfl, e135⟩ := hd 37 135; obtain ⟨_, rfl, e136⟩ := hd 38 136
       refine Reg.yes ?_
       have hx1 := HJ.out.1; have hx2 := HJ.out.2; exact Reg.gw hI
      ·obtain ⟨_, rfl, e137⟩ := hd 39 137
       refine Reg.yes ?_
       exact Reg.gw hI
      ·obtain ⟨_, rfl, e138⟩ := hd 40 138
       refine Reg.yes ?_
       have hr := range_later HRB.out hI; have u4 : wi.cell? ⟨b1, o1 + j * 5 + 4, none⟩ = some (.slice lb.B q.nodes.length lb.d) := hr 4 _ rfl; exact Reg.gw hI
      ·obtain ⟨_, rfl, e133⟩ := hd 35 133; obtain ⟨_, rfl, e139⟩ := hd 41 139; have hf := hE.func
       refine Reg.yes ?_
       refine Reg.Gives.call (f := 34) (args := #[.slice la.B p.nodes.length la.d, .slice lb.B q.nodes.length lb.d]) (w' := wi) (by go_simp) ?_
       refine (HSN.out wi hI).mono ?_
       rintro e w'' ⟨rfl, hbb⟩
       exact ⟨_, rfl, ⟨rfl, hI.trans (hbb.mono hI.size), fun j u _ _ h => ss11_N_later hbb h⟩⟩
      ·obtain ⟨_, rfl, e140⟩ := hd 42 140
       refine Reg.yes ?_
       exact Reg.gw hI
      ·obtain ⟨_, rfl, e127⟩ := hd 29 127; obtain ⟨_, rfl, e141⟩ := hd 43 141; have hc := hE.const; exact Reg.gw hI
     ·intro V wa hV hI
      have hV44 : V 44 = .bool (!nd) := hV 44 (by decide) rfl
      simp only [Reg.putsO, List.foldl_cons, List.foldl_nil, Act.put, List.setIfInBounds_toArray, List.set_cons_succ, List.set_cons_zero, hV44]
      replace hI : (fun a => Below wr.heap.size wr a) wa := hI
      clear hV hV44
      have HW := Lib.hid (HB.out.trans (hI.mono HB.out.size))
      clear hI
      cases nd with
      | true =>
       have HNX2 := Lib.hid (HNX.out (by
        have h1 := HTD.out.1 (by trivial)
        have h2 := HIT.out
        have h3 := HND.out.1 (by trivial)
        obtain ⟨p1, p2, p3⟩ := p
        obtain ⟨q1, q2, q3⟩ := q
        simp only at h1 h2 h3
        rw [h1, h2, h3]))
       go_wp2_with fail
       go_roundw
       case rel => exact ⟨j + 1, by omega, by go_num, HNX2, HW⟩
       case measure => simp [intOf]; omega
      | false =>
       have HNO2 := Lib.hid (HNO.out fun e => by have := HND.out.2 (by rw [e]); cases this)
       go_wp2_with fail
       go_returns
       exact ⟨sameOut (by simp [HNO2.out]), H00.out.trans (HW.out.mono H00.out.size)⟩
    ·have HSI2 : Hid (∀ wi, Below wr.heap.size wr wi → Calls Tryz.prog 33 #[.slice la.A p.items.length la.c, .slice lb.A q.items.length lb.c] wi fun e w' => e = .returned (.bool false) ∧ Below wi.heap.size wi w') := Lib.hid (fun wi hi => by have h := HSI.out wi hi; rw [decide_eq_false hit] at h; exact h)
     have HNO2 := Lib.hid (HNO.out fun e => hit (by rw [e]))
     clear hit
     go_wp2_with fail
     refine Reg.region_heavy (by kernel_rfl) 44 [44] (ss11_I (.agg #[.int .i64 p.tid.node, .int .i64 p.tid.epoch, .int .i64 p.tid.seq]) (.agg #[.int .i64 q.tid.node, .int .i64 q.tid.epoch, .int .i64 q.tid.seq]) (.slice la.A p.items.length la.c) (.slice lb.A q.items.length lb.c) g0 g1 b0 o0 n yq b1 o1 n zq j) (fun a => Below wr.heap.size wr a) (fun a => Below wr.heap.size wr a) (fun V => [(some 98, V 0), (some 99, V 1), (some 100, V 2), (some 101, V 3), (some 102, V 4), (some 103, V 5), (some 104, V 6), (some 105, V 7), (some 106, V 8), (some 107, V 9), (some 108, V 10), (some 109, V 11), (some 110, V 12), (some 111, V 13), (some 112, V 14), (some 113, V 15), (some 114, V 16), (some 115, V 17), (some 116, V 18), (some 117, V 19), (some 118, V 20), (some 119, V 21), (some 120, V 22), (some 121, V 23), (some 122, V 24), (some 123, V 25), (some 124, V 26), (some 125, V 27), (some 126, V 28), (some 127, V 29), (some 128, V 30), (some 129, V 31), (some 130, V 32), (some 131, V 33), (some 132, V 34), (some 133, V 35), (some 134, V 36), (some 135, V 37), (some 136, V 38), (some 137, V 39), (some 138, V 40), (some 139, V 41), (some 140, V 42), (some 141, V 43), (some 142, V 44)]) (by kernel_rfl) (by kernel_rfl) (by kernel_rfl) (fun V => rfl) ?_ ?_ ?_
     ·exact (Below.refl _ _).drew
     ·intro i o ho
      have hi : i < 45 := (Array.getElem?_eq_some_iff.1 ho).1
      rcases i with _ | _ | _ | _ | _ | _ | _ | _ | _ | _ | _ | _ | _ | _ | _ | _ | _ | _ | _ | _ | _ | _ | _ | _ | _ | _ | _ | _ | _ | _ | _ | _ | _ | _ | _ | _ | _ | _ | _ | _ | _ | _ | _ | _ | _ | i
      rotate_right
      ·omega
      all_goals obtain rfl := Option.some.inj ho
      all_goals intro ρ wi hE hI hs hd
      all_goals try dsimp only at hI
      ·have e2 : ρ (.tmp 2) = .pointer (some ⟨g0, 0, none⟩) := hs 2; exact Reg.gw hI
      ·obtain ⟨_, rfl, e98⟩ := hd 0 98; have hx := HCA.out wi hI; exact Reg.gw hI
      ·have e6 : ρ (.tmp 6) = .int .i64 (j : Int) := hs 6; exact Reg.gw hI
      ·obtain ⟨_, rfl, e99⟩ := hd 1 99; obtain ⟨_, rfl, e100⟩ := hd 2 100; have hx1 := HJ.out.1; have hx2 := HJ.out.2; exact Reg.gw hI
      ·obtain ⟨_, rfl, e101⟩ := hd 3 101; exact Reg.gw hI
      ·obtain ⟨_, rfl, e102⟩ := hd 4 102; have hr := range_later HRA.out hI; have u0 : wi.cell? ⟨b0, o0 + j * 5, none⟩ = some (.int .i64 p.tid.node) := hr 0 _ rfl; have u1 : wi.cell? ⟨b0, o0 + j * 5 + 1, none⟩ = some (.int .i64 p.tid.epoch) := hr 1 _ rfl; have u2 : wi.cell? ⟨b0, o0 + j * 5 + 2, none⟩ = some (.int .i64 p.tid.seq) := hr 2 _ rfl; exact Reg.gw hI
      ·have e3 : ρ (.tmp 3) = .pointer (some ⟨g1, 0, none⟩) := hs 3; exact Reg.gw hI
      ·obtain ⟨_, rfl, e104⟩ := hd 6 104; have hx := HCB.out wi hI; exact Reg.gw hI
      ·have e6 : ρ (.tmp 6) = .int .i64 (j : Int) := hs 6; exact Reg.gw hI
      ·obtain ⟨_, rfl, e105⟩ := hd 7 105; obtain ⟨_, rfl, e106⟩ := hd 8 106; have hx1 := HJ.out.1; have hx2 := HJ.out.2; exact Reg.gw hI
      ·obtain ⟨_, rfl, e107⟩ := hd 9 107; exact Reg.gw hI
      ·obtain ⟨_, rfl, e108⟩ := hd 10 108; have hr := range_later HRB.out hI; have u0 : wi.cell? ⟨b1, o1 + j * 5, none⟩ = some (.int .i64 q.tid.node) := hr 0 _ rfl; have u1 : wi.cell? ⟨b1, o1 + j * 5 + 1, none⟩ = some (.int .i64 q.tid.epoch) := hr 1 _ rfl; have u2 : wi.cell? ⟨b1, o1 + j * 5 + 2, none⟩ = some (.int .i64 q.tid.seq) := hr 2 _ rfl; exact Reg.gw hI
      ·obtain ⟨_, rfl, e103⟩ := hd 5 103; obtain ⟨_, rfl, e109⟩ := hd 11 109
       exact Reg.Gives.value (v := .bool false) (w' := wi) (exec_bin .neq 47 _ _ _ rfl _ _ e103 e109 (by kernel_rfl) (HNE.out wi)) (Reg.OwedH.same hI rfl)
      ·obtain ⟨_, rfl, e110⟩ := hd 12 110; exact Reg.gw hI
      ·have e2 : ρ (.tmp 2) = .pointer (some ⟨g0, 0, none⟩) := hs 2
       refine Reg.yes ?_
       exact Reg.gw hI
      ·obtain ⟨_, rfl, e112⟩ := hd 14 112
       refine Reg.yes ?_
       have hx := HCA.out wi hI; exact Reg.gw hI
      ·have e6 : ρ (.tmp 6) = .int .i64 (j : Int) := hs 6
       refine Reg.yes ?_
       exact Reg.gw hI
      ·obtain ⟨_, rfl, e113⟩ := hd 15 113; obtain ⟨_, rfl, e114⟩ := hd 16 114
       refine Reg.yes ?_
       have hx1 := HJ.out.1; have hx2 := HJ.out.2; exact Reg.gw hI
      ·obtain ⟨_, rfl, e115⟩ := hd 17 115
       refine Reg.yes ?_
       exact Reg.gw hI
      ·obtain ⟨_, rfl, e116⟩ := hd 18 116
       refine Reg.yes ?_
       have hr := range_later HRA.out hI; have u3 : wi.cell? ⟨b0, o0 + j * 5 + 3, none⟩ = some (.slice la.A p.items.length la.c) := hr 3 _ rfl; exact Reg.gw hI
      ·have e3 : ρ (.tmp 3) = .pointer (some ⟨g1, 0, none⟩) := hs 3
       refine Reg.yes ?_
       exact Reg.gw hI
      ·obtain ⟨_, rfl, e118⟩ := hd 20 118
       refine Reg.yes ?_
       have hx := HCB.out wi hI; exact Reg.gw hI
      ·have e6 : ρ (.tmp 6) = .int .i64 (j : Int) := hs 6
       refine Reg.yes ?_
       exact Reg.gw hI
      ·obtain ⟨_, rfl, e119⟩ := hd 21 119; obtain ⟨_, rfl, e120⟩ := hd 22 120
       refine Reg.yes ?_
       have hx1 := HJ.out.1; have hx2 := HJ.out.2; exact Reg.gw hI
      ·obtain ⟨_, rfl, e121⟩ := hd 23 121
       refine Reg.yes ?_
       exact Reg.gw hI
      ·obtain ⟨_, rfl, e122⟩ := hd 24 122
       refine Reg.yes ?_
       have hr := range_later HRB.out hI; have u3 : wi.cell? ⟨b1, o1 + j * 5 + 3, none⟩ = some (.slice lb.A q.items.length lb.c) := hr 3 _ rfl; exact Reg.gw hI
      ·obtain ⟨_, rfl, e117⟩ := hd 19 117; obtain ⟨_, rfl, e123⟩ := hd 25 123; have hf := hE.func
       refine Reg.yes ?_
       refine Reg.Gives.call (f := 33) (args := #[.slice la.A p.items.length la.c, .slice lb.A q.items.length lb.c]) (w' := wi) (by go_simp) ?_
       refine (HSI2.out wi hI).mono ?_
       rintro e w'' ⟨rfl, hbb⟩
       exact ⟨_, rfl, ⟨rfl, hI.trans (hbb.mono hI.size), fun j u _ _ h => ss11_I_later hbb h⟩⟩
      ·obtain ⟨_, rfl, e124⟩ := hd 26 124
       refine Reg.yes ?_
       exact Reg.gw hI
      ·obtain ⟨_, rfl, e111⟩ := hd 13 111; obtain ⟨_, rfl, e125⟩ := hd 27 125; have hc := hE.const; exact Reg.gw hI
      ·obtain ⟨_, rfl, e126⟩ := hd 28 126; exact Reg.gw hI
      ·exact Reg.no hI
      ·exact Reg.no hI
      ·exact Reg.no hI
      ·exact Reg.no hI
      ·exact Reg.no hI
      ·exact Reg.no hI
      ·exact Reg.no hI
      ·exact Reg.no hI
      ·exact Reg.no hI
      ·exact Reg.no hI
      ·exact Reg.no hI
      ·exact Reg.no hI
      ·exact Reg.no hI
      ·exact Reg.no hI
      ·obtain ⟨_, rfl, e127⟩ := hd 29 127; obtain ⟨_, rfl, e141⟩ := hd 43 141; have hc := hE.const; exact Reg.gw hI
     ·intro V wa hV hI
      have hV44 : V 44 = .bool true := hV 44 (by decide) rfl
      simp only [Reg.putsO, List.foldl_cons, List.foldl_nil, Act.put, List.setIfInBounds_toArray, List.set_cons_succ, List.set_cons_zero, hV44]
      replace hI : (fun a => Below wr.heap.size wr a) wa := hI
      clear hV hV44
      have HW := Lib.hid (HB.out.trans (hI.mono HB.out.size))
      clear hI
      go_wp2_with fail
      go_returns
      exact ⟨sameOut (by simp [HNO2.out]), H00.out.trans (HW.out.mono H00.out.size)⟩
  ·have hjn : j = n := by omega
   have HEQ : Hid (s.prep = t.prep) := Lib.hid (by
    have h := HT.out
    rw [List.take_of_length_le (by have := HN.out.1; omega), List.take_of_length_le (by have := HN.out.2; omega)] at h
    exact h)
   clear hjn
   go_wp2_with fail
   exact HKT.out _ _ (same13 H00.out HH.out HB.out HL.out.2 ⟨fun e => (HQ.out.1 e).2, fun e => HQ.out.2 ⟨HEQ.out, e⟩⟩ (by kernel_rfl))
def ss6 (xa xb : Value) (ga gb ba oa na ca bb ob nb cb jx : Nat) (xd : Bool) : Nat → Value → World → Prop
 | 0, v, _ => v = .pointer (some ⟨ga, 4, none⟩)
 | 1, v, _ => v = .slice (some ⟨ba, oa, none⟩) na ca
 | 2, v, _ => v = .int .i64 (jx : Int)
 | 3, v, _ => v = .pointer (some ⟨ba, oa + jx * 5, none⟩)
 | 4, v, _ => v = xa
 | 5, v, _ => v = .pointer (some ⟨gb, 4, none⟩)
 | 6, v, _ => v = .slice (some ⟨bb, ob, none⟩) nb cb
 | 7, v, _ => v = .int .i64 (jx : Int)
 | 8, v, _ => v = .pointer (some ⟨bb, ob + jx * 5, none⟩)
 | 9, v, _ => v = xb
 | 10, v, _ => v = .bool xd
 | _, _, _ => True
set_option maxHeartbeats 4000000 in
theorem same3 {w0 w2 wr : World} {g0 g1 : Nat} {s t : St} {y z : Sy} (h0 : Below w0.heap.size w0 w2) (h : Sm w2 g0 g1 s t y z) (hb : Below w2.heap.size w2 wr) (hl : s.places.length = t.places.length ∧ s.prep.length = t.prep.length ∧ s.dec.length = t.dec.length ∧ s.com.length = t.com.length) (hq : (s = t) ↔ s.places = t.places ∧ s.prep = t.prep ∧ s.dec = t.dec ∧ s.com = t.com)
  {cc : Code} (hc : cc = sub [1, 1] ((Tryz.f10.body).getD .skip)) {s0 s1 s4 s5 s6 s7 s8 s9 s10 s11 s12 s13 s14 s15 s16 s17 s18 s19 s20 s21 s22 s23 s24 s25 s26 s27 s28 s29 s30 s31 s32 s33 s34 s35 s36 s37 s38 s39 s40 s41 s42 s43 s44 s45 s46 s47 s48 s49 s50 s51 s52 s53 s54 s55 s56 s57 s58 s59 s60 s61 s62 s63 s64 s65 s66 s67 s68 s69 s70 s71 s72 s73 s74 s75 s76 s77 s78 s79 s80 s81 s82 s83 s84 s85 s86 s87 s88 s89 s90 s91 s92 s93 s94 s95 s96 s97 s98 s99 s100 s101 s102 s103 s104 s105 s106 s107 s108 s109 s110 s111 s112 s113 s114 s115 s116 s117 s118 s119 s120 s121 s122 s123 s124 s125 s126 s127 s128 s129 s130 s131 s132 s133 s134 s135 s136 s137 s138 s139 s140 s141 s142 s143 s144 s145 s146 s147 s148 s149 s150 s151 s152 s153 s154 s155 s156 s157 s158 s159 s160 s161 s162 s163 s164 s165 s166 s167 s168 s169 s170 s171 s172 s173 s174 s175 s176 s177 s178 s179 s180 s181 s182 s183 s184 s185 s186 s187 s188 s189 s190 s191 s192 s193 s194 s195 s196 s197 s198 s199 s200 s201 s202 s203 s204 s205 : Value} :
  cc.wp Tryz.prog (bodyPost Tryz.prog Tryz.f10 (fun e w' => SameOut (s = t) e ∧ Below w0.heap.size w0 w')) { tmps := List.toArray (s0::s1::.pointer (some ⟨g0, 0, none⟩)::.pointer (some ⟨g1, 0, none⟩)::s4::s5::s6::s7::s8::s9::s10::s11::s12::s13::s14::s15::s16::s17::s18::s19::s20::s21::s22::s23::s24::s25::s26::s27::s28::s29::s30::s31::s32::s33::s34::s35::s36::s37::s38::s39::s40::s41::s42::s43::s44::s45::s46::s47::s48::s49::s50::s51::s52::s53::s54::s55::s56::s57::s58::s59::s60::s61::s62::s63::s64::s65::s66::s67::s68::s69::s70::s71::s72::s73::s74::s75::s76::s77::s78::s79::s80::s81::s82::s83::s84::s85::s86::s87::s88::s89::s90::s91::s92::s93::s94::s95::s96::s97::s98::s99::s100::s101::s102::s103::s104::s105::s106::s107::s108::s109::s110::s111::s112::s113::s114::s115::s116::s117::s118::s119::s120::s121::s122::s123::s124::s125::s126::s127::s128::s129::s130::s131::s132::s133::s134::s135::s136::s137::s138::s139::s140::s141::s142::s143::s144::s145::s146::s147::s148::s149::s150::s151::s152::s153::s154::s155::s156::s157::s158::s159::s160::s161::s162::s163::s164::s165::s166::s167::s168::s169::s170::s171::s172::s173::s174::s175::s176::s177::s178::s179::s180::s181::s182::s183::s184::s185::s186::s187::s188::s189::s190::s191::s192::s193::s194::s195::s196::s197::s198::s199::s200::s201::s202::s203::s204::s205::[]), defers := [] } wr := by
 conv at hc => rhs; whnf
 subst hc
 apply wp_seq_k
 intro K hK
 have HKT := Lib.hid hK
 clear hK
 have H00 := Lib.hid h0
 clear h0
 obtain ⟨yP, yp, yQ, yq, yD, yd, yC, yc, yps, ycs⟩ := y
 obtain ⟨zP, zp, zQ, zq, zD, zd, zC, zc, zps, zcs⟩ := z
 have HH := Lib.hid h
 have HB0 := Lib.hid hb
 have HL := Lib.hid hl
 have HQ := Lib.hid hq
 obtain ⟨n, hn⟩ : ∃ n, s.places.length = n := ⟨_, rfl⟩
 have HN : Hid (s.places.length = n ∧ t.places.length = n) := Lib.hid ⟨hn, by rw [← hn]; exact (hl.1).symm⟩
 have hnb : n ≤ 100000 := by rw [← hn]; exact h.sm.places
 clear h hb hl hq hn
 go_wp2_with fail
 go_loopw [5] (fun i wr => ∃ (j : Nat), j ≤ n ∧ i = .int .i64 (j : Int) ∧ Hid (s.places.take j = t.places.take j) ∧ Hid (Below w2.heap.size w2 wr)) (fun i _ => n - (intOf i).toNat)
 case atStart => exact ⟨0, Nat.zero_le _, rfl, Lib.hid rfl, HB0⟩
 case round =>
  obtain ⟨j, hj, rfl, HT, HB⟩ := hrel
  have hc0 : wr.cell? ⟨g0, 4, none⟩ = some (.slice yP n yp) := by rw [← HN.out.1]; exact (HH.out.c0.later HB.out).cell (j := 4) rfl
  by_cases hlt : j < n
  ·have hl0 : j < s.places.length := by rw [HN.out.1]; exact hlt
   have hl1 : j < t.places.length := by rw [HN.out.2]; exact hlt
   have hsa := HH.out.a.later HB.out
   have hsb := HH.out.b.later HB.out
   obtain ⟨b0, o0, hA, hr0⟩ := hsa.places j (by rw [List.length_map]; exact hl0)
   obtain ⟨b1, o1, hA1, hr1⟩ := hsb.places j (by rw [List.length_map]; exact hl1)
   simp only at hA hA1
   subst hA
   subst hA1
   have hc0 : wr.cell? ⟨g0, 4, none⟩ = some (.slice (some ⟨b0, o0, none⟩) n yp) := by rw [← HN.out.1]; exact (HH.out.c0.later HB.out).cell (j := 4) rfl
   have hc1 : wr.cell? ⟨g1, 4, none⟩ = some (.slice (some ⟨b1, o1, none⟩) n zp) := by rw [← HN.out.2]; exact (HH.out.c1.later HB.out).cell (j := 4) rfl
   rw [List.getElem_map] at hr0 hr1
   obtain ⟨p, hp⟩ : ∃ p, s.places[j] = p := ⟨_, rfl⟩
   obtain ⟨q, hq⟩ : ∃ q, t.places[j] = q := ⟨_, rfl⟩
   have HNX : Hid (p = q → s.places.take (j + 1) = t.places.take (j + 1)) := Lib.hid (fun e => by rw [List.take_succ_eq_append_getElem hl0, List.take_succ_eq_append_getElem hl1, HT.out, hp, hq, e])
   have HNO : Hid (p ≠ q → ¬ s = t) := Lib.hid (fun e h => e (by rw [← hp, ← hq]; subst h; rfl))
   rw [hp] at hr0
   rw [hq] at hr1
   have HRA := Lib.hid hr0
   have HRB := Lib.hid hr1
   have HCA : Hid (∀ wi, Below wr.heap.size wr wi → wi.cell? ⟨g0, 4, none⟩ = some (.slice (some ⟨b0, o0, none⟩) n yp)) := Lib.hid (fun wi hi => lowc hi hc0)
   have HCB : Hid (∀ wi, Below wr.heap.size wr wi → wi.cell? ⟨g1, 4, none⟩ = some (.slice (some ⟨b1, o1, none⟩) n zp)) := Lib.hid (fun wi hi => lowc hi hc1)
   have HJ : Hid (j < n ∧ ((j : Int).toNat = j)) := Lib.hid ⟨hlt, by omega⟩
   clear hr0 hr1 hsa hsb hp hq hl0 hl1
   obtain ⟨dif, hdif⟩ : ∃ v, (!(decide (p.status = q.status) && decide (p.hop = q.hop) && decide (p.to = q.to) && decide (p.version = q.version) && decide (p.value = q.value))) = v := ⟨_, rfl⟩
   have HNE : Hid (∀ w, (binOp .neq 77 (.agg #[.int .i64 p.status, .int .i64 p.hop, .int .i64 p.to, .int .i64 p.version, .int .i64 p.value]) (.agg #[.int .i64 q.status, .int .i64 q.hop, .int .i64 q.to, .int .i64 q.version, .int .i64 q.value])).run Tryz.prog w = .ok (.bool dif) w) := Lib.hid (fun w => by rw [rplace_neq, hdif])
   have HDF : Hid (dif = false ↔ p = q) := Lib.hid (by
    rw [← hdif]
    obtain ⟨p1, p2, p3, p4, p5⟩ := p
    obtain ⟨q1, q2, q3, q4, q5⟩ := q
    simp [and_assoc])
   clear hdif
   go_wp2_with fail
   refine Reg.region_heavy (by kernel_rfl) 10 [10] (ss6 (.agg #[.int .i64 p.status, .int .i64 p.hop, .int .i64 p.to, .int .i64 p.version, .int .i64 p.value]) (.agg #[.int .i64 q.status, .int .i64 q.hop, .int .i64 q.to, .int .i64 q.version, .int .i64 q.value]) g0 g1 b0 o0 n yp b1 o1 n zp j dif) (fun a => Below wr.heap.size wr a) (fun a => Below wr.heap.size wr a) (fun V => [(some 80, V 0), (some 81, V 1), (some 82, V 2), (some 83, V 3), (some 84, V 4), (some 85, V 5), (some 86, V 6), (some 87, V 7), (some 88, V 8), (some 89, V 9), (some 90, V 10)]) (by kernel_rfl) (by kernel_rfl) (by kernel_rfl) (fun V => rfl) ?_ ?_ ?_
   ·exact (Below.refl _ _).drew
   ·intro i o ho
    have hi : i < 11 := (Array.getElem?_eq_some_iff.1 ho).1
    rcases i with _ | _ | _ | _ | _ | _ | _ | _ | _ | _ | _ | i
    rotate_right
    ·omega
    all_goals obtain rfl := Option.some.inj ho
    all_goals intro ρ wi hE hI hs hd
    all_goals try dsimp only at hI
    ·have e2 : ρ (.tmp 2) = .pointer (some ⟨g0, 0, none⟩) := hs 2; exact Reg.gw hI
    ·obtain ⟨_, rfl, e80⟩ := hd 0 80; have hx := HCA.out wi hI; exact Reg.gw hI
    ·have e5 : ρ (.tmp 5) = .int .i64 (j : Int) := hs 5; exact Reg.gw hI
    ·obtain ⟨_, rfl, e81⟩ := hd 1 81; obtain ⟨_, rfl, e82⟩ := hd 2 82; have hx1 := HJ.out.1; have hx2 := HJ.out.2; exact Reg.gw hI
    ·obtain ⟨_, rfl, e83⟩ := hd 3 83; have hr := range_later HRA.out hI; have u0 : wi.cell? ⟨b0, o0 + j * 5, none⟩ = some (.int .i64 p.status) := hr 0 _ rfl; have u1 : wi.cell? ⟨b0, o0 + j * 5 + 1, none⟩ = some (.int .i64 p.hop) := hr 1 _ rfl; have u2 : wi.cell? ⟨b0, o0 + j * 5 + 2, none⟩ = some (.int .i64 p.to) := hr 2 _ rfl
     have u3 : wi.cell? ⟨b0, o0 + j * 5 + 3, none⟩ = some (.int .i64 p.version) := hr 3 _ rfl; have u4 : wi.cell? ⟨b0, o0 + j * 5 + 4, none⟩ = some (.int .i64 p.value) := hr 4 _ rfl; exact Reg.gw hI
    ·have e3 : ρ (.tmp 3) = .pointer (some ⟨g1, 0, none⟩) := hs 3; exact Reg.gw hI
    ·obtain ⟨_, rfl, e85⟩ := hd 5 85; have hx := HCB.out wi hI; exact Reg.gw hI
    ·have e5 : ρ (.tmp 5) = .int .i64 (j : Int) := hs 5; exact Reg.gw hI
    ·obtain ⟨_, rfl, e86⟩ := hd 6 86; obtain ⟨_, rfl, e87⟩ := hd 7 87; have hx1 := HJ.out.1; have hx2 := HJ.out.2; exact Reg.gw hI
    ·obtain ⟨_, rfl, e88⟩ := hd 8 88; have hr := range_later HRB.out hI; have u0 : wi.cell? ⟨b1, o1 + j * 5, none⟩ = some (.int .i64 q.status) := hr 0 _ rfl; have u1 : wi.cell? ⟨b1, o1 + j * 5 + 1, none⟩ = some (.int .i64 q.hop) := hr 1 _ rfl; have u2 : wi.cell? ⟨b1, o1 + j * 5 + 2, none⟩ = some (.int .i64 q.to) := hr 2 _ rfl
     have u3 : wi.cell? ⟨b1, o1 + j * 5 + 3, none⟩ = some (.int .i64 q.version) := hr 3 _ rfl; have u4 : wi.cell? ⟨b1, o1 + j * 5 + 4, none⟩ = some (.int .i64 q.value) := hr 4 _ rfl; exact Reg.gw hI
    ·obtain ⟨_, rfl, e84⟩ := hd 4 84; obtain ⟨_, rfl, e89⟩ := hd 9 89
     exact Reg.Gives.value (v := .bool dif) (w' := wi) (exec_bin .neq 77 _ _ _ rfl _ _ e84 e89 (by kernel_rfl) (HNE.out wi)) (Reg.OwedH.same hI rfl)
   ·intro V wa hV hI
    have hV10 : V 10 = .bool dif := hV 10 (by decide) rfl
    simp only [Reg.putsO, List.foldl_cons, List.foldl_nil, Act.put, List.setIfInBounds_toArray, List.set_cons_succ, List.set_cons_zero, hV10]
    replace hI : (fun a => Below wr.heap.size wr a) wa := hI
    clear hV hV10
    have HW := Lib.hid (HB.out.trans (hI.mono HB.out.size))
    clear hI
    cases dif with
    | false =>
     have HNX2 := Lib.hid (HNX.out (HDF.out.1 (by trivial)))
     go_wp2_with fail
     go_roundw
     case rel => exact ⟨j + 1, by omega, by go_num, HNX2, HW⟩
     case measure => simp [intOf]; omega
    | true =>
     have HNO2 := Lib.hid (HNO.out fun e => by have := HDF.out.2 e; cases this)
     go_wp2_with fail
     go_returns
     exact ⟨sameOut (by simp [HNO2.out]), H00.out.trans (HW.out.mono H00.out.size)⟩
  ·have hjn : j = n := by omega
   have HEQ : Hid (s.places = t.places) := Lib.hid (by
    have h := HT.out
    rw [List.take_of_length_le (by have := HN.out.1; omega), List.take_of_length_le (by have := HN.out.2; omega)] at h
    exact h)
   clear hjn
   go_wp2_with fail
   exact HKT.out _ _ (same8 H00.out HH.out HB.out HL.out.2 ⟨fun e => (HQ.out.1 e).2, fun e => HQ.out.2 ⟨HEQ.out, e⟩⟩ (by kernel_rfl))
set_option maxHeartbeats 4000000 in
theorem same1 {w0 w2 wr : World} {g0 g1 : Nat} {s t : St} {y z : Sy} (h0 : Below w0.heap.size w0 w2) (h : Sm w2 g0 g1 s t y z) (hb : Below w2.heap.size w2 wr) 
  {cc : Code} (hc : cc = sub [1] ((Tryz.f10.body).getD .skip)) {s0 s1 s4 s5 s6 s7 s8 s9 s10 s11 s12 s13 s14 s15 s16 s17 s18 s19 s20 s21 s22 s23 s24 s25 s26 s27 s28 s29 s30 s31 s32 s33 s34 s35 s36 s37 s38 s39 s40 s41 s42 s43 s44 s45 s46 s47 s48 s49 s50 s51 s52 s53 s54 s55 s56 s57 s58 s59 s60 s61 s62 s63 s64 s65 s66 s67 s68 s69 s70 s71 s72 s73 s74 s75 s76 s77 s78 s79 s80 s81 s82 s83 s84 s85 s86 s87 s88 s89 s90 s91 s92 s93 s94 s95 s96 s97 s98 s99 s100 s101 s102 s103 s104 s105 s106 s107 s108 s109 s110 s111 s112 s113 s114 s115 s116 s117 s118 s119 s120 s121 s122 s123 s124 s125 s126 s127 s128 s129 s130 s131 s132 s133 s134 s135 s136 s137 s138 s139 s140 s141 s142 s143 s144 s145 s146 s147 s148 s149 s150 s151 s152 s153 s154 s155 s156 s157 s158 s159 s160 s161 s162 s163 s164 s165 s166 s167 s168 s169 s170 s171 s172 s173 s174 s175 s176 s177 s178 s179 s180 s181 s182 s183 s184 s185 s186 s187 s188 s189 s190 s191 s192 s193 s194 s195 s196 s197 s198 s199 s200 s201 s202 s203 s204 s205 : Value} :
  cc.wp Tryz.prog (bodyPost Tryz.prog Tryz.f10 (fun e w' => SameOut (s = t) e ∧ Below w0.heap.size w0 w')) { tmps := List.toArray (s0::s1::.pointer (some ⟨g0, 0, none⟩)::.pointer (some ⟨g1, 0, none⟩)::s4::s5::s6::s7::s8::s9::s10::s11::s12::s13::s14::s15::s16::s17::s18::s19::s20::s21::s22::s23::s24::s25::s26::s27::s28::s29::s30::s31::s32::s33::s34::s35::s36::s37::s38::s39::s40::s41::s42::s43::s44::s45::s46::s47::s48::s49::s50::s51::s52::s53::s54::s55::s56::s57::s58::s59::s60::s61::s62::s63::s64::s65::s66::s67::s68::s69::s70::s71::s72::s73::s74::s75::s76::s77::s78::s79::s80::s81::s82::s83::s84::s85::s86::s87::s88::s89::s90::s91::s92::s93::s94::s95::s96::s97::s98::s99::s100::s101::s102::s103::s104::s105::s106::s107::s108::s109::s110::s111::s112::s113::s114::s115::s116::s117::s118::s119::s120::s121::s122::s123::s124::s125::s126::s127::s128::s129::s130::s131::s132::s133::s134::s135::s136::s137::s138::s139::s140::s141::s142::s143::s144::s145::s146::s147::s148::s149::s150::s151::s152::s153::s154::s155::s156::s157::s158::s159::s160::s161::s162::s163::s164::s165::s166::s167::s168::s169::s170::s171::s172::s173::s174::s175::s176::s177::s178::s179::s180::s181::s182::s183::s184::s185::s186::s187::s188::s189::s190::s191::s192::s193::s194::s195::s196::s197::s198::s199::s200::s201::s202::s203::s204::s205::[]), defers := [] } wr := by
 conv at hc => rhs; whnf
 subst hc
 apply wp_seq_k
 intro K hK
 have HKT := Lib.hid hK
 clear hK
 have H00 := Lib.hid h0
 clear h0
 obtain ⟨yP, yp, yQ, yq, yD, yd, yC, yc, yps, ycs⟩ := y
 obtain ⟨zP, zp, zQ, zq, zD, zd, zC, zc, zps, zcs⟩ := z
 have HH := Lib.hid h
 have HB0 := Lib.hid hb
 obtain ⟨s1, s2, s3, s4, l1, l2, l3, l4⟩ := s
 obtain ⟨t1, t2, t3, t4, m1, m2, m3, m4⟩ := t
 have HB1 := Lib.hid (h.c0.later hb)
 have HB2 := Lib.hid (h.c1.later hb)
 unfold St.vals at HB1 HB2
 simp only at HB1 HB2
 obtain ⟨n1, hn1⟩ : ∃ n, l1.length = n := ⟨_, rfl⟩
 obtain ⟨k1, hk1⟩ : ∃ n, m1.length = n := ⟨_, rfl⟩
 obtain ⟨n2, hn2⟩ : ∃ n, l2.length = n := ⟨_, rfl⟩
 obtain ⟨k2, hk2⟩ : ∃ n, m2.length = n := ⟨_, rfl⟩
 obtain ⟨n3, hn3⟩ : ∃ n, l3.length = n := ⟨_, rfl⟩
 obtain ⟨k3, hk3⟩ : ∃ n, m3.length = n := ⟨_, rfl⟩
 obtain ⟨n4, hn4⟩ : ∃ n, l4.length = n := ⟨_, rfl⟩
 obtain ⟨k4, hk4⟩ : ∃ n, m4.length = n := ⟨_, rfl⟩
 have HLN : Hid (l1.length = n1 ∧ l2.length = n2 ∧ l3.length = n3 ∧ l4.length = n4 ∧ m1.length = k1 ∧ m2.length = k2 ∧ m3.length = k3 ∧ m4.length = k4) := Lib.hid ⟨hn1, hn2, hn3, hn4, hk1, hk2, hk3, hk4⟩
 rw [hn1, hn2, hn3, hn4] at HB1
 rw [hk1, hk2, hk3, hk4] at HB2
 clear hn1 hn2 hn3 hn4 hk1 hk2 hk3 hk4 h hb
 have x0 := HB1.out.cell (j := 0) rfl
 have z0 := HB2.out.cell (j := 0) rfl
 have x1 := HB1.out.cell (j := 1) rfl
 have z1 := HB2.out.cell (j := 1) rfl
 have x2 := HB1.out.cell (j := 2) rfl
 have z2 := HB2.out.cell (j := 2) rfl
 have x3 := HB1.out.cell (j := 3) rfl
 have z3 := HB2.out.cell (j := 3) rfl
 have x4 := HB1.out.cell (j := 4) rfl
 have z4 := HB2.out.cell (j := 4) rfl
 have x5 := HB1.out.cell (j := 5) rfl
 have z5 := HB2.out.cell (j := 5) rfl
 have x6 := HB1.out.cell (j := 6) rfl
 have z6 := HB2.out.cell (j := 6) rfl
 have x7 := HB1.out.cell (j := 7) rfl
 have z7 := HB2.out.cell (j := 7) rfl
 go_upto_region 1 with (fail)
 go_cut [72] from 11 to 73 (fun v wx => v = .bool (!decide (s1 = t1 ∧ s2 = t2 ∧ s3 = t3 ∧ s4 = t4 ∧ n1 = k1 ∧ n2 = k2 ∧ n3 = k3 ∧ n4 = k4)) ∧ wx = wr)
 case first =>
  by_cases e0 : s1 = t1
  rotate_left
  ·have hq1 : (s1 == t1) = false := by simp; omega
   have hq2 : (s1 != t1) = true := by simp; omega
   have HV : Hid (decide (s1 = t1 ∧ s2 = t2 ∧ s3 = t3 ∧ s4 = t4 ∧ n1 = k1 ∧ n2 = k2 ∧ n3 = k3 ∧ n4 = k4) = false) := Lib.hid (decide_eq_false (by omega))
   clear e0
   go_wp2_with fail
   go_meet
   exact ⟨by rw [HV.out]; rfl, rfl⟩
  by_cases e1 : s2 = t2
  rotate_left
  ·have hq1 : (s2 == t2) = false := by simp; omega
   have hq2 : (s2 != t2) = true := by simp; omega
   have HV : Hid (decide (s1 = t1 ∧ s2 = t2 ∧ s3 = t3 ∧ s4 = t4 ∧ n1 = k1 ∧ n2 = k2 ∧ n3 = k3 ∧ n4 = k4) = false) := Lib.hid (decide_eq_false (by omega))
   clear e1
   go_wp2_with fail
   go_meet
   exact ⟨by rw [HV.out]; rfl, rfl⟩
  by_cases e2 : s3 = t3
  rotate_left
  ·have hq1 : (s3 == t3) = false := by simp; omega
   have hq2 : (s3 != t3) = true := by simp; omega
   have HV : Hid (decide (s1 = t1 ∧ s2 = t2 ∧ s3 = t3 ∧ s4 = t4 ∧ n1 = k1 ∧ n2 = k2 ∧ n3 = k3 ∧ n4 = k4) = false) := Lib.hid (decide_eq_false (by omega))
   clear e2
   go_wp2_with fail
   go_meet
   exact ⟨by rw [HV.out]; rfl, rfl⟩
  by_cases e3 : s4 = t4
  rotate_left
  ·have hq1 : (s4 == t4) = false := by simp; omega
   have hq2 : (s4 != t4) = true := by simp; omega
   have HV : Hid (decide (s1 = t1 ∧ s2 = t2 ∧ s3 = t3 ∧ s4 = t4 ∧ n1 = k1 ∧ n2 = k2 ∧ n3 = k3 ∧ n4 = k4) = false) := Lib.hid (decide_eq_false (by omega))
   clear e3
   go_wp2_with fail
   go_meet
   exact ⟨by rw [HV.out]; rfl, rfl⟩
  by_cases e4 : n1 = k1
  rotate_left
  ·have hq1 : ((n1 : Int) == (k1 : Int)) = false := by simp; omega
   have hq2 : ((n1 : Int) != (k1 : Int)) = true := by simp; omega
   have HV : Hid (decide (s1 = t1 ∧ s2 = t2 ∧ s3 = t3 ∧ s4 = t4 ∧ n1 = k1 ∧ n2 = k2 ∧ n3 = k3 ∧ n4 = k4) = false) := Lib.hid (decide_eq_false (by omega))
   clear e4
   go_wp2_with fail
   go_meet
   exact ⟨by rw [HV.out]; rfl, rfl⟩
  by_cases e5 : n2 = k2
  rotate_left
  ·have hq1 : ((n2 : Int) == (k2 : Int)) = false := by simp; omega
   have hq2 : ((n2 : Int) != (k2 : Int)) = true := by simp; omega
   have HV : Hid (decide (s1 = t1 ∧ s2 = t2 ∧ s3 = t3 ∧ s4 = t4 ∧ n1 = k1 ∧ n2 = k2 ∧ n3 = k3 ∧ n4 = k4) = false) := Lib.hid (decide_eq_false (by omega))
   clear e5
   go_wp2_with fail
   go_meet
   exact ⟨by rw [HV.out]; rfl, rfl⟩
  by_cases e6 : n3 = k3
  rotate_left
  ·have hq1 : ((n3 : Int) == (k3 : Int)) = false := by simp; omega
   have hq2 : ((n3 : Int) != (k3 : Int)) = true := by simp; omega
   have HV : Hid (decide (s1 = t1 ∧ s2 = t2 ∧ s3 = t3 ∧ s4 = t4 ∧ n1 = k1 ∧ n2 = k2 ∧ n3 = k3 ∧ n4 = k4) = false) := Lib.hid (decide_eq_false (by omega))
   clear e6
   go_wp2_with fail
   go_meet
   exact ⟨by rw [HV.out]; rfl, rfl⟩
  by_cases e7 : n4 = k4
  rotate_left
  ·have hq1 : ((n4 : Int) == (k4 : Int)) = false := by simp; omega
   have hq2 : ((n4 : Int) != (k4 : Int)) = true := by simp; omega
   have HV : Hid (decide (s1 = t1 ∧ s2 = t2 ∧ s3 = t3 ∧ s4 = t4 ∧ n1 = k1 ∧ n2 = k2 ∧ n3 = k3 ∧ n4 = k4) = false) := Lib.hid (decide_eq_false (by omega))
   clear e7
   go_wp2_with fail
   go_meet
   exact ⟨by rw [HV.out]; rfl, rfl⟩
  have HV : Hid (decide (s1 = t1 ∧ s2 = t2 ∧ s3 = t3 ∧ s4 = t4 ∧ n1 = k1 ∧ n2 = k2 ∧ n3 = k3 ∧ n4 = k4) = true) := Lib.hid (decide_eq_true ⟨e0, e1, e2, e3, e4, e5, e6, e7⟩)
  go_wp2_with fail
  go_meet
  exact ⟨by rw [HV.out]; rfl, rfl⟩
 case rest =>
  obtain ⟨rfl, rfl⟩ := hcut
  by_cases hall : s1 = t1 ∧ s2 = t2 ∧ s3 = t3 ∧ s4 = t4 ∧ n1 = k1 ∧ n2 = k2 ∧ n3 = k3 ∧ n4 = k4
  ·rw [decide_eq_true hall]
   have HE := Lib.hid hall
   clear hall
   go_wp2_with fail
   have hln := HLN.out
   have hea := HE.out
   exact HKT.out _ _ (same3 H00.out HH.out HB0.out ⟨by simp only; omega, by simp only; omega, by simp only; omega, by simp only; omega⟩ (by
    simp only [St.mk.injEq]
    exact ⟨fun e => e.2.2.2.2, fun e => ⟨hea.1, hea.2.1, hea.2.2.1, hea.2.2.2.1, e⟩⟩) (by kernel_rfl))
  ·rw [decide_eq_false hall]
   have HNO2 : Hid (¬ (⟨s1, s2, s3, s4, l1, l2, l3, l4⟩ : St) = ⟨t1, t2, t3, t4, m1, m2, m3, m4⟩) := Lib.hid (fun e => by
    simp only [St.mk.injEq] at e
    obtain ⟨f1, f2, f3, f4, f5, f6, f7, f8⟩ := e
    have hln := HLN.out
    subst f5 f6 f7 f8
    omega)
   clear hall
   go_wp2_with fail
   go_returns
   exact ⟨sameOut (by simp [HNO2.out]), H00.out.trans (HB0.out.mono H00.out.size)⟩
set_option maxHeartbeats 4000000 in
theorem sameS_any (s t : St) (y z : Sy) (w : World) (ha : Sees w s y) (hb : Sees w t z) (hs : Small s) :
  Calls Tryz.prog 10 #[s.val y, t.val z] w fun e w' => SameOut (s = t) e ∧ Below w.heap.size w w' := by
 obtain ⟨w1, hw1⟩ : ∃ v, v = w.alloc (.cells #[.int .i64 s.node, .int .i64 s.nodes, .int .i64 s.cells, .int .i64 s.epoch, .slice y.P s.places.length y.p, .slice y.Q s.prep.length y.q, .slice y.D s.dec.length y.d, .slice y.C s.com.length y.c] 41) := ⟨_, rfl⟩
 obtain ⟨w2, hw2⟩ : ∃ v, v = w1.alloc (.cells #[.int .i64 t.node, .int .i64 t.nodes, .int .i64 t.cells, .int .i64 t.epoch, .slice z.P t.places.length z.p, .slice z.Q t.prep.length z.q, .slice z.D t.dec.length z.d, .slice z.C t.com.length z.c] 41) := ⟨_, rfl⟩
 have hb1 : Below w.heap.size w w1 := by rw [hw1]; exact below_alloc _ _
 have hb2 : Below w1.heap.size w1 w2 := by rw [hw2]; exact below_alloc _ _
 have hz1 : w1.heap.size = w.heap.size + 1 := by rw [hw1, World.size_alloc]
 have H02 : Hid (Below w.heap.size w w2) := Lib.hid (hb1.trans (hb2.mono hb1.size))
 have HSM : Hid (Sm w2 w.heap.size (w.heap.size + 1) s t y z) := Lib.hid ⟨by
  have q := cells_new w 41 (s.vals y) #[.int .i64 s.node, .int .i64 s.nodes, .int .i64 s.cells, .int .i64 s.epoch, .slice y.P s.places.length y.p, .slice y.Q s.prep.length y.q, .slice y.D s.dec.length y.d, .slice y.C s.com.length y.c] rfl
  rw [← hw1] at q
  exact q.later hb2, by
  have q := cells_new w1 41 (t.vals z) #[.int .i64 t.node, .int .i64 t.nodes, .int .i64 t.cells, .int .i64 t.epoch, .slice z.P t.places.length z.p, .slice z.Q t.prep.length z.q, .slice z.D t.dec.length z.d, .slice z.C t.com.length z.c] rfl
  rw [← hw2, hz1] at q
  exact q, ha.later H02.out, hb.later H02.out, hs⟩
 clear ha hb hs hb1 hb2
 unfold St.val
 go_enter Tryz.func10, Tryz.ntmps10
 apply wp_seq_k
 intro K hK
 have HKT := Lib.hid hK
 clear hK
 go_wp2_with fail
 rw [← hw1]
 rw [← hw2]
 try rw [hz1]
 exact HKT.out _ _ (same1 H02.out HSM.out (Below.refl _ _) (by kernel_rfl))
end Go.Proofs.YtalhbblmnahcdaaGreat.Led
