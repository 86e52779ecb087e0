/-
  Layer 8: are two states alike? The document's answer.
  Conditions: none.
-/
import Derived.Test.YtalhbblmnahcdaaGreatPa45
import Derived.Test.YtalhbblmnahcdaaGreatPa46
import Derived.Test.YtalhbblmnahcdaaGreatPa36
namespace Go.Proofs.YtalhbblmnahcdaaGreat.Led
set_option maxRecDepth 100000
open Go.RowKit Go.Deep Go.Proofs.YtalhbblmnahcdaaGreat.Mem Go.Proofs.YtalhbblmnahcdaaGreat.Item Go.Proofs.YtalhbblmnahcdaaGreat.Rec
/-- An answer that tells whether Q. -/
def SameOut (Q : Prop) (e : Ending) : Prop := ∃ v, e = .returned (.bool v) ∧ (v = true ↔ Q)
theorem sameOut {Q : Prop} {v : Bool} (h : v = true ↔ Q) : SameOut Q (.returned (.bool v)) := ⟨v, rfl, h⟩
/-- Where two states lie: their boxes, their lists. -/
structure Sm (w : World) (g0 g1 : Nat) (s t : St) (y z : Sy) : Prop where
 c0 : Cells w g0 41 (s.vals y)
 c1 : Cells w g1 41 (t.vals z)
 a : Sees w s y
 b : Sees w t z
 sm : Small s
/-- Two structs are copied into variables of the call's own, in whatever order. -/
structure CpSt (T : TypeId) (z l1 l2 : List Value) (wb : World) (d1 d2 d3 d4 : Bool) (v1 v2 : Value) (w : World) : Prop where
 low : Below wb.heap.size wb w
 one : d1 = true → ∃ g, v1 = .pointer (some ⟨g, 0, none⟩) ∧ wb.heap.size ≤ g ∧ Cells w g T (cond d3 l1 z)
 two : d2 = true → ∃ g, v2 = .pointer (some ⟨g, 0, none⟩) ∧ wb.heap.size ≤ g ∧ Cells w g T (cond d4 l2 z)
 ne : d1 = true → d2 = true → v1 ≠ v2
section
variable {T : TypeId} {z l1 l2 : List Value} {wb w : World} {d1 d2 d3 d4 : Bool} {v1 v2 : Value}
theorem CpSt.start {w' : World} (h : Below wb.heap.size wb w') (v1 v2 : Value) : CpSt T z l1 l2 wb false false false false v1 v2 w' := ⟨h, fun e => (by cases e), fun e => (by cases e), fun e => (by cases e)⟩
theorem CpSt.alloc1 (h : CpSt T z l1 l2 wb false d2 false d4 v1 v2 w) : CpSt T z l1 l2 wb true d2 false d4 (.pointer (some ⟨w.heap.size, 0, none⟩)) v2 (w.alloc (.cells z.toArray T)) := by
 have hb := below_alloc w (.cells z.toArray T)
 refine ⟨h.low.trans (hb.mono h.low.size), fun _ => ⟨_, rfl, h.low.size, cells_new _ _ _ _ rfl⟩, fun e => ?_, fun _ e hv => ?_⟩
 ·obtain ⟨g, e1, e2, e3⟩ := h.two e
  exact ⟨g, e1, e2, e3.later hb⟩
 ·obtain ⟨g, e1, e2, e3⟩ := h.two e
  rw [e1] at hv
  have hl := e3.lt
  simp at hv
theorem CpSt.alloc2 (h : CpSt T z l1 l2 wb d1 false d3 false v1 v2 w) : CpSt T z l1 l2 wb d1 true d3 false v1 (.pointer (some ⟨w.heap.size, 0, none⟩)) (w.alloc (.cells z.toArray T)) := by
 have hb := below_alloc w (.cells z.toArray T)
 refine ⟨h.low.trans (hb.mono h.low.size), fun e => ?_, fun _ => ⟨_, rfl, h.low.size, cells_new _ _ _ _ rfl⟩, fun e _ hv => ?_⟩
 ·obtain ⟨g, e1, e2, e3⟩ := h.one e
  exact ⟨g, e1, e2, e3.later hb⟩
 ·obtain ⟨g, e1, e2, e3⟩ := h.one e
  rw [e1] at hv
  have hl := e3.lt
  simp at hv
theorem CpSt.put1 (h : CpSt T z l1 l2 wb true d2 false d4 v1 v2 w) (hn : l1.length = z.length) : ∃ g, v1 = .pointer (some ⟨g, 0, none⟩) ∧ w.there g 0 l1.length ∧ CpSt T z l1 l2 wb true d2 true d4 v1 v2 (w.setCells g 0 l1) := by
 obtain ⟨g, e1, e2, e3⟩ := h.one rfl
 obtain ⟨p1, p2⟩ := e3.put (l := l1) hn
 refine ⟨g, e1, e3.there (by rw [hn]; exact Nat.le_refl _), h.low.trans (p2.below h.low.size fun j e => by rw [e]; exact e2), fun _ => ⟨g, e1, e2, p1⟩, fun e => ?_, h.ne⟩
 obtain ⟨k, f1, f2, f3⟩ := h.two e
 exact ⟨k, f1, f2, cells_only f3 p2 fun ek => h.ne rfl e (by rw [e1, f1, ek])⟩
theorem CpSt.put2 (h : CpSt T z l1 l2 wb d1 true d3 false v1 v2 w) (hn : l2.length = z.length) : ∃ g, v2 = .pointer (some ⟨g, 0, none⟩) ∧ w.there g 0 l2.length ∧ CpSt T z l1 l2 wb d1 true d3 true v1 v2 (w.setCells g 0 l2) := by
 obtain ⟨g, e1, e2, e3⟩ := h.two rfl
 obtain ⟨p1, p2⟩ := e3.put (l := l2) hn
 refine ⟨g, e1, e3.there (by rw [hn]; exact Nat.le_refl _), h.low.trans (p2.below h.low.size fun j e => by rw [e]; exact e2), fun e => ?_, fun _ => ⟨g, e1, e2, p1⟩, h.ne⟩
 obtain ⟨k, f1, f2, f3⟩ := h.one e
 exact ⟨k, f1, f2, cells_only f3 p2 fun ek => h.ne e rfl (by rw [e1, f1, ek])⟩
end
/-- Two structs are held against one another within a region. -/
theorem exec_bin {P : Program} {ρ : Operand → Value} {o : Oper} (op : BinOp) (t : TypeId) (x y : Operand) (t2 : TypeId) (ho : o.op = .binOp op t x y t2) (xs ys : Array Value) (hx : ρ x = .agg xs) (hy : ρ y = .agg ys) {v : Value} {w : World} (hm : P.eqGuardType P.depth t = false)
  (hrun : (binOp op t (.agg xs) (.agg ys)).run P w = .ok v w) : (execOp ρ o).run P w = .ok (.value v) w := by
 unfold execOp
 simp only [ho, hx, hy, Sem.run_bind, Sem.run_pure, Result.andThen_ok, run_eqGuard_agg w op t x y xs ys hm, hrun]
theorem rplace_neq (a b c d e x y z u v : Int) (w : World) : (binOp .neq 77 (.agg #[.int .i64 a, .int .i64 b, .int .i64 c, .int .i64 d, .int .i64 e]) (.agg #[.int .i64 x, .int .i64 y, .int .i64 z, .int .i64 u, .int .i64 v])).run Tryz.prog w = .ok (.bool (!(decide (a = x) && decide (b = y) && decide (c = z) && decide (d = u) && decide (e = v)))) w := by
 have e1 : Tryz.prog.underlying 77 = some (.struct (Tryz.prog.fieldsOf 77)) := by kernel_rfl
 have e2 : Tryz.prog.stoodInHeld 77 = false := by kernel_rfl
 rw [run_neq_struct, run_equalIn_agg w _ _ _ _ e1 e2]
 obtain ⟨f0, f1, f2, f3, f4, hf, t0, t1, t2, t3, t4, o0, o1, o2, o3, o4, n0, n1, n2, n3, n4⟩ : ∃ f0 f1 f2 f3 f4 : Field, (Tryz.prog.fieldsOf 77).toList = [f0, f1, f2, f3, f4] ∧ f0.type = 3 ∧ f1.type = 3 ∧ f2.type = 3 ∧ f3.type = 3 ∧ f4.type = 3 ∧ f0.offset = 0 ∧ f1.offset = 1 ∧ f2.offset = 2 ∧ f3.offset = 3 ∧ f4.offset = 4 ∧ f0.name ≠ "_" ∧ f1.name ≠ "_" ∧ f2.name ≠ "_" ∧ f3.name ≠ "_" ∧ f4.name ≠ "_" := ⟨_, _, _, _, _, rfl, rfl, rfl, rfl, rfl, rfl, rfl, rfl, rfl, rfl, rfl, by decide, by decide, by decide, by decide, by decide⟩
 rw [hf]
 have hu := Tryz.underlying3
 by_cases ha : a = x
 ·by_cases hb : b = y
  ·by_cases hc : c = z
   ·by_cases hd : d = u
    ·by_cases he : e = v
     ·simp [Op.eqFields, n0, n1, n2, n3, n4, t0, t1, t2, t3, t4, o0, o1, o2, o3, o4, go_sem, hu, ha, hb, hc, hd, he]
     ·simp [Op.eqFields, n0, n1, n2, n3, n4, t0, t1, t2, t3, t4, o0, o1, o2, o3, o4, go_sem, hu, ha, hb, hc, hd, he]
    ·simp [Op.eqFields, n0, n1, n2, n3, t0, t1, t2, t3, o0, o1, o2, o3, go_sem, hu, ha, hb, hc, hd]
   ·simp [Op.eqFields, n0, n1, n2, t0, t1, t2, o0, o1, o2, go_sem, hu, ha, hb, hc]
  ·simp [Op.eqFields, n0, n1, t0, t1, o0, o1, go_sem, hu, ha, hb]
 ·simp [Op.eqFields, n0, t0, o0, go_sem, hu, ha]
theorem rdec_neq (a b c x y z : Int) (d u : Bool) (w : World) : (binOp .neq 83 (.agg #[.int .i64 a, .int .i64 b, .int .i64 c, .bool d]) (.agg #[.int .i64 x, .int .i64 y, .int .i64 z, .bool u])).run Tryz.prog w = .ok (.bool (!((decide (a = x) && decide (b = y) && decide (c = z)) && (d == u)))) w := by
 have e1 : Tryz.prog.underlying 83 = some (.struct (Tryz.prog.fieldsOf 83)) := by kernel_rfl
 have e2 : Tryz.prog.stoodInHeld 83 = false := by kernel_rfl
 rw [run_neq_struct, run_equalIn_agg w _ _ _ _ e1 e2]
 obtain ⟨f0, f1, hf, t0, t1, o0, o1, n0, n1⟩ : ∃ f0 f1 : Field, (Tryz.prog.fieldsOf 83).toList = [f0, f1] ∧ f0.type = 47 ∧ f1.type = 4 ∧ f0.offset = 0 ∧ f1.offset = 3 ∧ f0.name ≠ "_" ∧ f1.name ≠ "_" := ⟨_, _, rfl, rfl, rfl, rfl, rfl, by decide, by decide⟩
 have g1 : Tryz.prog.underlying 47 = some (.struct (Tryz.prog.fieldsOf 47)) := by kernel_rfl
 have g2 : Tryz.prog.stoodInHeld 47 = false := by kernel_rfl
 have hv := Tryz.underlying4
 have hu := Tryz.underlying3
 obtain ⟨i0, i1, i2, hi, s0, s1, s2, p0, p1, p2, m0, m1, m2⟩ : ∃ f0 f1 f2 : Field, (Tryz.prog.fieldsOf 47).toList = [f0, f1, f2] ∧ f0.type = 3 ∧ f1.type = 3 ∧ f2.type = 3 ∧ f0.offset = 0 ∧ f1.offset = 1 ∧ f2.offset = 2 ∧ f0.name ≠ "_" ∧ f1.name ≠ "_" ∧ f2.name ≠ "_" := ⟨_, _, _, rfl, rfl, rfl, rfl, rfl, rfl, rfl, by decide, by decide, by decide⟩
 rw [hf]
 obtain ⟨TE, hTE⟩ : ∃ v, (decide (a = x) && decide (b = y) && decide (c = z)) = v := ⟨_, rfl⟩
 have hT : ∀ w, (Op.equalIn 9999 47 (.agg #[.int .i64 a, .int .i64 b, .int .i64 c]) (.agg #[.int .i64 x, .int .i64 y, .int .i64 z])).run Tryz.prog w = .ok TE w := by
  intro w
  rw [run_equalIn_agg w 9998 _ _ _ g1 g2, hi, ← hTE]
  by_cases ha : a = x
  ·by_cases hb : b = y
   ·by_cases hc : c = z
    ·simp [Op.eqFields, m0, m1, m2, s0, s1, s2, p0, p1, p2, go_sem, hu, ha, hb, hc]
    ·simp [Op.eqFields, m0, m1, m2, s0, s1, s2, p0, p1, p2, go_sem, hu, ha, hb, hc]
   ·simp [Op.eqFields, m0, m1, s0, s1, p0, p1, go_sem, hu, ha, hb]
  ·simp [Op.eqFields, m0, s0, p0, go_sem, hu, ha]
 rw [hTE]
 clear hTE
 cases TE
 ·simp [Op.eqFields, n0, t0, o0, go_sem, hT]
 ·by_cases hd : d = u <;> simp [Op.eqFields, n0, n1, t0, t1, o0, o1, go_sem, hv, hT, hd]
set_option maxHeartbeats 4000000 in
theorem same18 {w0 w2 wr : World} {g0 g1 : Nat} {s t : St} {y z : Sy} (h0 : Below w0.heap.size w0 w2) (h : Sm w2 g0 g1 s t y z) (hb : Below w2.heap.size w2 wr) (hl : s.com.length = t.com.length) (hq : (s = t) ↔ s.com = t.com)
  {cc : Code} (hc : cc = sub [1, 1, 1, 1, 1] ((Tryz.f10.body).getD .skip)) {s0 s1 s4 s5 s6 s7 s8 s9 s10 s11 s12 s13 s14 s15 s16 s17 s18 s19 s20 s21 s22 s23 s24 s25 s26 s27 s28 s29 s30 s31 s32 s33 s34 s35 s36 s37 s38 s39 s40 s41 s42 s43 s44 s45 s46 s47 s48 s49 s50 s51 s52 s53 s54 s55 s56 s57 s58 s59 s60 s61 s62 s63 s64 s65 s66 s67 s68 s69 s70 s71 s72 s73 s74 s75 s76 s77 s78 s79 s80 s81 s82 s83 s84 s85 s86 s87 s88 s89 s90 s91 s92 s93 s94 s95 s96 s97 s98 s99 s100 s101 s102 s103 s104 s105 s106 s107 s108 s109 s110 s111 s112 s113 s114 s115 s116 s117 s118 s119 s120 s121 s122 s123 s124 s125 s126 s127 s128 s129 s130 s131 s132 s133 s134 s135 s136 s137 s138 s139 s140 s141 s142 s143 s144 s145 s146 s147 s148 s149 s150 s151 s152 s153 s154 s155 s156 s157 s158 s159 s160 s161 s162 s163 s164 s165 s166 s167 s168 s169 s170 s171 s172 s173 s174 s175 s176 s177 s178 s179 s180 s181 s182 s183 s184 s185 s186 s187 s188 s189 s190 s191 s192 s193 s194 s195 s196 s197 s198 s199 s200 s201 s202 s203 s204 s205 : Value} :
  cc.wp Tryz.prog (bodyPost Tryz.prog Tryz.f10 (fun e w' => SameOut (s = t) e ∧ Below w0.heap.size w0 w')) { tmps := List.toArray (s0::s1::.pointer (some ⟨g0, 0, none⟩)::.pointer (some ⟨g1, 0, none⟩)::s4::s5::s6::s7::s8::s9::s10::s11::s12::s13::s14::s15::s16::s17::s18::s19::s20::s21::s22::s23::s24::s25::s26::s27::s28::s29::s30::s31::s32::s33::s34::s35::s36::s37::s38::s39::s40::s41::s42::s43::s44::s45::s46::s47::s48::s49::s50::s51::s52::s53::s54::s55::s56::s57::s58::s59::s60::s61::s62::s63::s64::s65::s66::s67::s68::s69::s70::s71::s72::s73::s74::s75::s76::s77::s78::s79::s80::s81::s82::s83::s84::s85::s86::s87::s88::s89::s90::s91::s92::s93::s94::s95::s96::s97::s98::s99::s100::s101::s102::s103::s104::s105::s106::s107::s108::s109::s110::s111::s112::s113::s114::s115::s116::s117::s118::s119::s120::s121::s122::s123::s124::s125::s126::s127::s128::s129::s130::s131::s132::s133::s134::s135::s136::s137::s138::s139::s140::s141::s142::s143::s144::s145::s146::s147::s148::s149::s150::s151::s152::s153::s154::s155::s156::s157::s158::s159::s160::s161::s162::s163::s164::s165::s166::s167::s168::s169::s170::s171::s172::s173::s174::s175::s176::s177::s178::s179::s180::s181::s182::s183::s184::s185::s186::s187::s188::s189::s190::s191::s192::s193::s194::s195::s196::s197::s198::s199::s200::s201::s202::s203::s204::s205::[]), defers := [] } wr := by
 conv at hc => rhs; whnf
 subst hc
 apply wp_seq_k
 intro K hK
 have HKT := Lib.hid hK
 clear hK
 have H00 := Lib.hid h0
 clear h0
 obtain ⟨yP, yp, yQ, yq, yD, yd, yC, yc, yps, ycs⟩ := y
 obtain ⟨zP, zp, zQ, zq, zD, zd, zC, zc, zps, zcs⟩ := z
 have HH := Lib.hid h
 have HB0 := Lib.hid hb
 have HL := Lib.hid hl
 have HQ := Lib.hid hq
 obtain ⟨n, hn⟩ : ∃ n, s.com.length = n := ⟨_, rfl⟩
 have HN : Hid (s.com.length = n ∧ t.com.length = n) := Lib.hid ⟨hn, by rw [← hn]; exact (hl).symm⟩
 have hnb : n ≤ 100000 := by rw [← hn]; exact h.sm.com
 clear h hb hl hq hn
 go_wp2_with fail
 go_loopw [8, 9, 10] (fun i _ _ wr => ∃ (j : Nat), j ≤ n ∧ i = .int .i64 (j : Int) ∧ Hid (s.com.take j = t.com.take j) ∧ Hid (Below w2.heap.size w2 wr)) (fun i _ _ _ => n - (intOf i).toNat)
 case atStart => exact ⟨0, Nat.zero_le _, rfl, Lib.hid rfl, HB0⟩
 case round =>
  obtain ⟨j, hj, rfl, HT, HB⟩ := hrel
  have hc0 : wr.cell? ⟨g0, 7, none⟩ = some (.slice yC n yc) := by rw [← HN.out.1]; exact (HH.out.c0.later HB.out).cell (j := 7) rfl
  by_cases hlt : j < n
  ·have hl0 : j < s.com.length := by rw [HN.out.1]; exact hlt
   have hl1 : j < t.com.length := by rw [HN.out.2]; exact hlt
   have hsa := HH.out.a.later HB.out
   have hsb := HH.out.b.later HB.out
   have hy0 : j < ycs.length := by have := hsa.cs; simp only at this; omega
   have hz0 : j < zcs.length := by have := hsb.cs; simp only at this; omega
   obtain ⟨b0, o0, hA, hr0⟩ := hsa.com j (by rw [List.length_zipWith]; simp only; omega)
   obtain ⟨b1, o1, hA1, hr1⟩ := hsb.com j (by rw [List.length_zipWith]; simp only; omega)
   have ht0 := hsa.cin j hl0 hy0
   have ht1 := hsb.cin j hl1 hz0
   simp only at hA hA1
   subst hA
   subst hA1
   have hc0 : wr.cell? ⟨g0, 7, none⟩ = some (.slice (some ⟨b0, o0, none⟩) n yc) := by rw [← HN.out.1]; exact (HH.out.c0.later HB.out).cell (j := 7) rfl
   have hc1 : wr.cell? ⟨g1, 7, none⟩ = some (.slice (some ⟨b1, o1, none⟩) n zc) := by rw [← HN.out.2]; exact (HH.out.c1.later HB.out).cell (j := 7) rfl
   rw [List.getElem_zipWith] at hr0 hr1
   simp only at hr0 hr1 ht0 ht1
   obtain ⟨p, hp⟩ : ∃ p, s.com[j] = p := ⟨_, rfl⟩
   obtain ⟨q, hq⟩ : ∃ q, t.com[j] = q := ⟨_, rfl⟩
   have HNX : Hid (p = q → s.com.take (j + 1) = t.com.take (j + 1)) := Lib.hid (fun e => by rw [List.take_succ_eq_append_getElem hl0, List.take_succ_eq_append_getElem hl1, HT.out, hp, hq, e])
   have HNO : Hid (p ≠ q → ¬ s = t) := Lib.hid (fun e h => e (by rw [← hp, ← hq]; subst h; rfl))
   have HSM : Hid (p.items.length ≤ 100000 ∧ p.nodes.length ≤ 100000) := Lib.hid (by rw [← hp]; exact HH.out.sm.cin _ (List.getElem_mem hl0))
   obtain ⟨la, hla⟩ : ∃ l, ycs[j] = l := ⟨_, rfl⟩
   obtain ⟨lb, hlb⟩ : ∃ l, zcs[j] = l := ⟨_, rfl⟩
   rw [hla] at hr0 ht0
   rw [hlb] at hr1 ht1
   rw [hp] at ht0
   rw [hq] at ht1
   rw [hp] at hr0
   rw [hq] at hr1
   have HRA := Lib.hid hr0
   have HRB := Lib.hid hr1
   have HCA : Hid (∀ wi, Below wr.heap.size wr wi → wi.cell? ⟨g0, 7, none⟩ = some (.slice (some ⟨b0, o0, none⟩) n yc)) := Lib.hid (fun wi hi => lowc hi hc0)
   have HCB : Hid (∀ wi, Below wr.heap.size wr wi → wi.cell? ⟨g1, 7, none⟩ = some (.slice (some ⟨b1, o1, none⟩) n zc)) := Lib.hid (fun wi hi => lowc hi hc1)
   have HJ : Hid (j < n ∧ ((j : Int).toNat = j)) := Lib.hid ⟨hlt, by omega⟩
   have HSI : Hid (∀ wi, Below wr.heap.size wr wi → Calls Tryz.prog 33 #[.slice la.A p.items.length la.c, .slice lb.A q.items.length lb.c] wi fun e w' => e = .returned (.bool (decide (p.items = q.items))) ∧ Below wi.heap.size wi w') := Lib.hid (fun wi hi => sameItems_any la.A lb.A p.items q.items la.c lb.c wi (ht0.1.later hi) (ht1.1.later hi) (by have := HSM.out; omega))
   have HSN : Hid (∀ wi, Below wr.heap.size wr wi → Calls Tryz.prog 34 #[.slice la.B p.nodes.length la.d, .slice lb.B q.nodes.length lb.d] wi fun e w' => e = .returned (.bool (decide (p.nodes = q.nodes))) ∧ Below wi.heap.size wi w') := Lib.hid (fun wi hi => sameNodes_any la.B lb.B p.nodes q.nodes la.d lb.d wi (ht0.2.1.later hi) (ht1.2.1.later hi) (by have := HSM.out; omega))
   clear hr0 hr1 hsa hsb hp hq hl0 hl1 ht0 ht1 hla hlb hy0 hz0
   go_wp2_with fail
   refine Reg.region_inv (by kernel_rfl) (fun i => ([some (.pointer (some ⟨g0, 7, none⟩)), some (.slice (some ⟨b0, o0, none⟩) n yc), some (.int .i64 (j : Int)), some (.pointer (some ⟨b0, o0 + j * 6, none⟩)), some (.agg #[.int .i64 p.tid.node, .int .i64 p.tid.epoch, .int .i64 p.tid.seq, .slice la.A p.items.length la.c, .slice la.B p.nodes.length la.d, .bool p.over]), some (.pointer (some ⟨g1, 7, none⟩)), some (.slice (some ⟨b1, o1, none⟩) n zc), some (.int .i64 (j : Int)), some (.pointer (some ⟨b1, o1 + j * 6, none⟩)), some (.agg #[.int .i64 q.tid.node, .int .i64 q.tid.epoch, .int .i64 q.tid.seq, .slice lb.A q.items.length lb.c, .slice lb.B q.nodes.length lb.d, .bool q.over]), none, none, none, none] : List (Option Value)).getD i none) (fun D V W => CpSt 85 [.int .i64 0, .int .i64 0, .int .i64 0, .slice none 0 0, .slice none 0 0, .bool false] [.int .i64 p.tid.node, .int .i64 p.tid.epoch, .int .i64 p.tid.seq, .slice la.A p.items.length la.c, .slice la.B p.nodes.length la.d, .bool p.over] [.int .i64 q.tid.node, .int .i64 q.tid.epoch, .int .i64 q.tid.seq, .slice lb.A q.items.length lb.c, .slice lb.B q.nodes.length lb.d, .bool q.over] wr (D 10) (D 11) (D 12) (D 13) (V 10) (V 11) W) (fun V => [(some 168, V 0), (some 169, V 1), (some 170, V 2), (some 171, V 3), (some 172, V 4), (some 173, V 5), (some 174, V 6), (some 175, V 7), (some 176, V 8), (some 177, V 9), (some 9, V 10), (some 10, V 11), (none, V 12), (none, V 13)]) (by kernel_rfl) (by kernel_rfl) (fun V => rfl) ?_ ?_ ?_
   ·intro V
    exact CpSt.start (Below.refl _ _).drew _ _
   ·intro i o ho
    have hi : i < 14 := (Array.getElem?_eq_some_iff.1 ho).1
    rcases i with _ | _ | _ | _ | _ | _ | _ | _ | _ | _ | _ | _ | _ | _ | i
    rotate_right
    ·omega
    all_goals obtain rfl := Option.some.inj ho
    all_goals intro D V ρ wi hE hI hDi hT hF hs hd hk
    ·have e2 : ρ (.tmp 2) = .pointer (some ⟨g0, 0, none⟩) := hs 2; clear hT hF hk
     exact Reg.Gives.value (v := .pointer (some ⟨g0, 7, none⟩)) (w' := wi) (by go_simp) ⟨fun x h => Option.some.inj h, hI⟩
    ·have e168 : ρ (.tmp 168) = .pointer (some ⟨g0, 7, none⟩) := (hd 0 168).trans (hk 0 _ rfl); clear hT hF hk; have hx := HCA.out wi hI.low
     exact Reg.Gives.value (v := .slice (some ⟨b0, o0, none⟩) n yc) (w' := wi) (by go_simp) ⟨fun x h => Option.some.inj h, hI⟩
    ·have e8 : ρ (.tmp 8) = .int .i64 (j : Int) := hs 8; clear hT hF hk
     exact Reg.Gives.value (v := .int .i64 (j : Int)) (w' := wi) (by go_simp) ⟨fun x h => Option.some.inj h, hI⟩
    ·have e169 : ρ (.tmp 169) = .slice (some ⟨b0, o0, none⟩) n yc := (hd 1 169).trans (hk 1 _ rfl); have e170 : ρ (.tmp 170) = .int .i64 (j : Int) := (hd 2 170).trans (hk 2 _ rfl); clear hT hF hk; have hx1 := HJ.out.1; have hx2 := HJ.out.2
     exact Reg.Gives.value (v := .pointer (some ⟨b0, o0 + j * 6, none⟩)) (w' := wi) (by go_simp) ⟨fun x h => Option.some.inj h, hI⟩
    ·have e171 : ρ (.tmp 171) = .pointer (some ⟨b0, o0 + j * 6, none⟩) := (hd 3 171).trans (hk 3 _ rfl); clear hT hF hk; have hr := range_later HRA.out hI.low; have u0 : wi.cell? ⟨b0, o0 + j * 6, none⟩ = some (.int .i64 p.tid.node) := hr 0 _ rfl; have u1 : wi.cell? ⟨b0, o0 + j * 6 + 1, none⟩ = some (.int .i64 p.tid.epoch) := hr 1 _ rfl
     have u2 : wi.cell? ⟨b0, o0 + j * 6 + 2, none⟩ = some (.int .i64 p.tid.seq) := hr 2 _ rfl; have u3 : wi.cell? ⟨b0, o0 + j * 6 + 3, none⟩ = some (.slice la.A p.items.length la.c) := hr 3 _ rfl; have u4 : wi.cell? ⟨b0, o0 + j * 6 + 4, none⟩ = some (.slice la.B p.nodes.length la.d) := hr 4 _ rfl; have u5 : wi.cell? ⟨b0, o0 + j * 6 + 5, none⟩ = some (.bool p.over) := hr 5 _ rfl
     exact Reg.Gives.value (v := .agg #[.int .i64 p.tid.node, .int .i64 p.tid.epoch, .int .i64 p.tid.seq, .slice la.A p.items.length la.c, .slice la.B p.nodes.length la.d, .bool p.over]) (w' := wi) (by go_simp) ⟨fun x h => Option.some.inj h, hI⟩
    ·have e3 : ρ (.tmp 3) = .pointer (some ⟨g1, 0, none⟩) := hs 3; clear hT hF hk
     exact Reg.Gives.value (v := .pointer (some ⟨g1, 7, none⟩)) (w' := wi) (by go_simp) ⟨fun x h => Option.some.inj h, hI⟩
    ·have e173 : ρ (.tmp 173) = .pointer (some ⟨g1, 7, none⟩) := (hd 5 173).trans (hk 5 _ rfl); clear hT hF hk; have hx := HCB.out wi hI.low
     exact Reg.Gives.value (v := .slice (some ⟨b1, o1, none⟩) n zc) (w' := wi) (by go_simp) ⟨fun x h => Option.some.inj h, hI⟩
    ·have e8 : ρ (.tmp 8) = .int .i64 (j : Int) := hs 8; clear hT hF hk
     exact Reg.Gives.value (v := .int .i64 (j : Int)) (w' := wi) (by go_simp) ⟨fun x h => Option.some.inj h, hI⟩
    ·have e174 : ρ (.tmp 174) = .slice (some ⟨b1, o1, none⟩) n zc := (hd 6 174).trans (hk 6 _ rfl); have e175 : ρ (.tmp 175) = .int .i64 (j : Int) := (hd 7 175).trans (hk 7 _ rfl); clear hT hF hk; have hx1 := HJ.out.1; have hx2 := HJ.out.2
     exact Reg.Gives.value (v := .pointer (some ⟨b1, o1 + j * 6, none⟩)) (w' := wi) (by go_simp) ⟨fun x h => Option.some.inj h, hI⟩
    ·have e176 : ρ (.tmp 176) = .pointer (some ⟨b1, o1 + j * 6, none⟩) := (hd 8 176).trans (hk 8 _ rfl); clear hT hF hk; have hr := range_later HRB.out hI.low; have u0 : wi.cell? ⟨b1, o1 + j * 6, none⟩ = some (.int .i64 q.tid.node) := hr 0 _ rfl; have u1 : wi.cell? ⟨b1, o1 + j * 6 + 1, none⟩ = some (.int .i64 q.tid.epoch) := hr 1 _ rfl
     have u2 : wi.cell? ⟨b1, o1 + j * 6 + 2, none⟩ = some (.int .i64 q.tid.seq) := hr 2 _ rfl; have u3 : wi.cell? ⟨b1, o1 + j * 6 + 3, none⟩ = some (.slice lb.A q.items.length lb.c) := hr 3 _ rfl; have u4 : wi.cell? ⟨b1, o1 + j * 6 + 4, none⟩ = some (.slice lb.B q.nodes.length lb.d) := hr 4 _ rfl; have u5 : wi.cell? ⟨b1, o1 + j * 6 + 5, none⟩ = some (.bool q.over) := hr 5 _ rfl
     exact Reg.Gives.value (v := .agg #[.int .i64 q.tid.node, .int .i64 q.tid.epoch, .int .i64 q.tid.seq, .slice lb.A q.items.length lb.c, .slice lb.B q.nodes.length lb.d, .bool q.over]) (w' := wi) (by go_simp) ⟨fun x h => Option.some.inj h, hI⟩
    ·have hD10 : D 10 = false := hDi; have hD12 : D 12 = false := hF 1 12; clear hT hF
     rw [hD10, hD12] at hI
     exact Reg.Gives.value (v := .pointer (some ⟨wi.heap.size, 0, none⟩)) (w' := wi.alloc (.cells #[.int .i64 0, .int .i64 0, .int .i64 0, .slice none 0 0, .slice none 0 0, .bool false] 85)) (by go_simp) ⟨fun x h => (by cases h), by show CpSt 85 [.int .i64 0, .int .i64 0, .int .i64 0, .slice none 0 0, .slice none 0 0, .bool false] [.int .i64 p.tid.node, .int .i64 p.tid.epoch, .int .i64 p.tid.seq, .slice la.A p.items.length la.c, .slice la.B p.nodes.length la.d, .bool p.over] [.int .i64 q.tid.node, .int .i64 q.tid.epoch, .int .i64 q.tid.seq, .slice lb.A q.items.length lb.c, .slice lb.B q.nodes.length lb.d, .bool q.over] wr true (D 11) (D 12) (D 13) _ (V 11) _; rw [hD12]; exact hI.alloc1⟩
    ·have hD11 : D 11 = false := hDi; have hD13 : D 13 = false := hF 1 13; clear hT hF
     rw [hD11, hD13] at hI
     exact Reg.Gives.value (v := .pointer (some ⟨wi.heap.size, 0, none⟩)) (w' := wi.alloc (.cells #[.int .i64 0, .int .i64 0, .int .i64 0, .slice none 0 0, .slice none 0 0, .bool false] 85)) (by go_simp) ⟨fun x h => (by cases h), by show CpSt 85 [.int .i64 0, .int .i64 0, .int .i64 0, .slice none 0 0, .slice none 0 0, .bool false] [.int .i64 p.tid.node, .int .i64 p.tid.epoch, .int .i64 p.tid.seq, .slice la.A p.items.length la.c, .slice la.B p.nodes.length la.d, .bool p.over] [.int .i64 q.tid.node, .int .i64 q.tid.epoch, .int .i64 q.tid.seq, .slice lb.A q.items.length lb.c, .slice lb.B q.nodes.length lb.d, .bool q.over] wr (D 10) true (D 12) (D 13) (V 10) _ _; rw [hD13]; exact hI.alloc2⟩
    ·have e9 : ρ (.tmp 9) = V 10 := hd 10 9; have e172 : ρ (.tmp 172) = .agg #[.int .i64 p.tid.node, .int .i64 p.tid.epoch, .int .i64 p.tid.seq, .slice la.A p.items.length la.c, .slice la.B p.nodes.length la.d, .bool p.over] := (hd 4 172).trans (hk 4 _ rfl); have hD10 : D 10 = true := hT 1 10; have hD12 : D 12 = false := hDi; clear hT hF
     rw [hD10, hD12] at hI
     obtain ⟨g, f1, f2, f3⟩ := hI.put1 rfl
     exact Reg.Gives.skip (w' := wi.setCells g 0 [.int .i64 p.tid.node, .int .i64 p.tid.epoch, .int .i64 p.tid.seq, .slice la.A p.items.length la.c, .slice la.B p.nodes.length la.d, .bool p.over]) (exec_store 85 _ _ rfl g 0 #[.int .i64 p.tid.node, .int .i64 p.tid.epoch, .int .i64 p.tid.seq, .slice la.A p.items.length la.c, .slice la.B p.nodes.length la.d, .bool p.over] (e9.trans f1) e172 (run_storeVar_mid _ g 0 85 #[.int .i64 p.tid.node, .int .i64 p.tid.epoch, .int .i64 p.tid.seq, .slice la.A p.items.length la.c, .slice la.B p.nodes.length la.d, .bool p.over] f2 (by kernel_rfl) (by simp [Value.oneCell']))) ⟨fun x h => (by cases h), by show CpSt 85 [.int .i64 0, .int .i64 0, .int .i64 0, .slice none 0 0, .slice none 0 0, .bool false] [.int .i64 p.tid.node, .int .i64 p.tid.epoch, .int .i64 p.tid.seq, .slice la.A p.items.length la.c, .slice la.B p.nodes.length la.d, .bool p.over] [.int .i64 q.tid.node, .int .i64 q.tid.epoch, .int .i64 q.tid.seq, .slice lb.A q.items.length lb.c, .slice lb.B q.nodes.length lb.d, .bool q.over] wr (D 10) (D 11) true (D 13) (V 10) (V 11) _; rw [hD10]; exact f3⟩
    ·have e10 : ρ (.tmp 10) = V 11 := hd 11 10; have e177 : ρ (.tmp 177) = .agg #[.int .i64 q.tid.node, .int .i64 q.tid.epoch, .int .i64 q.tid.seq, .slice lb.A q.items.length lb.c, .slice lb.B q.nodes.length lb.d, .bool q.over] := (hd 9 177).trans (hk 9 _ rfl); have hD11 : D 11 = true := hT 1 11; have hD13 : D 13 = false := hDi; clear hT hF
     rw [hD11, hD13] at hI
     obtain ⟨g, f1, f2, f3⟩ := hI.put2 rfl
     exact Reg.Gives.skip (w' := wi.setCells g 0 [.int .i64 q.tid.node, .int .i64 q.tid.epoch, .int .i64 q.tid.seq, .slice lb.A q.items.length lb.c, .slice lb.B q.nodes.length lb.d, .bool q.over]) (exec_store 85 _ _ rfl g 0 #[.int .i64 q.tid.node, .int .i64 q.tid.epoch, .int .i64 q.tid.seq, .slice lb.A q.items.length lb.c, .slice lb.B q.nodes.length lb.d, .bool q.over] (e10.trans f1) e177 (run_storeVar_mid _ g 0 85 #[.int .i64 q.tid.node, .int .i64 q.tid.epoch, .int .i64 q.tid.seq, .slice lb.A q.items.length lb.c, .slice lb.B q.nodes.length lb.d, .bool q.over] f2 (by kernel_rfl) (by simp [Value.oneCell']))) ⟨fun x h => (by cases h), by show CpSt 85 [.int .i64 0, .int .i64 0, .int .i64 0, .slice none 0 0, .slice none 0 0, .bool false] [.int .i64 p.tid.node, .int .i64 p.tid.epoch, .int .i64 p.tid.seq, .slice la.A p.items.length la.c, .slice la.B p.nodes.length la.d, .bool p.over] [.int .i64 q.tid.node, .int .i64 q.tid.epoch, .int .i64 q.tid.seq, .slice lb.A q.items.length lb.c, .slice lb.B q.nodes.length lb.d, .bool q.over] wr (D 10) (D 11) (D 12) true (V 10) (V 11) _; rw [hD11]; exact f3⟩
   ·intro V wz hk hI
    simp only [Reg.putsO, List.foldl_cons, List.foldl_nil, Act.put, List.setIfInBounds_toArray, List.set_cons_succ, List.set_cons_zero]
    replace hI : CpSt 85 [.int .i64 0, .int .i64 0, .int .i64 0, .slice none 0 0, .slice none 0 0, .bool false] [.int .i64 p.tid.node, .int .i64 p.tid.epoch, .int .i64 p.tid.seq, .slice la.A p.items.length la.c, .slice la.B p.nodes.length la.d, .bool p.over] [.int .i64 q.tid.node, .int .i64 q.tid.epoch, .int .i64 q.tid.seq, .slice lb.A q.items.length lb.c, .slice lb.B q.nodes.length lb.d, .bool q.over] wr true true true true (V 10) (V 11) wz := hI
    clear hk
    obtain ⟨gp, f1, _, d1⟩ := hI.one rfl
    obtain ⟨gq, f2, _, d2⟩ := hI.two rfl
    simp only [cond_true] at d1 d2
    have HWB := Lib.hid hI.low
    have HW0 := Lib.hid (HB.out.trans (hI.low.mono HB.out.size))
    rw [f1, f2]
    clear hI f1 f2
    obtain ⟨wx, hwx⟩ : ∃ v, v = wz := ⟨_, rfl⟩
    rw [← hwx] at d1 d2 HWB HW0 ⊢
    clear hwx
    have x0 : wx.cell? ⟨gp, 0, none⟩ = some (.int .i64 p.tid.node) := d1.cell (j := 0) rfl
    have x1 : wx.cell? ⟨gp, 1, none⟩ = some (.int .i64 p.tid.epoch) := d1.cell (j := 1) rfl
    have x2 : wx.cell? ⟨gp, 2, none⟩ = some (.int .i64 p.tid.seq) := d1.cell (j := 2) rfl
    have x3 : wx.cell? ⟨gp, 3, none⟩ = some (.slice la.A p.items.length la.c) := d1.cell (j := 3) rfl
    have x4 : wx.cell? ⟨gp, 4, none⟩ = some (.slice la.B p.nodes.length la.d) := d1.cell (j := 4) rfl
    have x5 : wx.cell? ⟨gp, 5, none⟩ = some (.bool p.over) := d1.cell (j := 5) rfl
    have z0 : wx.cell? ⟨gq, 0, none⟩ = some (.int .i64 q.tid.node) := d2.cell (j := 0) rfl
    have z1 : wx.cell? ⟨gq, 1, none⟩ = some (.int .i64 q.tid.epoch) := d2.cell (j := 1) rfl
    have z2 : wx.cell? ⟨gq, 2, none⟩ = some (.int .i64 q.tid.seq) := d2.cell (j := 2) rfl
    have z3 : wx.cell? ⟨gq, 3, none⟩ = some (.slice lb.A q.items.length lb.c) := d2.cell (j := 3) rfl
    have z4 : wx.cell? ⟨gq, 4, none⟩ = some (.slice lb.B q.nodes.length lb.d) := d2.cell (j := 4) rfl
    have z5 : wx.cell? ⟨gq, 5, none⟩ = some (.bool q.over) := d2.cell (j := 5) rfl
    clear d1 d2
    obtain ⟨td, htd⟩ : ∃ v, (!(decide (p.tid.node = q.tid.node) && decide (p.tid.epoch = q.tid.epoch) && decide (p.tid.seq = q.tid.seq))) = v := ⟨_, rfl⟩
    have hne : ∀ w, (binOp .neq 47 (.agg #[.int .i64 p.tid.node, .int .i64 p.tid.epoch, .int .i64 p.tid.seq]) (.agg #[.int .i64 q.tid.node, .int .i64 q.tid.epoch, .int .i64 q.tid.seq])).run Tryz.prog w = .ok (.bool td) w := fun w => by rw [tid_neq, htd]
    have HTD : Hid (td = false ↔ p.tid = q.tid) := Lib.hid (by
     rw [← htd]
     obtain ⟨⟨p1, p2, p3⟩, p4, p5, p6⟩ := p
     obtain ⟨⟨q1, q2, q3⟩, q4, q5, q6⟩ := q
     simp [and_assoc])
    clear htd
    cases td with
    | true =>
     have HNO2 := Lib.hid (HNO.out fun e => by have := HTD.out.2 (by rw [e]); cases this)
     have HW := HW0
     go_wp2_with fail
     go_returns
     exact ⟨sameOut (by simp [HNO2.out]), H00.out.trans (HW.out.mono H00.out.size)⟩
    | false =>
     obtain ⟨pv, hpv⟩ : ∃ v, p.over = v := ⟨_, rfl⟩
     obtain ⟨qv, hqv⟩ : ∃ v, q.over = v := ⟨_, rfl⟩
     rw [hpv] at x5
     rw [hqv] at z5
     have HPV : Hid (p.over = pv ∧ q.over = qv) := Lib.hid ⟨hpv, hqv⟩
     clear hpv hqv
     by_cases hov : pv = qv
     ·subst hov
      go_wp2_with fail
      refine (HSI.out wx HWB.out).mono ?_
      rintro e wy ⟨rfl, hby⟩
      have HWB2 := Lib.hid (HWB.out.trans (hby.mono HWB.out.size))
      have HW1 := Lib.hid (HW0.out.trans (hby.mono HW0.out.size))
      have x4 := lowc hby x4
      have z4 := lowc hby z4
      obtain ⟨id, hid⟩ : ∃ v, decide (p.items = q.items) = v := ⟨_, rfl⟩
      have HIT : Hid (id = true ↔ p.items = q.items) := Lib.hid (by rw [← hid]; exact decide_eq_true_iff)
      rw [hid]
      clear hid hby
      cases id with
      | false =>
       have HNO2 := Lib.hid (HNO.out fun e => by have := HIT.out.2 (by rw [e]); cases this)
       have HW := HW1
       go_wp2_with fail
       go_returns
       exact ⟨sameOut (by simp [HNO2.out]), H00.out.trans (HW.out.mono H00.out.size)⟩
      | true =>
       go_wp2_with fail
       refine (HSN.out wy HWB2.out).mono ?_
       rintro e wv ⟨rfl, hby⟩
       have HW := Lib.hid (HW1.out.trans (hby.mono HW1.out.size))
       obtain ⟨nd, hnd⟩ : ∃ v, decide (p.nodes = q.nodes) = v := ⟨_, rfl⟩
       have HND : Hid (nd = true ↔ p.nodes = q.nodes) := Lib.hid (by rw [← hnd]; exact decide_eq_true_iff)
       rw [hnd]
       clear hnd hby
       cases nd with
       | false =>
        have HNO2 := Lib.hid (HNO.out fun e => by have := HND.out.2 (by rw [e]); cases this)
        go_wp2_with fail
        go_returns
        exact ⟨sameOut (by simp [HNO2.out]), H00.out.trans (HW.out.mono H00.out.size)⟩
       | true =>
        have HNX2 := Lib.hid (HNX.out (by
         have h1 := HTD.out.1 (by trivial)
         have h2 := HIT.out.1 (by trivial)
         have h3 := HND.out.1 (by trivial)
         have h4 := HPV.out
         obtain ⟨p1, p2, p3, p4⟩ := p
         obtain ⟨q1, q2, q3, q4⟩ := q
         simp only at h1 h2 h3 h4
         rw [h1, h2, h3, h4.1, h4.2]))
        go_wp2_with fail
        go_roundw
        case rel => exact ⟨j + 1, by omega, by go_num, HNX2, HW⟩
        case measure => simp [intOf]; omega
     ·have HNO2 := Lib.hid (HNO.out fun e => hov (by rw [← HPV.out.1, ← HPV.out.2, e]))
      have hov2 : (pv != qv) = true := by simpa using hov
      have hov3 : (pv == qv) = false := by simpa using hov
      have HW := HW0
      go_wp2_with fail
      go_returns
      exact ⟨sameOut (by simp [HNO2.out]), H00.out.trans (HW.out.mono H00.out.size)⟩
  ·have hjn : j = n := by omega
   have HEQ : Hid (s.com = t.com) := Lib.hid (by
    have h := HT.out
    rw [List.take_of_length_le (by have := HN.out.1; omega), List.take_of_length_le (by have := HN.out.2; omega)] at h
    exact h)
   clear hjn
   go_wp2_with fail
   have HDONE : Hid (s = t) := Lib.hid (HQ.out.2 HEQ.out)
   refine HKT.out _ _ ?_
   go_wp2_with fail
   go_returns
   exact ⟨sameOut (by simp [HDONE.out]), H00.out.trans (HB.out.mono H00.out.size)⟩
def ss16 (xa xb : Value) (ga gb ba oa na ca bb ob nb cb jx : Nat) (xd : Bool) : Nat → Value → World → Prop
 | 0, v, _ => v = .pointer (some ⟨ga, 6, none⟩)
 | 1, v, _ => v = .slice (some ⟨ba, oa, none⟩) na ca
 | 2, v, _ => v = .int .i64 (jx : Int)
 | 3, v, _ => v = .pointer (some ⟨ba, oa + jx * 4, none⟩)
 | 4, v, _ => v = xa
 | 5, v, _ => v = .pointer (some ⟨gb, 6, none⟩)
 | 6, v, _ => v = .slice (some ⟨bb, ob, none⟩) nb cb
 | 7, v, _ => v = .int .i64 (jx : Int)
 | 8, v, _ => v = .pointer (some ⟨bb, ob + jx * 4, none⟩)
 | 9, v, _ => v = xb
 | 10, v, _ => v = .bool xd
 | _, _, _ => True
set_option maxHeartbeats 4000000 in
theorem same13 {w0 w2 wr : World} {g0 g1 : Nat} {s t : St} {y z : Sy} (h0 : Below w0.heap.size w0 w2) (h : Sm w2 g0 g1 s t y z) (hb : Below w2.heap.size w2 wr) (hl : s.dec.length = t.dec.length ∧ s.com.length = t.com.length) (hq : (s = t) ↔ s.dec = t.dec ∧ s.com = t.com)
  {cc : Code} (hc : cc = sub [1, 1, 1, 1] ((Tryz.f10.body).getD .skip)) {s0 s1 s4 s5 s6 s7 s8 s9 s10 s11 s12 s13 s14 s15 s16 s17 s18 s19 s20 s21 s22 s23 s24 s25 s26 s27 s28 s29 s30 s31 s32 s33 s34 s35 s36 s37 s38 s39 s40 s41 s42 s43 s44 s45 s46 s47 s48 s49 s50 s51 s52 s53 s54 s55 s56 s57 s58 s59 s60 s61 s62 s63 s64 s65 s66 s67 s68 s69 s70 s71 s72 s73 s74 s75 s76 s77 s78 s79 s80 s81 s82 s83 s84 s85 s86 s87 s88 s89 s90 s91 s92 s93 s94 s95 s96 s97 s98 s99 s100 s101 s102 s103 s104 s105 s106 s107 s108 s109 s110 s111 s112 s113 s114 s115 s116 s117 s118 s119 s120 s121 s122 s123 s124 s125 s126 s127 s128 s129 s130 s131 s132 s133 s134 s135 s136 s137 s138 s139 s140 s141 s142 s143 s144 s145 s146 s147 s148 s149 s150 s151 s152 s153 s154 s155 s156 s157 s158 s159 s160 s161 s162 s163 s164 s165 s166 s167 s168 s169 s170 s171 s172 s173 s174 s175 s176 s177 s178 s179 s180 s181 s182 s183 s184 s185 s186 s187 s188 s189 s190 s191 s192 s193 s194 s195 s196 s197 s198 s199 s200 s201 s202 s203 s204 s205 : Value} :
  cc.wp Tryz.prog (bodyPost Tryz.prog Tryz.f10 (fun e w' => SameOut (s = t) e ∧ Below w0.heap.size w0 w')) { tmps := List.toArray (s0::s1::.pointer (some ⟨g0, 0, none⟩)::.pointer (some ⟨g1, 0, none⟩)::s4::s5::s6::s7::s8::s9::s10::s11::s12::s13::s14::s15::s16::s17::s18::s19::s20::s21::s22::s23::s24::s25::s26::s27::s28::s29::s30::s31::s32::s33::s34::s35::s36::s37::s38::s39::s40::s41::s42::s43::s44::s45::s46::s47::s48::s49::s50::s51::s52::s53::s54::s55::s56::s57::s58::s59::s60::s61::s62::s63::s64::s65::s66::s67::s68::s69::s70::s71::s72::s73::s74::s75::s76::s77::s78::s79::s80::s81::s82::s83::s84::s85::s86::s87::s88::s89::s90::s91::s92::s93::s94::s95::s96::s97::s98::s99::s100::s101::s102::s103::s104::s105::s106::s107::s108::s109::s110::s111::s112::s113::s114::s115::s116::s117::s118::s119::s120::s121::s122::s123::s124::s125::s126::s127::s128::s129::s130::s131::s132::s133::s134::s135::s136::s137::s138::s139::s140::s141::s142::s143::s144::s145::s146::s147::s148::s149::s150::s151::s152::s153::s154::s155::s156::s157::s158::s159::s160::s161::s162::s163::s164::s165::s166::s167::s168::s169::s170::s171::s172::s173::s174::s175::s176::s177::s178::s179::s180::s181::s182::s183::s184::s185::s186::s187::s188::s189::s190::s191::s192::s193::s194::s195::s196::s197::s198::s199::s200::s201::s202::s203::s204::s205::[]), defers := [] } wr := by
 conv at hc => rhs; whnf
 subst hc
 apply wp_seq_k
 intro K hK
 have HKT := Lib.hid hK
 clear hK
 have H00 := Lib.hid h0
 clear h0
 obtain ⟨yP, yp, yQ, yq, yD, yd, yC, yc, yps, ycs⟩ := y
 obtain ⟨zP, zp, zQ, zq, zD, zd, zC, zc, zps, zcs⟩ := z
 have HH := Lib.hid h
 have HB0 := Lib.hid hb
 have HL := Lib.hid hl
 have HQ := Lib.hid hq
 obtain ⟨n, hn⟩ : ∃ n, s.dec.length = n := ⟨_, rfl⟩
 have HN : Hid (s.dec.length = n ∧ t.dec.length = n) := Lib.hid ⟨hn, by rw [← hn]; exact (hl.1).symm⟩
 have hnb : n ≤ 100000 := by rw [← hn]; exact h.sm.dec
 clear h hb hl hq hn
 go_wp2_with fail
 go_loopw [7] (fun i wr => ∃ (j : Nat), j ≤ n ∧ i = .int .i64 (j : Int) ∧ Hid (s.dec.take j = t.dec.take j) ∧ Hid (Below w2.heap.size w2 wr)) (fun i _ => n - (intOf i).toNat)
 case atStart => exact ⟨0, Nat.zero_le _, rfl, Lib.hid rfl, HB0⟩
 case round =>
  obtain ⟨j, hj, rfl, HT, HB⟩ := hrel
  have hc0 : wr.cell? ⟨g0, 6, none⟩ = some (.slice yD n yd) := by rw [← HN.out.1]; exact (HH.out.c0.later HB.out).cell (j := 6) rfl
  by_cases hlt : j < n
  ·have hl0 : j < s.dec.length := by rw [HN.out.1]; exact hlt
   have hl1 : j < t.dec.length := by rw [HN.out.2]; exact hlt
   have hsa := HH.out.a.later HB.out
   have hsb := HH.out.b.later HB.out
   obtain ⟨b0, o0, hA, hr0⟩ := hsa.dec j (by rw [List.length_map]; exact hl0)
   obtain ⟨b1, o1, hA1, hr1⟩ := hsb.dec j (by rw [List.length_map]; exact hl1)
   simp only at hA hA1
   subst hA
   subst hA1
   have hc0 : wr.cell? ⟨g0, 6, none⟩ = some (.slice (some ⟨b0, o0, none⟩) n yd) := by rw [← HN.out.1]; exact (HH.out.c0.later HB.out).cell (j := 6) rfl
   have hc1 : wr.cell? ⟨g1, 6, none⟩ = some (.slice (some ⟨b1, o1, none⟩) n zd) := by rw [← HN.out.2]; exact (HH.out.c1.later HB.out).cell (j := 6) rfl
   rw [List.getElem_map] at hr0 hr1
   obtain ⟨p, hp⟩ : ∃ p, s.dec[j] = p := ⟨_, rfl⟩
   obtain ⟨q, hq⟩ : ∃ q, t.dec[j] = q := ⟨_, rfl⟩
   have HNX : Hid (p = q → s.dec.take (j + 1) = t.dec.take (j + 1)) := Lib.hid (fun e => by rw [List.take_succ_eq_append_getElem hl0, List.take_succ_eq_append_getElem hl1, HT.out, hp, hq, e])
   have HNO : Hid (p ≠ q → ¬ s = t) := Lib.hid (fun e h => e (by rw [← hp, ← hq]; subst h; rfl))
   rw [hp] at hr0
   rw [hq] at hr1
   have HRA := Lib.hid hr0
   have HRB := Lib.hid hr1
   have HCA : Hid (∀ wi, Below wr.heap.size wr wi → wi.cell? ⟨g0, 6, none⟩ = some (.slice (some ⟨b0, o0, none⟩) n yd)) := Lib.hid (fun wi hi => lowc hi hc0)
   have HCB : Hid (∀ wi, Below wr.heap.size wr wi → wi.cell? ⟨g1, 6, none⟩ = some (.slice (some ⟨b1, o1, none⟩) n zd)) := Lib.hid (fun wi hi => lowc hi hc1)
   have HJ : Hid (j < n ∧ ((j : Int).toNat = j)) := Lib.hid ⟨hlt, by omega⟩
   clear hr0 hr1 hsa hsb hp hq hl0 hl1
   obtain ⟨dif, hdif⟩ : ∃ v, (!((decide (p.tid.node = q.tid.node) && decide (p.tid.epoch = q.tid.epoch) && decide (p.tid.seq = q.tid.seq)) && (p.yes == q.yes))) = v := ⟨_, rfl⟩
   have HNE : Hid (∀ w, (binOp .neq 83 (.agg #[.int .i64 p.tid.node, .int .i64 p.tid.epoch, .int .i64 p.tid.seq, .bool p.yes]) (.agg #[.int .i64 q.tid.node, .int .i64 q.tid.epoch, .int .i64 q.tid.seq, .bool q.yes])).run Tryz.prog w = .ok (.bool dif) w) := Lib.hid (fun w => by rw [rdec_neq, hdif])
   have HDF : Hid (dif = false ↔ p = q) := Lib.hid (by
    rw [← hdif]
    obtain ⟨⟨p1, p2, p3⟩, p4⟩ := p
    obtain ⟨⟨q1, q2, q3⟩, q4⟩ := q
    simp [and_assoc])
   clear hdif
   go_wp2_with fail
   refine Reg.region_heavy (by kernel_rfl) 10 [10] (ss16 (.agg #[.int .i64 p.tid.node, .int .i64 p.tid.epoch, .int .i64 p.tid.seq, .bool p.yes]) (.agg #[.int .i64 q.tid.node, .int .i64 q.tid.epoch, .int .i64 q.tid.seq, .bool q.yes]) g0 g1 b0 o0 n yd b1 o1 n zd j dif) (fun a => Below wr.heap.size wr a) (fun a => Below wr.heap.size wr a) (fun V => [(some 150, V 0), (some 151, V 1), (some 152, V 2), (some 153, V 3), (some 154, V 4), (some 155, V 5), (some 156, V 6), (some 157, V 7), (some 158, V 8), (some 159, V 9), (some 160, V 10)]) (by kernel_rfl) (by kernel_rfl) (by kernel_rfl) (fun V => rfl) ?_ ?_ ?_
   ·exact (Below.refl _ _).drew
   ·intro i o ho
    have hi : i < 11 := (Array.getElem?_eq_some_iff.1 ho).1
    rcases i with _ | _ | _ | _ | _ | _ | _ | _ | _ | _ | _ | i
    rotate_right
    ·omega
    all_goals obtain rfl := Option.some.inj ho
    all_goals intro ρ wi hE hI hs hd
    all_goals try dsimp only at hI
    ·have e2 : ρ (.tmp 2) = .pointer (some ⟨g0, 0, none⟩) := hs 2; exact Reg.gw hI
    ·obtain ⟨_, rfl, e150⟩ := hd 0 150; have hx := HCA.out wi hI; exact Reg.gw hI
    ·have e7 : ρ (.tmp 7) = .int .i64 (j : Int) := hs 7; exact Reg.gw hI
    ·obtain ⟨_, rfl, e151⟩ := hd 1 151; obtain ⟨_, rfl, e152⟩ := hd 2 152; have hx1 := HJ.out.1; have hx2 := HJ.out.2; exact Reg.gw hI
    ·obtain ⟨_, rfl, e153⟩ := hd 3 153; have hr := range_later HRA.out hI; have u0 : wi.cell? ⟨b0, o0 + j * 4, none⟩ = some (.int .i64 p.tid.node) := hr 0 _ rfl; have u1 : wi.cell? ⟨b0, o0 + j * 4 + 1, none⟩ = some (.int .i64 p.tid.epoch) := hr 1 _ rfl; have u2 : wi.cell? ⟨b0, o0 + j * 4 + 2, none⟩ = some (.int .i64 p.tid.seq) := hr 2 _ rfl
     have u3 : wi.cell? ⟨b0, o0 + j * 4 + 3, none⟩ = some (.bool p.yes) := hr 3 _ rfl; exact Reg.gw hI
    ·have e3 : ρ (.tmp 3) = .pointer (some ⟨g1, 0, none⟩) := hs 3; exact Reg.gw hI
    ·obtain ⟨_, rfl, e155⟩ := hd 5 155; have hx := HCB.out wi hI; exact Reg.gw hI
    ·have e7 : ρ (.tmp 7) = .int .i64 (j : Int) := hs 7; exact Reg.gw hI
    ·obtain ⟨_, rfl, e156⟩ := hd 6 156; obtain ⟨_, rfl, e157⟩ := hd 7 157; have hx1 := HJ.out.1; have hx2 := HJ.out.2; exact Reg.gw hI
    ·obtain ⟨_, rfl, e158⟩ := hd 8 158; have hr := range_later HRB.out hI; have u0 : wi.cell? ⟨b1, o1 + j * 4, none⟩ = some (.int .i64 q.tid.node) := hr 0 _ rfl; have u1 : wi.cell? ⟨b1, o1 + j * 4 + 1, none⟩ = some (.int .i64 q.tid.epoch) := hr 1 _ rfl; have u2 : wi.cell? ⟨b1, o1 + j * 4 + 2, none⟩ = some (.int .i64 q.tid.seq) := hr 2 _ rfl
     have u3 : wi.cell? ⟨b1, o1 + j * 4 + 3, none⟩ = some (.bool q.yes) := hr 3 _ rfl; exact Reg.gw hI
    ·obtain ⟨_, rfl, e154⟩ := hd 4 154; obtain ⟨_, rfl, e159⟩ := hd 9 159
     exact Reg.Gives.value (v := .bool dif) (w' := wi) (exec_bin .neq 83 _ _ _ rfl _ _ e154 e159 (by kernel_rfl) (HNE.out wi)) (Reg.OwedH.same hI rfl)
   ·intro V wa hV hI
    have hV10 : V 10 = .bool dif := hV 10 (by decide) rfl
    simp only [Reg.putsO, List.foldl_cons, List.foldl_nil, Act.put, List.setIfInBounds_toArray, List.set_cons_succ, List.set_cons_zero, hV10]
    replace hI : (fun a => Below wr.heap.size wr a) wa := hI
    clear hV hV10
    have HW := Lib.hid (HB.out.trans (hI.mono HB.out.size))
    clear hI
    cases dif with
    | false =>
     have HNX2 := Lib.hid (HNX.out (HDF.out.1 (by trivial)))
     go_wp2_with fail
     go_roundw
     case rel => exact ⟨j + 1, by omega, by go_num, HNX2, HW⟩
     case measure => simp [intOf]; omega
    | true =>
     have HNO2 := Lib.hid (HNO.out fun e => by have := HDF.out.2 e; cases this)
     go_wp2_with fail
     go_returns
     exact ⟨sameOut (by simp [HNO2.out]), H00.out.trans (HW.out.mono H00.out.size)⟩
  ·have hjn : j = n := by omega
   have HEQ : Hid (s.dec = t.dec) := Lib.hid (by
    have h := HT.out
    rw [List.take_of_length_le (by have := HN.out.1; omega), List.take_of_length_le (by have := HN.out.2; omega)] at h
    exact h)
   clear hjn
   go_wp2_with fail
   exact HKT.out _ _ (same18 H00.out HH.out HB.out HL.out.2 ⟨fun e => (HQ.out.1 e).2, fun e => HQ.out.2 ⟨HEQ.out, e⟩⟩ (by kernel_rfl))
end Go.Proofs.YtalhbblmnahcdaaGreat.Led
