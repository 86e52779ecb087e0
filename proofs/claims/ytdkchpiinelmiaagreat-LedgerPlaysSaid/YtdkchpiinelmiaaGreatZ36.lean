/- Part 36 of the proof. Conditions: none. -/
import Derived.Test.YtdkchpiinelmiaaGreatZ34
import Derived.Test.YtdkchpiinelmiaaGreatZ35
namespace Go.Proofs.YtdkchpiinelmiaaGreat.Led
set_option maxRecDepth 100000
open Go.RowKit Go.Deep Mem fN Rec
def jX (Q : Prop) (e : Ending) : Prop := ∃ v, e = .returned (.bool v) /\ (v = true ↔ Q)
theorem gu {Q : Prop} {v : Bool} (h : v = true ↔ Q) : jX Q (.returned (.bool v)) := ⟨v, rfl, h⟩
structure Sm (w : World) (g0 g1 : Nat) (s t : St) (y z : Sy) : Prop where
 c0 : Cells w g0 41 (s.vals y)
 c1 : Cells w g1 41 (t.vals z)
 a : cL w s y
 b : cL w t z
 sm : Small s
structure jl (T : TypeId) (z l1 l2 : List Value) (wb : World) (d1 d2 d3 d4 : Bool) (v1 v2 : Value) (w : World) : Prop where
 low : Below wb.heap.size wb w
 one : d1 = true -> ∃ g, v1 = (au g) /\ wb.heap.size <= g /\ Cells w g T (cond d3 l1 z)
 two : d2 = true -> ∃ g, v2 = (au g) /\ wb.heap.size <= g /\ Cells w g T (cond d4 l2 z)
 ne : d1 = true -> d2 = true -> v1 ≠ v2
section
variable {T : TypeId} {z l1 l2 : List Value} {wb w : World} {d1 d2 d3 d4 : Bool} {v1 v2 : Value}
theorem jl.start {w' : World} (h : Below wb.heap.size wb w') (v1 v2 : Value) : jl T z l1 l2 wb false false false false v1 v2 w' := ⟨h, fun e => (by cases e), fun e => (by cases e), fun e => (by cases e)⟩
theorem jl.Uc (h : jl T z l1 l2 wb false d2 false d4 v1 v2 w) : jl T z l1 l2 wb true d2 false d4 ((au w.heap.size)) v2 (w.alloc (.cells z.toArray T)) := by
 have hb := av w (.cells z.toArray T); refine ⟨h.low.trans (hb.mono h.low.size), fun _ => ⟨_, rfl, h.low.size, aB _ _ _ _ rfl⟩, fun e => ?_, fun _ e hv => ?_⟩
 ·obtain ⟨g, e1, e2, e3⟩ := h.two e
  exact ⟨g, e1, e2, e3.later hb⟩
 obtain ⟨g, e1, e2, e3⟩ := h.two e
 rw [e1] at hv; have hl := e3.lt
 simp at hv
theorem jl.Ub (h : jl T z l1 l2 wb d1 false d3 false v1 v2 w) : jl T z l1 l2 wb d1 true d3 false v1 ((au w.heap.size)) (w.alloc (.cells z.toArray T)) := by
 have hb := av w (.cells z.toArray T); refine ⟨h.low.trans (hb.mono h.low.size), fun e => ?_, fun _ => ⟨_, rfl, h.low.size, aB _ _ _ _ rfl⟩, fun e _ hv => ?_⟩
 ·obtain ⟨g, e1, e2, e3⟩ := h.one e
  exact ⟨g, e1, e2, e3.later hb⟩
 obtain ⟨g, e1, e2, e3⟩ := h.one e
 rw [e1] at hv; have hl := e3.lt
 simp at hv
theorem jl.ey (h : jl T z l1 l2 wb true d2 false d4 v1 v2 w) (hn : l1.length = z.length) : ∃ g, v1 = (au g) /\ w.there g 0 l1.length /\ jl T z l1 l2 wb true d2 true d4 v1 v2 (w.setCells g 0 l1) := by
 obtain ⟨g, e1, e2, e3⟩ := h.one rfl; obtain ⟨p1, p2⟩ := e3.put (l := l1) hn; refine ⟨g, e1, e3.there (by rw [hn]; exact Nat.le_refl _), h.low.trans (p2.below h.low.size fun j e => by rw [e]; exact e2), fun _ => ⟨g, e1, e2, p1⟩, fun e => ?_, h.ne⟩; obtain ⟨k, f1, f2, f3⟩ := h.two e; exact ⟨k, f1, f2, aJ f3 p2 fun ek => h.ne rfl e (by rw [e1, f1, ek])⟩
theorem jl.DY (h : jl T z l1 l2 wb d1 true d3 false v1 v2 w) (hn : l2.length = z.length) : ∃ g, v2 = (au g) /\ w.there g 0 l2.length /\ jl T z l1 l2 wb d1 true d3 true v1 v2 (w.setCells g 0 l2) := by
 obtain ⟨g, e1, e2, e3⟩ := h.two rfl; obtain ⟨p1, p2⟩ := e3.put (l := l2) hn; refine ⟨g, e1, e3.there (by rw [hn]; exact Nat.le_refl _), h.low.trans (p2.below h.low.size fun j e => by rw [e]; exact e2), fun e => ?_, fun _ => ⟨g, e1, e2, p1⟩, h.ne⟩; obtain ⟨k, f1, f2, f3⟩ := h.one e; exact ⟨k, f1, f2, aJ f3 p2 fun ek => h.ne e rfl (by rw [e1, f1, ek])⟩
end
theorem kD {P : Program} {ρ : Operand -> Value} {o : Oper} (op : BinOp) (t : TypeId) (x y : Operand) (t2 : TypeId) (ho : o.op = .binOp op t x y t2) (xs ys : Array Value) (hx : ρ x = .agg xs) (hy : ρ y = .agg ys) {v : Value} {w : World} (hm : P.eqGuardType P.depth t = false)
  (hrun : (binOp op t (.agg xs) (.agg ys)).run P w = .ok v w) : (execOp ρ o).run P w = .ok (.value v) w := by
 unfold execOp; simp only [ho, hx, hy, Sem.run_bind, Sem.run_pure, Result.andThen_ok, run_eqGuard_agg w op t x y xs ys hm, hrun]
theorem Ac (a b c d e x y z u v : Int) (w : World) : (binOp .neq 69 (.agg #[iv a, iv b, iv c, iv d, iv e]) (.agg #[iv x, iv y, iv z, iv u, iv v])).run Tryz.prog w = .ok (.bool (!(decide (a = x) && decide (b = y) && decide (c = z) && decide (d = u) && decide (e = v)))) w := by
 have e1 : Tryz.prog.underlying 69 = some (.struct (Tryz.prog.fieldsOf 69)) := by kernel_rfl
 have e2 : Tryz.prog.stoodInHeld 69 = false := by kernel_rfl
 rw [run_neq_struct, run_equalIn_agg w _ _ _ _ e1 e2]; obtain ⟨f0, f1, f2, f3, f4, hf, t0, t1, t2, t3, t4, o0, o1, o2, o3, o4, n0, n1, n2, n3, n4⟩ : ∃ f0 f1 f2 f3 f4 : Field, (Tryz.prog.fieldsOf 69).toList = [f0, f1, f2, f3, f4] /\ f0.type = 3 /\ f1.type = 3 /\ f2.type = 3 /\ f3.type = 3 /\ f4.type = 3 /\ f0.offset = 0 /\ f1.offset = 1 /\ f2.offset = 2 /\ f3.offset = 3 /\ f4.offset = 4 /\ f0.name ≠ "_" /\ f1.name ≠ "_" /\ f2.name ≠ "_" /\ f3.name ≠ "_" /\ f4.name ≠ "_" := ⟨_, _, _, _, _, rfl, rfl, rfl, rfl, rfl, rfl, rfl, rfl, rfl, rfl, rfl, by decide, by decide, by decide, by decide, by decide⟩; rw [hf]; have hu := Tryz.underlying3
 by_cases ha : a = x
 ·by_cases hb : b = y
  ·by_cases hc : c = z
   ·by_cases hd : d = u
    ·by_cases he : e = v
     ·simp [Op.eqFields, n0, n1, n2, n3, n4, t0, t1, t2, t3, t4, o0, o1, o2, o3, o4, go_sem, hu, ha, hb, hc, hd, he]
     simp [Op.eqFields, n0, n1, n2, n3, n4, t0, t1, t2, t3, t4, o0, o1, o2, o3, o4, go_sem, hu, ha, hb, hc, hd, he]
    simp [Op.eqFields, n0, n1, n2, n3, t0, t1, t2, t3, o0, o1, o2, o3, go_sem, hu, ha, hb, hc, hd]
   simp [Op.eqFields, n0, n1, n2, t0, t1, t2, o0, o1, o2, go_sem, hu, ha, hb, hc]
  simp [Op.eqFields, n0, n1, t0, t1, o0, o1, go_sem, hu, ha, hb]
 simp [Op.eqFields, n0, t0, o0, go_sem, hu, ha]
theorem G9 (a b c x y z : Int) (d u : Bool) (w : World) : (binOp .neq 75 (.agg #[iv a, iv b, iv c, .bool d]) (.agg #[iv x, iv y, iv z, .bool u])).run Tryz.prog w = .ok (.bool (!((decide (a = x) && decide (b = y) && decide (c = z)) && (d == u)))) w := by
 have e1 : Tryz.prog.underlying 75 = some (.struct (Tryz.prog.fieldsOf 75)) := by kernel_rfl
 have e2 : Tryz.prog.stoodInHeld 75 = false := by kernel_rfl
 rw [run_neq_struct, run_equalIn_agg w _ _ _ _ e1 e2]; obtain ⟨f0, f1, hf, t0, t1, o0, o1, n0, n1⟩ : ∃ f0 f1 : Field, (Tryz.prog.fieldsOf 75).toList = [f0, f1] /\ f0.type = 47 /\ f1.type = 4 /\ f0.offset = 0 /\ f1.offset = 3 /\ f0.name ≠ "_" /\ f1.name ≠ "_" := ⟨_, _, rfl, rfl, rfl, rfl, rfl, by decide, by decide⟩; have g1 : Tryz.prog.underlying 47 = some (.struct (Tryz.prog.fieldsOf 47)) := by kernel_rfl
 have g2 : Tryz.prog.stoodInHeld 47 = false := by kernel_rfl
 have hv := Tryz.underlying4; have hu := Tryz.underlying3; obtain ⟨i0, i1, i2, hi, s0, s1, s2, p0, p1, p2, m0, m1, m2⟩ : ∃ f0 f1 f2 : Field, (Tryz.prog.fieldsOf 47).toList = [f0, f1, f2] /\ f0.type = 3 /\ f1.type = 3 /\ f2.type = 3 /\ f0.offset = 0 /\ f1.offset = 1 /\ f2.offset = 2 /\ f0.name ≠ "_" /\ f1.name ≠ "_" /\ f2.name ≠ "_" := ⟨_, _, _, rfl, rfl, rfl, rfl, rfl, rfl, rfl, by decide, by decide, by decide⟩; rw [hf]; obtain ⟨TE, X7⟩ : ∃ v, (decide (a = x) && decide (b = y) && decide (c = z)) = v := ⟨_, rfl⟩; have hT : ∀ w, (Op.equalIn 9999 47 (.agg #[iv a, iv b, iv c]) (.agg #[iv x, iv y, iv z])).run Tryz.prog w = .ok TE w := by
  intro w; rw [run_equalIn_agg w 9998 _ _ _ g1 g2, hi, <- X7]
  by_cases ha : a = x
  ·by_cases hb : b = y
   ·by_cases hc : c = z
    ·simp [Op.eqFields, m0, m1, m2, s0, s1, s2, p0, p1, p2, go_sem, hu, ha, hb, hc]
    simp [Op.eqFields, m0, m1, m2, s0, s1, s2, p0, p1, p2, go_sem, hu, ha, hb, hc]
   simp [Op.eqFields, m0, m1, s0, s1, p0, p1, go_sem, hu, ha, hb]
  simp [Op.eqFields, m0, s0, p0, go_sem, hu, ha]
 rw [X7]; clear X7
 cases TE
 ·simp [Op.eqFields, n0, t0, o0, go_sem, hT]
 by_cases hd : d = u <;> simp [Op.eqFields, n0, n1, t0, t1, o0, o1, go_sem, hv, hT, hd]
set_option maxHeartbeats 4000000 in
theorem TK {w0 w2 wr : World} {g0 g1 : Nat} {s t : St} {y z : Sy} (h0 : Below w0.heap.size w0 w2) (h : Sm w2 g0 g1 s t y z) (hb : Below w2.heap.size w2 wr) (hl : s.com.length = t.com.length) (hq : (s = t) ↔ s.com = t.com)
  {cc : Code} (hc : cc = sub [1, 1, 1, 1, 1] ((Tryz.f8.body).getD .skip)) {s0 s1 s4 s5 s6 s7 s8 s9 Dz Dy s12 Dx Dw Du Dt Ds Dr Dq Dp Dn Dm Dl Dk Dj Di Dh Dg Df Dd Dc Db Da C_ C9 C8 C7 C6 C5 C4 C2 C0 CZ CY CX CW CV CU CT CS CQ CP CO CN CM CK CJ CH CG CF CD CB CA Cz Cy Cx Cw Cv Cu Ct Cr Cq Cn Cm Cl Ck Cj Ci Ch Cg Ce Cc Cb Ca B_ B6 BZ BX BW BU BS BR BQ BP BO BN BM BL BK qA qz qy qx qw qu qq qp qm ql qj qh qg qd p9 p8 pZ pY pX pW pV pU pT pS pR pQ pP pO pN pL pK pJ pI pH pG pF pE pD pC pB pA pz pq o_ oZ oY oX oW oV oU oQ oP oO oN oM oL oK oJ oI oH oG oF oD oC oz ou ot oq oo om oh og od oc n_ n7 nZ nY nX nW nV nU nT nS nR nO nN nM nL nK nJ nI nH nG nE nB nA ny nu nr nk nj ng m9 m7 m6 : Value} :
  cc.wp Tryz.prog (bodyPost Tryz.prog Tryz.f8 (fun e w' => jX (s = t) e /\ Below w0.heap.size w0 w')) { tmps := List.toArray (s0::s1::(au g0)::(au g1)::s4::s5::s6::s7::s8::s9::Dz::Dy::s12::Dx::Dw::Du::Dt::Ds::Dr::Dq::Dp::Dn::Dm::Dl::Dk::Dj::Di::Dh::Dg::Df::Dd::Dc::Db::Da::C_::C9::C8::C7::C6::C5::C4::C2::C0::CZ::CY::CX::CW::CV::CU::CT::CS::CQ::CP::CO::CN::CM::CK::CJ::CH::CG::CF::CD::CB::CA::Cz::Cy::Cx::Cw::Cv::Cu::Ct::Cr::Cq::Cn::Cm::Cl::Ck::Cj::Ci::Ch::Cg::Ce::Cc::Cb::Ca::B_::B6::BZ::BX::BW::BU::BS::BR::BQ::BP::BO::BN::BM::BL::BK::qA::qz::qy::qx::qw::qu::qq::qp::qm::ql::qj::qh::qg::qd::p9::p8::pZ::pY::pX::pW::pV::pU::pT::pS::pR::pQ::pP::pO::pN::pL::pK::pJ::pI::pH::pG::pF::pE::pD::pC::pB::pA::pz::pq::o_::oZ::oY::oX::oW::oV::oU::oQ::oP::oO::oN::oM::oL::oK::oJ::oI::oH::oG::oF::oD::oC::oz::ou::ot::oq::oo::om::oh::og::od::oc::n_::n7::nZ::nY::nX::nW::nV::nU::nT::nS::nR::nO::nN::nM::nL::nK::nJ::nI::nH::nG::nE::nB::nA::ny::nu::nr::nk::nj::ng::m9::m7::m6::[]), defers := [] } wr := by
 conv at hc => rhs; whnf
 subst hc
 apply wp_seq_k
 intro K hK; have ju := ak hK; clear hK; have lZ := ak h0; clear h0; obtain ⟨yP, yp, yQ, yq, yD, yd, yC, yc, wG, wH⟩ := y; obtain ⟨zP, zp, zQ, zq, zD, zd, zC, zc, Ue, Uf⟩ := z; have HH := ak h; have mX := ak hb; have HL := ak hl; have HQ := ak hq; obtain ⟨n, hn⟩ := ah s.com.length; have HN : Hid (s.com.length = n /\ t.com.length = n) := ak ⟨hn, by rw [<- hn]; exact (hl).symm⟩; have hnb : n <= 100000 := by rw [<- hn]; exact h.sm.com
 clear h hb hl hq hn
 go_wp2_with fail
 go_loopw [8, 9, 10] (fun i _ _ wr => ∃ (j : Nat), j <= n /\ i = iv (j : Int) /\ Hid (s.com.take j = t.com.take j) /\ Hid (Below w2.heap.size w2 wr)) (fun i _ _ _ => n - (intOf i).toNat)
 case atStart => exact ⟨0, Nat.zero_le _, rfl, ak rfl, mX⟩
 case round =>
  obtain ⟨j, hj, rfl, HT, HB⟩ := hrel; have hc0 : wr.cell? ⟨g0, 7, none⟩ = some (.slice yC n yc) := by rw [<- HN.o.1]; exact (HH.o.c0.later HB.o).cell (j := 7) rfl
  by_cases hlt : j < n
  ·have hl0 : j < s.com.length := by rw [HN.o.1]; exact hlt
   have r7 : j < t.com.length := by rw [HN.o.2]; exact hlt
   have hsa := HH.o.a.later HB.o; have hsb := HH.o.b.later HB.o; have hy0 : j < wH.length := by have := hsa.cs; simp only at this; omega
   have hz0 : j < Uf.length := by have := hsb.cs; simp only at this; omega
   obtain ⟨b0, o0, hA, bS⟩ := hsa.com j (by rw [List.length_zipWith]; simp only; omega); obtain ⟨b1, o1, F3, hr1⟩ := hsb.com j (by rw [List.length_zipWith]; simp only; omega); have ht0 := hsa.cin j hl0 hy0; have ht1 := hsb.cin j r7 hz0; simp only at hA F3; subst hA; subst F3; have hc0 : wr.cell? ⟨g0, 7, none⟩ = some (.slice (some ⟨b0, o0, none⟩) n yc) := by rw [<- HN.o.1]; exact (HH.o.c0.later HB.o).cell (j := 7) rfl
   have hc1 : wr.cell? ⟨g1, 7, none⟩ = some (.slice (some ⟨b1, o1, none⟩) n zc) := by rw [<- HN.o.2]; exact (HH.o.c1.later HB.o).cell (j := 7) rfl
   rw [List.getElem_zipWith] at bS hr1; simp only at bS hr1 ht0 ht1; obtain ⟨p, hp⟩ := ah (s.com[j]); obtain ⟨q, hq⟩ := ah (t.com[j]); have iu : Hid (p = q -> s.com.take (j + 1) = t.com.take (j + 1)) := ak (fun e => by rw [List.take_succ_eq_append_getElem hl0, List.take_succ_eq_append_getElem r7, HT.o, hp, hq, e]); have Fz : Hid (p ≠ q -> ¬ s = t) := ak (fun e h => e (by rw [<- hp, <- hq]; subst h; rfl)); have dU : Hid (p.items.length <= 100000 /\ p.nodes.length <= 100000) := ak (by rw [<- hp]; exact HH.o.sm.cin _ (List.getElem_mem hl0)); obtain ⟨la, hla⟩ := ah (wH[j]); obtain ⟨lb, hlb⟩ := ah (Uf[j]); rw [hla] at bS ht0; rw [hlb] at hr1 ht1; rw [hp] at ht0; rw [hq] at ht1; rw [hp] at bS; rw [hq] at hr1; have lX := ak bS; have Fx := ak hr1; have tY : Hid (∀ wi, Below wr.heap.size wr wi -> wi.cell? ⟨g0, 7, none⟩ = some (.slice (some ⟨b0, o0, none⟩) n yc)) := ak (fun wi hi => uo hi hc0); have wO : Hid (∀ wi, Below wr.heap.size wr wi -> wi.cell? ⟨g1, 7, none⟩ = some (.slice (some ⟨b1, o1, none⟩) n zc)) := ak (fun wi hi => uo hi hc1); have HJ : Hid (j < n /\ ((j : Int).toNat = j)) := ak ⟨hlt, by omega⟩; have Xw : Hid (∀ wi, Below wr.heap.size wr wi -> Calls Tryz.prog 27 #[.slice la.A p.items.length la.c, .slice lb.A q.items.length lb.c] wi fun e w' => e = .returned (.bool (decide (p.items = q.items))) /\ Below wi.heap.size wi w') := ak (fun wi hi => ly la.A lb.A p.items q.items la.c lb.c wi (ht0.1.later hi) (ht1.1.later hi) (by have := dU.o; omega))
   have Xv : Hid (∀ wi, Below wr.heap.size wr wi -> Calls Tryz.prog 28 #[.slice la.B p.nodes.length la.d, .slice lb.B q.nodes.length lb.d] wi fun e w' => e = .returned (.bool (decide (p.nodes = q.nodes))) /\ Below wi.heap.size wi w') := ak (fun wi hi => lu la.B lb.B p.nodes q.nodes la.d lb.d wi (ht0.2.1.later hi) (ht1.2.1.later hi) (by have := dU.o; omega))
   clear bS hr1 hsa hsb hp hq hl0 r7 ht0 ht1 hla hlb hy0 hz0
   go_wp2_with fail
   refine N.bk (by kernel_rfl) (fun i => ([some (.pointer (some ⟨g0, 7, none⟩)), some (.slice (some ⟨b0, o0, none⟩) n yc), some (iv (j : Int)), some (.pointer (some ⟨b0, o0 + j * 6, none⟩)), some (.agg #[iv p.tid.node, iv p.tid.epoch, iv p.tid.seq, .slice la.A p.items.length la.c, .slice la.B p.nodes.length la.d, .bool p.over]), some (.pointer (some ⟨g1, 7, none⟩)), some (.slice (some ⟨b1, o1, none⟩) n zc), some (iv (j : Int)), some (.pointer (some ⟨b1, o1 + j * 6, none⟩)), some (.agg #[iv q.tid.node, iv q.tid.epoch, iv q.tid.seq, .slice lb.A q.items.length lb.c, .slice lb.B q.nodes.length lb.d, .bool q.over]), none, none, none, none] : List (Option Value)).getD i none) (fun D V W => jl 77 [iv 0, iv 0, iv 0, .slice none 0 0, .slice none 0 0, .bool false] [iv p.tid.node, iv p.tid.epoch, iv p.tid.seq, .slice la.A p.items.length la.c, .slice la.B p.nodes.length la.d, .bool p.over] [iv q.tid.node, iv q.tid.epoch, iv q.tid.seq, .slice lb.A q.items.length lb.c, .slice lb.B q.nodes.length lb.d, .bool q.over] wr (D 10) (D 11) (D 12) (D 13) (V 10) (V 11) W) (fun V => [(some 168, V 0), (some 169, V 1), (some 170, V 2), (some 171, V 3), (some 172, V 4), (some 173, V 5), (some 174, V 6), (some 175, V 7), (some 176, V 8), (some 177, V 9), (some 9, V 10), (some 10, V 11), (none, V 12), (none, V 13)]) (by kernel_rfl) (by kernel_rfl) (fun V => rfl) ?_ ?_ ?_
   ·intro V
    exact jl.start (Below.refl _ _).drew _ _
   ·intro i o ho
    have hi : i < 14 := (Array.getElem?_eq_some_iff.1 ho).1; rcases i with _ | _ | _ | _ | _ | _ | _ | _ | _ | _ | _ | _ | _ | _ | i
    rotate_right
    ·omega
    all_goals obtain rfl := Option.some.inj ho
    all_goals intro D V ρ wi hE hI cP hT hF hs hd hk
    all_goals (have e8 : ρ (.tmp 8) = iv (j : Int) := hs 8)
    ·have e2 : ρ (.tmp 2) = (au g0) := hs 2; clear hT hF hk
     exact N.gi _ ⟨fun _ => N.oi, hI⟩
    ·have afu := (hd 0 168).trans (hk 0 _ rfl); clear hT hF hk; have hx := tY.o wi hI.low
     exact N.gi _ ⟨fun _ => N.oi, hI⟩
    ·clear hT hF hk
     exact N.gi _ ⟨fun _ => N.oi, hI⟩
    ·have aft := (hd 1 169).trans (hk 1 _ rfl); have afr := (hd 2 170).trans (hk 2 _ rfl); clear hT hF hk; have hx1 := HJ.o.1; have hx2 := HJ.o.2
     exact N.gi _ ⟨fun _ => N.oi, hI⟩
    ·have afq := (hd 3 171).trans (hk 3 _ rfl); clear hT hF hk; have hr := aM lX.o hI.low; have u0 : wi.cell? ⟨b0, o0 + j * 6, none⟩ = some (iv p.tid.node) := hr 0 _ rfl; have u1 : wi.cell? ⟨b0, o0 + j * 6 + 1, none⟩ = some (iv p.tid.epoch) := hr 1 _ rfl
     have u2 : wi.cell? ⟨b0, o0 + j * 6 + 2, none⟩ = some (iv p.tid.seq) := hr 2 _ rfl; have u3 : wi.cell? ⟨b0, o0 + j * 6 + 3, none⟩ = some (.slice la.A p.items.length la.c) := hr 3 _ rfl; have u4 : wi.cell? ⟨b0, o0 + j * 6 + 4, none⟩ = some (.slice la.B p.nodes.length la.d) := hr 4 _ rfl; have u5 : wi.cell? ⟨b0, o0 + j * 6 + 5, none⟩ = some (.bool p.over) := hr 5 _ rfl; exact N.gi _ ⟨fun _ => N.oi, hI⟩
    ·have e3 : ρ (.tmp 3) = (au g1) := hs 3; clear hT hF hk
     exact N.gi _ ⟨fun _ => N.oi, hI⟩
    ·have afp := (hd 5 173).trans (hk 5 _ rfl); clear hT hF hk; have hx := wO.o wi hI.low
     exact N.gi _ ⟨fun _ => N.oi, hI⟩
    ·clear hT hF hk
     exact N.gi _ ⟨fun _ => N.oi, hI⟩
    ·have afo := (hd 6 174).trans (hk 6 _ rfl); have afn := (hd 7 175).trans (hk 7 _ rfl); clear hT hF hk; have hx1 := HJ.o.1; have hx2 := HJ.o.2
     exact N.gi _ ⟨fun _ => N.oi, hI⟩
    ·have afm := (hd 8 176).trans (hk 8 _ rfl); clear hT hF hk; have hr := aM Fx.o hI.low; have u0 : wi.cell? ⟨b1, o1 + j * 6, none⟩ = some (iv q.tid.node) := hr 0 _ rfl; have u1 : wi.cell? ⟨b1, o1 + j * 6 + 1, none⟩ = some (iv q.tid.epoch) := hr 1 _ rfl
     have u2 : wi.cell? ⟨b1, o1 + j * 6 + 2, none⟩ = some (iv q.tid.seq) := hr 2 _ rfl; have u3 : wi.cell? ⟨b1, o1 + j * 6 + 3, none⟩ = some (.slice lb.A q.items.length lb.c) := hr 3 _ rfl; have u4 : wi.cell? ⟨b1, o1 + j * 6 + 4, none⟩ = some (.slice lb.B q.nodes.length lb.d) := hr 4 _ rfl; have u5 : wi.cell? ⟨b1, o1 + j * 6 + 5, none⟩ = some (.bool q.over) := hr 5 _ rfl; exact N.gi _ ⟨fun _ => N.oi, hI⟩
    ·have cI : D 10 = false := cP; have D8 : D 12 = false := hF 1 12; clear hT hF
     rw [cI, D8] at hI; exact N.Gives.value (v := (au wi.heap.size)) (w' := wi.alloc (.cells #[iv 0, iv 0, iv 0, .slice none 0 0, .slice none 0 0, .bool false] 77)) (by go_simp) ⟨fun x h => (by cases h), by show jl 77 [iv 0, iv 0, iv 0, .slice none 0 0, .slice none 0 0, .bool false] [iv p.tid.node, iv p.tid.epoch, iv p.tid.seq, .slice la.A p.items.length la.c, .slice la.B p.nodes.length la.d, .bool p.over] [iv q.tid.node, iv q.tid.epoch, iv q.tid.seq, .slice lb.A q.items.length lb.c, .slice lb.B q.nodes.length lb.d, .bool q.over] wr true (D 11) (D 12) (D 13) _ (V 11) _; rw [D8]; exact hI.Uc⟩
    ·have fK : D 11 = false := cP; have dD : D 13 = false := hF 1 13; clear hT hF
     rw [fK, dD] at hI; exact N.Gives.value (v := (au wi.heap.size)) (w' := wi.alloc (.cells #[iv 0, iv 0, iv 0, .slice none 0 0, .slice none 0 0, .bool false] 77)) (by go_simp) ⟨fun x h => (by cases h), by show jl 77 [iv 0, iv 0, iv 0, .slice none 0 0, .slice none 0 0, .bool false] [iv p.tid.node, iv p.tid.epoch, iv p.tid.seq, .slice la.A p.items.length la.c, .slice la.B p.nodes.length la.d, .bool p.over] [iv q.tid.node, iv q.tid.epoch, iv q.tid.seq, .slice lb.A q.items.length lb.c, .slice lb.B q.nodes.length lb.d, .bool q.over] wr (D 10) true (D 12) (D 13) (V 10) _ _; rw [dD]; exact hI.Ub⟩
    ·have e9 : ρ (.tmp 9) = V 10 := hd 10 9; have ZP := (hd 4 172).trans (hk 4 _ rfl); have cI : D 10 = true := hT 1 10; have D8 : D 12 = false := cP; clear hT hF
     rw [cI, D8] at hI; obtain ⟨g, f1, f2, f3⟩ := hI.ey rfl; exact N.Gives.skip (w' := wi.setCells g 0 [iv p.tid.node, iv p.tid.epoch, iv p.tid.seq, .slice la.A p.items.length la.c, .slice la.B p.nodes.length la.d, .bool p.over]) (eH 77 _ _ rfl g 0 #[iv p.tid.node, iv p.tid.epoch, iv p.tid.seq, .slice la.A p.items.length la.c, .slice la.B p.nodes.length la.d, .bool p.over] (e9.trans f1) ZP (run_storeVar_mid _ g 0 77 #[iv p.tid.node, iv p.tid.epoch, iv p.tid.seq, .slice la.A p.items.length la.c, .slice la.B p.nodes.length la.d, .bool p.over] f2 (by kernel_rfl) (by simp [Value.oneCell']))) ⟨fun x h => (by cases h), by show jl 77 [iv 0, iv 0, iv 0, .slice none 0 0, .slice none 0 0, .bool false] [iv p.tid.node, iv p.tid.epoch, iv p.tid.seq, .slice la.A p.items.length la.c, .slice la.B p.nodes.length la.d, .bool p.over] [iv q.tid.node, iv q.tid.epoch, iv q.tid.seq, .slice lb.A q.items.length lb.c, .slice lb.B q.nodes.length lb.d, .bool q.over] wr (D 10) (D 11) true (D 13) (V 10) (V 11) _; rw [cI]; exact f3⟩
    have e10 : ρ (.tmp 10) = V 11 := hd 11 10; have ZO := (hd 9 177).trans (hk 9 _ rfl); have fK : D 11 = true := hT 1 11; have dD : D 13 = false := cP; clear hT hF
    rw [fK, dD] at hI; obtain ⟨g, f1, f2, f3⟩ := hI.DY rfl; exact N.Gives.skip (w' := wi.setCells g 0 [iv q.tid.node, iv q.tid.epoch, iv q.tid.seq, .slice lb.A q.items.length lb.c, .slice lb.B q.nodes.length lb.d, .bool q.over]) (eH 77 _ _ rfl g 0 #[iv q.tid.node, iv q.tid.epoch, iv q.tid.seq, .slice lb.A q.items.length lb.c, .slice lb.B q.nodes.length lb.d, .bool q.over] (e10.trans f1) ZO (run_storeVar_mid _ g 0 77 #[iv q.tid.node, iv q.tid.epoch, iv q.tid.seq, .slice lb.A q.items.length lb.c, .slice lb.B q.nodes.length lb.d, .bool q.over] f2 (by kernel_rfl) (by simp [Value.oneCell']))) ⟨fun x h => (by cases h), by show jl 77 [iv 0, iv 0, iv 0, .slice none 0 0, .slice none 0 0, .bool false] [iv p.tid.node, iv p.tid.epoch, iv p.tid.seq, .slice la.A p.items.length la.c, .slice la.B p.nodes.length la.d, .bool p.over] [iv q.tid.node, iv q.tid.epoch, iv q.tid.seq, .slice lb.A q.items.length lb.c, .slice lb.B q.nodes.length lb.d, .bool q.over] wr (D 10) (D 11) (D 12) true (V 10) (V 11) _; rw [fK]; exact f3⟩
   intro V wz hk hI
   simp only [N.aP, List.foldl_cons, List.foldl_nil, Act.put, List.setIfInBounds_toArray, List.set_cons_succ, List.set_cons_zero]; replace hI : jl 77 [iv 0, iv 0, iv 0, .slice none 0 0, .slice none 0 0, .bool false] [iv p.tid.node, iv p.tid.epoch, iv p.tid.seq, .slice la.A p.items.length la.c, .slice la.B p.nodes.length la.d, .bool p.over] [iv q.tid.node, iv q.tid.epoch, iv q.tid.seq, .slice lb.A q.items.length lb.c, .slice lb.B q.nodes.length lb.d, .bool q.over] wr true true true true (V 10) (V 11) wz := hI; clear hk; obtain ⟨gp, f1, _, d1⟩ := hI.one rfl; obtain ⟨gq, f2, _, d2⟩ := hI.two rfl; simp only [cond_true] at d1 d2; have Xr := ak hI.low; have Vc := ak (HB.o.trans (hI.low.mono HB.o.size)); rw [f1, f2]; clear hI f1 f2; obtain ⟨wx, hwx⟩ := aj wz; rw [<- hwx] at d1 d2 Xr Vc ⊢; clear hwx; have x0 : wx.cell? ⟨gp, 0, none⟩ = some (iv p.tid.node) := d1.cell (j := 0) rfl; have x1 : wx.cell? ⟨gp, 1, none⟩ = some (iv p.tid.epoch) := d1.cell (j := 1) rfl; have x2 : wx.cell? ⟨gp, 2, none⟩ = some (iv p.tid.seq) := d1.cell (j := 2) rfl; have x3 : wx.cell? ⟨gp, 3, none⟩ = some (.slice la.A p.items.length la.c) := d1.cell (j := 3) rfl; have x4 : wx.cell? ⟨gp, 4, none⟩ = some (.slice la.B p.nodes.length la.d) := d1.cell (j := 4) rfl; have x5 : wx.cell? ⟨gp, 5, none⟩ = some (.bool p.over) := d1.cell (j := 5) rfl; have z0 : wx.cell? ⟨gq, 0, none⟩ = some (iv q.tid.node) := d2.cell (j := 0) rfl; have z1 : wx.cell? ⟨gq, 1, none⟩ = some (iv q.tid.epoch) := d2.cell (j := 1) rfl; have z2 : wx.cell? ⟨gq, 2, none⟩ = some (iv q.tid.seq) := d2.cell (j := 2) rfl; have z3 : wx.cell? ⟨gq, 3, none⟩ = some (.slice lb.A q.items.length lb.c) := d2.cell (j := 3) rfl; have z4 : wx.cell? ⟨gq, 4, none⟩ = some (.slice lb.B q.nodes.length lb.d) := d2.cell (j := 4) rfl; have z5 : wx.cell? ⟨gq, 5, none⟩ = some (.bool q.over) := d2.cell (j := 5) rfl; clear d1 d2; obtain ⟨td, htd⟩ : ∃ v, (!(decide (p.tid.node = q.tid.node) && decide (p.tid.epoch = q.tid.epoch) && decide (p.tid.seq = q.tid.seq))) = v := ⟨_, rfl⟩; have hne : ∀ w, (binOp .neq 47 (.agg #[iv p.tid.node, iv p.tid.epoch, iv p.tid.seq]) (.agg #[iv q.tid.node, iv q.tid.epoch, iv q.tid.seq])).run Tryz.prog w = .ok (.bool td) w := fun w => by rw [rU, htd]
   have F6 : Hid (td = false ↔ p.tid = q.tid) := ak (by
    rw [<- htd]; obtain ⟨⟨p1, p2, p3⟩, p4, p5, p6⟩ := p; obtain ⟨⟨q1, q2, q3⟩, q4, q5, q6⟩ := q
    simp [and_assoc])
   clear htd
   cases td with
   | true =>
    have jQ := ak (Fz.o fun e => by have := F6.o.2 (by rw [e]); cases this)
    have HW := Vc
    go_wp2_with fail
    go_returns
    exact ⟨gu (by simp [jQ.o]), lZ.o.trans (HW.o.mono lZ.o.size)⟩
   | false =>
    obtain ⟨pv, hpv⟩ := ah p.over; obtain ⟨qv, XQ⟩ := ah q.over; rw [hpv] at x5; rw [XQ] at z5; have Fy : Hid (p.over = pv /\ q.over = qv) := ak ⟨hpv, XQ⟩; clear hpv XQ
    by_cases hov : pv = qv
    ·subst hov
     go_wp2_with fail
     refine (Xw.o wx Xr.o).mono ?_; rintro e wy ⟨rfl, hby⟩; have aak := ak (Xr.o.trans (hby.mono Xr.o.size)); have Yz := ak (Vc.o.trans (hby.mono Vc.o.size)); have x4 := uo hby x4; have z4 := uo hby z4; obtain ⟨id, hid⟩ : ∃ v, decide (p.items = q.items) = v := ⟨_, rfl⟩; have HIT : Hid (id = true ↔ p.items = q.items) := ak (by rw [<- hid]; exact decide_eq_true_iff); rw [hid]; clear hid hby
     cases id with
     | false =>
      have jQ := ak (Fz.o fun e => by have := HIT.o.2 (by rw [e]); cases this)
      have HW := Yz
      go_wp2_with fail
      go_returns
      exact ⟨gu (by simp [jQ.o]), lZ.o.trans (HW.o.mono lZ.o.size)⟩
     | true =>
      go_wp2_with fail
      refine (Xv.o wy aak.o).mono ?_; rintro e wv ⟨rfl, hby⟩; have HW := ak (Yz.o.trans (hby.mono Yz.o.size)); obtain ⟨nd, hnd⟩ : ∃ v, decide (p.nodes = q.nodes) = v := ⟨_, rfl⟩; have I5 : Hid (nd = true ↔ p.nodes = q.nodes) := ak (by rw [<- hnd]; exact decide_eq_true_iff); rw [hnd]; clear hnd hby
      cases nd with
      | false =>
       have jQ := ak (Fz.o fun e => by have := I5.o.2 (by rw [e]); cases this)
       go_wp2_with fail
       go_returns
       exact ⟨gu (by simp [jQ.o]), lZ.o.trans (HW.o.mono lZ.o.size)⟩
      | true =>
       have fL := ak (iu.o (by
        have h1 := F6.o.1 (by trivial); have h2 := HIT.o.1 (by trivial); have h3 := I5.o.1 (by trivial); have h4 := Fy.o; obtain ⟨p1, p2, p3, p4⟩ := p; obtain ⟨q1, q2, q3, q4⟩ := q; simp only at h1 h2 h3 h4; rw [h1, h2, h3, h4.1, h4.2]))
       go_wp2_with fail
       go_roundw
       case rel => exact ⟨j + 1, by omega, by go_num, fL, HW⟩
       case measure => simp [intOf]; omega
    have jQ := ak (Fz.o fun e => hov (by rw [<- Fy.o.1, <- Fy.o.2, e]))
    have ad7 : (pv != qv) = true := by simpa using hov
    have ad6 : (pv == qv) = false := by simpa using hov
    have HW := Vc
    go_wp2_with fail
    go_returns
    exact ⟨gu (by simp [jQ.o]), lZ.o.trans (HW.o.mono lZ.o.size)⟩
  have hjn : j = n := by omega
  have zn : Hid (s.com = t.com) := ak (by
   have h := HT.o; rw [List.take_of_length_le (by have := HN.o.1; omega), List.take_of_length_le (by have := HN.o.2; omega)] at h
   exact h)
  clear hjn
  go_wp2_with fail
  have W7 : Hid (s = t) := ak (HQ.o.2 zn.o); refine ju.o _ _ ?_
  go_wp2_with fail
  go_returns
  exact ⟨gu (by simp [W7.o]), lZ.o.trans (HB.o.mono lZ.o.size)⟩
def Y8 (xa xb : Value) (ga gb ba oa na ca bb ob nb cb jx : Nat) (xd : Bool) : Nat -> Value -> World -> Prop := N.tb [.inl (.pointer (some ⟨ga, 6, none⟩)), .inl (.slice (some ⟨ba, oa, none⟩) na ca), .inl (.int .i64 (jx : Int)), .inl (.pointer (some ⟨ba, oa + jx * 4, none⟩)), .inl (xa), .inl (.pointer (some ⟨gb, 6, none⟩)), .inl (.slice (some ⟨bb, ob, none⟩) nb cb), .inl (.int .i64 (jx : Int)), .inl (.pointer (some ⟨bb, ob + jx * 4, none⟩)), .inl (xb), .inl (.bool xd)]
set_option maxHeartbeats 4000000 in
theorem TL {w0 w2 wr : World} {g0 g1 : Nat} {s t : St} {y z : Sy} (h0 : Below w0.heap.size w0 w2) (h : Sm w2 g0 g1 s t y z) (hb : Below w2.heap.size w2 wr) (hl : s.dec.length = t.dec.length /\ s.com.length = t.com.length) (hq : (s = t) ↔ s.dec = t.dec /\ s.com = t.com)
  {cc : Code} (hc : cc = sub [1, 1, 1, 1] ((Tryz.f8.body).getD .skip)) {s0 s1 s4 s5 s6 s7 s8 s9 Dz Dy s12 Dx Dw Du Dt Ds Dr Dq Dp Dn Dm Dl Dk Dj Di Dh Dg Df Dd Dc Db Da C_ C9 C8 C7 C6 C5 C4 C2 C0 CZ CY CX CW CV CU CT CS CQ CP CO CN CM CK CJ CH CG CF CD CB CA Cz Cy Cx Cw Cv Cu Ct Cr Cq Cn Cm Cl Ck Cj Ci Ch Cg Ce Cc Cb Ca B_ B6 BZ BX BW BU BS BR BQ BP BO BN BM BL BK qA qz qy qx qw qu qq qp qm ql qj qh qg qd p9 p8 pZ pY pX pW pV pU pT pS pR pQ pP pO pN pL pK pJ pI pH pG pF pE pD pC pB pA pz pq o_ oZ oY oX oW oV oU oQ oP oO oN oM oL oK oJ oI oH oG oF oD oC oz ou ot oq oo om oh og od oc n_ n7 nZ nY nX nW nV nU nT nS nR nO nN nM nL nK nJ nI nH nG nE nB nA ny nu nr nk nj ng m9 m7 m6 : Value} :
  cc.wp Tryz.prog (bodyPost Tryz.prog Tryz.f8 (fun e w' => jX (s = t) e /\ Below w0.heap.size w0 w')) { tmps := List.toArray (s0::s1::(au g0)::(au g1)::s4::s5::s6::s7::s8::s9::Dz::Dy::s12::Dx::Dw::Du::Dt::Ds::Dr::Dq::Dp::Dn::Dm::Dl::Dk::Dj::Di::Dh::Dg::Df::Dd::Dc::Db::Da::C_::C9::C8::C7::C6::C5::C4::C2::C0::CZ::CY::CX::CW::CV::CU::CT::CS::CQ::CP::CO::CN::CM::CK::CJ::CH::CG::CF::CD::CB::CA::Cz::Cy::Cx::Cw::Cv::Cu::Ct::Cr::Cq::Cn::Cm::Cl::Ck::Cj::Ci::Ch::Cg::Ce::Cc::Cb::Ca::B_::B6::BZ::BX::BW::BU::BS::BR::BQ::BP::BO::BN::BM::BL::BK::qA::qz::qy::qx::qw::qu::qq::qp::qm::ql::qj::qh::qg::qd::p9::p8::pZ::pY::pX::pW::pV::pU::pT::pS::pR::pQ::pP::pO::pN::pL::pK::pJ::pI::pH::pG::pF::pE::pD::pC::pB::pA::pz::pq::o_::oZ::oY::oX::oW::oV::oU::oQ::oP::oO::oN::oM::oL::oK::oJ::oI::oH::oG::oF::oD::oC::oz::ou::ot::oq::oo::om::oh::og::od::oc::n_::n7::nZ::nY::nX::nW::nV::nU::nT::nS::nR::nO::nN::nM::nL::nK::nJ::nI::nH::nG::nE::nB::nA::ny::nu::nr::nk::nj::ng::m9::m7::m6::[]), defers := [] } wr := by
 conv at hc => rhs; whnf
 subst hc
 apply wp_seq_k
 intro K hK; have ju := ak hK; clear hK; have lZ := ak h0; clear h0; obtain ⟨yP, yp, yQ, yq, yD, yd, yC, yc, wG, wH⟩ := y; obtain ⟨zP, zp, zQ, zq, zD, zd, zC, zc, Ue, Uf⟩ := z; have HH := ak h; have mX := ak hb; have HL := ak hl; have HQ := ak hq; obtain ⟨n, hn⟩ := ah s.dec.length; have HN : Hid (s.dec.length = n /\ t.dec.length = n) := ak ⟨hn, by rw [<- hn]; exact (hl.1).symm⟩; have hnb : n <= 100000 := by rw [<- hn]; exact h.sm.dec
 clear h hb hl hq hn
 go_wp2_with fail
 go_loopw [7] (fun i wr => ∃ (j : Nat), j <= n /\ i = iv (j : Int) /\ Hid (s.dec.take j = t.dec.take j) /\ Hid (Below w2.heap.size w2 wr)) (fun i _ => n - (intOf i).toNat)
 case atStart => exact ⟨0, Nat.zero_le _, rfl, ak rfl, mX⟩
 case round =>
  obtain ⟨j, hj, rfl, HT, HB⟩ := hrel; have hc0 : wr.cell? ⟨g0, 6, none⟩ = some (.slice yD n yd) := by rw [<- HN.o.1]; exact (HH.o.c0.later HB.o).cell (j := 6) rfl
  by_cases hlt : j < n
  ·have hl0 : j < s.dec.length := by rw [HN.o.1]; exact hlt
   have r7 : j < t.dec.length := by rw [HN.o.2]; exact hlt
   have hsa := HH.o.a.later HB.o; have hsb := HH.o.b.later HB.o; obtain ⟨b0, o0, hA, bS⟩ := hsa.dec j (by rw [List.length_map]; exact hl0); obtain ⟨b1, o1, F3, hr1⟩ := hsb.dec j (by rw [List.length_map]; exact r7); simp only at hA F3; subst hA; subst F3; have hc0 : wr.cell? ⟨g0, 6, none⟩ = some (.slice (some ⟨b0, o0, none⟩) n yd) := by rw [<- HN.o.1]; exact (HH.o.c0.later HB.o).cell (j := 6) rfl
   have hc1 : wr.cell? ⟨g1, 6, none⟩ = some (.slice (some ⟨b1, o1, none⟩) n zd) := by rw [<- HN.o.2]; exact (HH.o.c1.later HB.o).cell (j := 6) rfl
   rw [List.getElem_map] at bS hr1; obtain ⟨p, hp⟩ := ah (s.dec[j]); obtain ⟨q, hq⟩ := ah (t.dec[j]); have iu : Hid (p = q -> s.dec.take (j + 1) = t.dec.take (j + 1)) := ak (fun e => by rw [List.take_succ_eq_append_getElem hl0, List.take_succ_eq_append_getElem r7, HT.o, hp, hq, e]); have Fz : Hid (p ≠ q -> ¬ s = t) := ak (fun e h => e (by rw [<- hp, <- hq]; subst h; rfl)); rw [hp] at bS; rw [hq] at hr1; have lX := ak bS; have Fx := ak hr1; have tY : Hid (∀ wi, Below wr.heap.size wr wi -> wi.cell? ⟨g0, 6, none⟩ = some (.slice (some ⟨b0, o0, none⟩) n yd)) := ak (fun wi hi => uo hi hc0); have wO : Hid (∀ wi, Below wr.heap.size wr wi -> wi.cell? ⟨g1, 6, none⟩ = some (.slice (some ⟨b1, o1, none⟩) n zd)) := ak (fun wi hi => uo hi hc1); have HJ : Hid (j < n /\ ((j : Int).toNat = j)) := ak ⟨hlt, by omega⟩; clear bS hr1 hsa hsb hp hq hl0 r7; obtain ⟨dif, zJ⟩ : ∃ v, (!((decide (p.tid.node = q.tid.node) && decide (p.tid.epoch = q.tid.epoch) && decide (p.tid.seq = q.tid.seq)) && (p.yes == q.yes))) = v := ⟨_, rfl⟩; have r_ : Hid (∀ w, (binOp .neq 75 (.agg #[iv p.tid.node, iv p.tid.epoch, iv p.tid.seq, .bool p.yes]) (.agg #[iv q.tid.node, iv q.tid.epoch, iv q.tid.seq, .bool q.yes])).run Tryz.prog w = .ok (.bool dif) w) := ak (fun w => by rw [G9, zJ]); have KH : Hid (dif = false ↔ p = q) := ak (by
    rw [<- zJ]; obtain ⟨⟨p1, p2, p3⟩, p4⟩ := p; obtain ⟨⟨q1, q2, q3⟩, q4⟩ := q
    simp [and_assoc])
   clear zJ
   go_wp2_with fail
   refine N.rb 10 [10] (Y8 (.agg #[iv p.tid.node, iv p.tid.epoch, iv p.tid.seq, .bool p.yes]) (.agg #[iv q.tid.node, iv q.tid.epoch, iv q.tid.seq, .bool q.yes]) g0 g1 b0 o0 n yd b1 o1 n zd j dif) wr (fun V => [(some 150, V 0), (some 151, V 1), (some 152, V 2), (some 153, V 3), (some 154, V 4), (some 155, V 5), (some 156, V 6), (some 157, V 7), (some 158, V 8), (some 159, V 9), (some 160, V 10)]) ?_ ?_
   ·intro i o ho
    have hi : i < 11 := (Array.getElem?_eq_some_iff.1 ho).1; rcases i with _ | _ | _ | _ | _ | _ | _ | _ | _ | _ | _ | i
    rotate_right
    ·omega
    all_goals obtain rfl := Option.some.inj ho
    all_goals intro ρ wi hE hI hs hd
    all_goals try dsimp only at hI
    all_goals (have e7 : ρ (.tmp 7) = iv (j : Int) := hs 7)
    ·have e2 : ρ (.tmp 2) = (au g0) := hs 2; exact N.gw hI
    ·obtain ⟨_, rfl, ZY⟩ := hd 0 150; have hx := tY.o wi hI; exact N.gw hI
    ·exact N.gw hI
    ·obtain ⟨_, rfl, ZX⟩ := hd 1 151; obtain ⟨_, rfl, ZW⟩ := hd 2 152; have hx1 := HJ.o.1; have hx2 := HJ.o.2; exact N.gw hI
    ·obtain ⟨_, rfl, ZV⟩ := hd 3 153; have hr := aM lX.o hI; have u0 : wi.cell? ⟨b0, o0 + j * 4, none⟩ = some (iv p.tid.node) := hr 0 _ rfl; have u1 : wi.cell? ⟨b0, o0 + j * 4 + 1, none⟩ = some (iv p.tid.epoch) := hr 1 _ rfl; have u2 : wi.cell? ⟨b0, o0 + j * 4 + 2, none⟩ = some (iv p.tid.seq) := hr 2 _ rfl
     have u3 : wi.cell? ⟨b0, o0 + j * 4 + 3, none⟩ = some (.bool p.yes) := hr 3 _ rfl; exact N.gw hI
    ·have e3 : ρ (.tmp 3) = (au g1) := hs 3; exact N.gw hI
    ·obtain ⟨_, rfl, ZU⟩ := hd 5 155; have hx := wO.o wi hI; exact N.gw hI
    ·exact N.gw hI
    ·obtain ⟨_, rfl, ZT⟩ := hd 6 156; obtain ⟨_, rfl, ZR⟩ := hd 7 157; have hx1 := HJ.o.1; have hx2 := HJ.o.2; exact N.gw hI
    ·obtain ⟨_, rfl, ZQ⟩ := hd 8 158; have hr := aM Fx.o hI; have u0 : wi.cell? ⟨b1, o1 + j * 4, none⟩ = some (iv q.tid.node) := hr 0 _ rfl; have u1 : wi.cell? ⟨b1, o1 + j * 4 + 1, none⟩ = some (iv q.tid.epoch) := hr 1 _ rfl; have u2 : wi.cell? ⟨b1, o1 + j * 4 + 2, none⟩ = some (iv q.tid.seq) := hr 2 _ rfl
     have u3 : wi.cell? ⟨b1, o1 + j * 4 + 3, none⟩ = some (.bool q.yes) := hr 3 _ rfl; exact N.gw hI
    obtain ⟨_, rfl, VT⟩ := hd 4 154; obtain ⟨_, rfl, VR⟩ := hd 9 159
    exact N.Gives.value (v := .bool dif) (w' := wi) (kD .neq 75 _ _ _ rfl _ _ VT VR (by kernel_rfl) (r_.o wi)) (N.bA.same hI rfl)
   intro V wa hV hI
   have xk : V 10 = .bool dif := hV 10 (by decide) rfl; simp only [N.aP, List.foldl_cons, List.foldl_nil, Act.put, List.setIfInBounds_toArray, List.set_cons_succ, List.set_cons_zero, xk]; replace hI : (fun a => Below wr.heap.size wr a) wa := hI; clear hV xk; have HW := ak (HB.o.trans (hI.mono HB.o.size)); clear hI
   cases dif with
   | false =>
    have fL := ak (iu.o (KH.o.1 (by trivial)))
    go_wp2_with fail
    go_roundw
    case rel => exact ⟨j + 1, by omega, by go_num, fL, HW⟩
    case measure => simp [intOf]; omega
   | true =>
    have jQ := ak (Fz.o fun e => by have := KH.o.2 e; cases this)
    go_wp2_with fail
    go_returns
    exact ⟨gu (by simp [jQ.o]), lZ.o.trans (HW.o.mono lZ.o.size)⟩
  have hjn : j = n := by omega
  have zn : Hid (s.dec = t.dec) := ak (by
   have h := HT.o; rw [List.take_of_length_le (by have := HN.o.1; omega), List.take_of_length_le (by have := HN.o.2; omega)] at h
   exact h)
  clear hjn
  go_wp2_with fail
  exact ju.o _ _ (TK lZ.o HH.o HB.o HL.o.2 ⟨fun e => (HQ.o.1 e).2, fun e => HQ.o.2 ⟨zn.o, e⟩⟩ (by kernel_rfl))
