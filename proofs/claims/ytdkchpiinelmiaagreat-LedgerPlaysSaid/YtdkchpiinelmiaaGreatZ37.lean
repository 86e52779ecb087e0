/- Part 37 of the proof. Conditions: none. -/
import Derived.Test.YtdkchpiinelmiaaGreatZ36
namespace Go.Proofs.YtdkchpiinelmiaaGreat.Led
set_option maxRecDepth 100000
open Go.RowKit Go.Deep Mem fN Rec
def TH (xa xb : Value) (ga gb ba oa na ca bb ob nb cb jx : Nat) : Nat -> Value -> World -> Prop := N.tb [.inl (.pointer (some ⟨ga, 5, none⟩)), .inl (.slice (some ⟨ba, oa, none⟩) na ca), .inl (.int .i64 (jx : Int)), .inl (.pointer (some ⟨ba, oa + jx * 5, none⟩)), .inl (.pointer (some ⟨ba, oa + jx * 5, none⟩)), .inl (xa), .inl (.pointer (some ⟨gb, 5, none⟩)), .inl (.slice (some ⟨bb, ob, none⟩) nb cb), .inl (.int .i64 (jx : Int)), .inl (.pointer (some ⟨bb, ob + jx * 5, none⟩)), .inl (.pointer (some ⟨bb, ob + jx * 5, none⟩)), .inl (xb), .inl (.bool true), .inl (.bool true), .inl (undef), .inl (undef), .inl (undef), .inl (undef), .inl (undef), .inl (undef), .inl (undef), .inl (undef), .inl (undef), .inl (undef), .inl (undef), .inl (undef), .inl (undef), .inl (undef), .inl (.bool true), .inl (.bool true), .inl (undef), .inl (undef), .inl (undef), .inl (undef), .inl (undef), .inl (undef), .inl (undef), .inl (undef), .inl (undef), .inl (undef), .inl (undef), .inl (undef), .inl (undef), .inl (undef), .inl (.bool true)]
def TJ (xa xb ia ib : Value) (ga gb ba oa na ca bb ob nb cb jx : Nat) : Nat -> Value -> World -> Prop := N.tb [.inl (.pointer (some ⟨ga, 5, none⟩)), .inl (.slice (some ⟨ba, oa, none⟩) na ca), .inl (.int .i64 (jx : Int)), .inl (.pointer (some ⟨ba, oa + jx * 5, none⟩)), .inl (.pointer (some ⟨ba, oa + jx * 5, none⟩)), .inl (xa), .inl (.pointer (some ⟨gb, 5, none⟩)), .inl (.slice (some ⟨bb, ob, none⟩) nb cb), .inl (.int .i64 (jx : Int)), .inl (.pointer (some ⟨bb, ob + jx * 5, none⟩)), .inl (.pointer (some ⟨bb, ob + jx * 5, none⟩)), .inl (xb), .inl (.bool false), .inl (.bool false), .inl (.pointer (some ⟨ga, 5, none⟩)), .inl (.slice (some ⟨ba, oa, none⟩) na ca), .inl (.int .i64 (jx : Int)), .inl (.pointer (some ⟨ba, oa + jx * 5, none⟩)), .inl (.pointer (some ⟨ba, oa + jx * 5 + 3, none⟩)), .inl (ia), .inl (.pointer (some ⟨gb, 5, none⟩)), .inl (.slice (some ⟨bb, ob, none⟩) nb cb), .inl (.int .i64 (jx : Int)), .inl (.pointer (some ⟨bb, ob + jx * 5, none⟩)), .inl (.pointer (some ⟨bb, ob + jx * 5 + 3, none⟩)), .inl (ib), .inl (.bool false), .inl (.bool true), .inl (.bool true), .inl (.bool true), .inl (undef), .inl (undef), .inl (undef), .inl (undef), .inl (undef), .inl (undef), .inl (undef), .inl (undef), .inl (undef), .inl (undef), .inl (undef), .inl (undef), .inl (undef), .inl (undef), .inl (.bool true)]
def TI (xa xb ia ib ja jb : Value) (ga gb ba oa na ca bb ob nb cb jx : Nat) (xd : Bool) : Nat -> Value -> World -> Prop := N.tb [.inl (.pointer (some ⟨ga, 5, none⟩)), .inl (.slice (some ⟨ba, oa, none⟩) na ca), .inl (.int .i64 (jx : Int)), .inl (.pointer (some ⟨ba, oa + jx * 5, none⟩)), .inl (.pointer (some ⟨ba, oa + jx * 5, none⟩)), .inl (xa), .inl (.pointer (some ⟨gb, 5, none⟩)), .inl (.slice (some ⟨bb, ob, none⟩) nb cb), .inl (.int .i64 (jx : Int)), .inl (.pointer (some ⟨bb, ob + jx * 5, none⟩)), .inl (.pointer (some ⟨bb, ob + jx * 5, none⟩)), .inl (xb), .inl (.bool false), .inl (.bool false), .inl (.pointer (some ⟨ga, 5, none⟩)), .inl (.slice (some ⟨ba, oa, none⟩) na ca), .inl (.int .i64 (jx : Int)), .inl (.pointer (some ⟨ba, oa + jx * 5, none⟩)), .inl (.pointer (some ⟨ba, oa + jx * 5 + 3, none⟩)), .inl (ia), .inl (.pointer (some ⟨gb, 5, none⟩)), .inl (.slice (some ⟨bb, ob, none⟩) nb cb), .inl (.int .i64 (jx : Int)), .inl (.pointer (some ⟨bb, ob + jx * 5, none⟩)), .inl (.pointer (some ⟨bb, ob + jx * 5 + 3, none⟩)), .inl (ib), .inl (.bool true), .inl (.bool false), .inl (.bool false), .inl (.bool false), .inl (.pointer (some ⟨ga, 5, none⟩)), .inl (.slice (some ⟨ba, oa, none⟩) na ca), .inl (.int .i64 (jx : Int)), .inl (.pointer (some ⟨ba, oa + jx * 5, none⟩)), .inl (.pointer (some ⟨ba, oa + jx * 5 + 4, none⟩)), .inl (ja), .inl (.pointer (some ⟨gb, 5, none⟩)), .inl (.slice (some ⟨bb, ob, none⟩) nb cb), .inl (.int .i64 (jx : Int)), .inl (.pointer (some ⟨bb, ob + jx * 5, none⟩)), .inl (.pointer (some ⟨bb, ob + jx * 5 + 4, none⟩)), .inl (jb), .inl (.bool xd), .inl (.bool (!xd)), .inl (.bool (!xd))]
set_option maxHeartbeats 4000000 in
theorem WK {w0 w2 wr : World} {g0 g1 : Nat} {s t : St} {y z : Sy} (h0 : Below w0.heap.size w0 w2) (h : Sm w2 g0 g1 s t y z) (hb : Below w2.heap.size w2 wr) (hl : s.ay.length = t.ay.length /\ s.dec.length = t.dec.length /\ s.com.length = t.com.length) (hq : (s = t) ↔ s.ay = t.ay /\ s.dec = t.dec /\ s.com = t.com)
  {cc : Code} (hc : cc = sub [1, 1, 1] ((Tryz.f8.body).getD .skip)) {s0 s1 s4 s5 s6 s7 s8 s9 Dz Dy s12 Dx Dw Du Dt Ds Dr Dq Dp Dn Dm Dl Dk Dj Di Dh Dg Df Dd Dc Db Da C_ C9 C8 C7 C6 C5 C4 C2 C0 CZ CY CX CW CV CU CT CS CQ CP CO CN CM CK CJ CH CG CF CD CB CA Cz Cy Cx Cw Cv Cu Ct Cr Cq Cn Cm Cl Ck Cj Ci Ch Cg Ce Cc Cb Ca B_ B6 BZ BX BW BU BS BR BQ BP BO BN BM BL BK qA qz qy qx qw qu qq qp qm ql qj qh qg qd p9 p8 pZ pY pX pW pV pU pT pS pR pQ pP pO pN pL pK pJ pI pH pG pF pE pD pC pB pA pz pq o_ oZ oY oX oW oV oU oQ oP oO oN oM oL oK oJ oI oH oG oF oD oC oz ou ot oq oo om oh og od oc n_ n7 nZ nY nX nW nV nU nT nS nR nO nN nM nL nK nJ nI nH nG nE nB nA ny nu nr nk nj ng m9 m7 m6 : Value} :
  cc.wp Tryz.prog (bodyPost Tryz.prog Tryz.f8 (fun e w' => jX (s = t) e /\ Below w0.heap.size w0 w')) { tmps := List.toArray (s0::s1::(au g0)::(au g1)::s4::s5::s6::s7::s8::s9::Dz::Dy::s12::Dx::Dw::Du::Dt::Ds::Dr::Dq::Dp::Dn::Dm::Dl::Dk::Dj::Di::Dh::Dg::Df::Dd::Dc::Db::Da::C_::C9::C8::C7::C6::C5::C4::C2::C0::CZ::CY::CX::CW::CV::CU::CT::CS::CQ::CP::CO::CN::CM::CK::CJ::CH::CG::CF::CD::CB::CA::Cz::Cy::Cx::Cw::Cv::Cu::Ct::Cr::Cq::Cn::Cm::Cl::Ck::Cj::Ci::Ch::Cg::Ce::Cc::Cb::Ca::B_::B6::BZ::BX::BW::BU::BS::BR::BQ::BP::BO::BN::BM::BL::BK::qA::qz::qy::qx::qw::qu::qq::qp::qm::ql::qj::qh::qg::qd::p9::p8::pZ::pY::pX::pW::pV::pU::pT::pS::pR::pQ::pP::pO::pN::pL::pK::pJ::pI::pH::pG::pF::pE::pD::pC::pB::pA::pz::pq::o_::oZ::oY::oX::oW::oV::oU::oQ::oP::oO::oN::oM::oL::oK::oJ::oI::oH::oG::oF::oD::oC::oz::ou::ot::oq::oo::om::oh::og::od::oc::n_::n7::nZ::nY::nX::nW::nV::nU::nT::nS::nR::nO::nN::nM::nL::nK::nJ::nI::nH::nG::nE::nB::nA::ny::nu::nr::nk::nj::ng::m9::m7::m6::[]), defers := [] } wr := by
 conv at hc => rhs; whnf
 subst hc
 apply wp_seq_k
 intro K hK; have ju := ak hK; clear hK; have lZ := ak h0; clear h0; obtain ⟨yP, yp, yQ, yq, yD, yd, yC, yc, wG, wH⟩ := y; obtain ⟨zP, zp, zQ, zq, zD, zd, zC, zc, Ue, Uf⟩ := z; have HH := ak h; have mX := ak hb; have HL := ak hl; have HQ := ak hq; obtain ⟨n, hn⟩ := ah s.ay.length; have HN : Hid (s.ay.length = n /\ t.ay.length = n) := ak ⟨hn, by rw [<- hn]; exact (hl.1).symm⟩; have hnb : n <= 100000 := by rw [<- hn]; exact h.sm.ay
 clear h hb hl hq hn
 go_wp2_with fail
 go_loopw [6] (fun i wr => ∃ (j : Nat), j <= n /\ i = iv (j : Int) /\ Hid (s.ay.take j = t.ay.take j) /\ Hid (Below w2.heap.size w2 wr)) (fun i _ => n - (intOf i).toNat)
 case atStart => exact ⟨0, Nat.zero_le _, rfl, ak rfl, mX⟩
 case round =>
  obtain ⟨j, hj, rfl, HT, HB⟩ := hrel; have hc0 : wr.cell? ⟨g0, 5, none⟩ = some (.slice yQ n yq) := by rw [<- HN.o.1]; exact (HH.o.c0.later HB.o).cell (j := 5) rfl
  by_cases hlt : j < n
  ·have hl0 : j < s.ay.length := by rw [HN.o.1]; exact hlt
   have r7 : j < t.ay.length := by rw [HN.o.2]; exact hlt
   have hsa := HH.o.a.later HB.o; have hsb := HH.o.b.later HB.o; have hy0 : j < wG.length := by have := hsa.ps; simp only at this; omega
   have hz0 : j < Ue.length := by have := hsb.ps; simp only at this; omega
   obtain ⟨b0, o0, hA, bS⟩ := hsa.ay j (by rw [List.length_zipWith]; simp only; omega); obtain ⟨b1, o1, F3, hr1⟩ := hsb.ay j (by rw [List.length_zipWith]; simp only; omega); have ht0 := hsa.pin j hl0 hy0; have ht1 := hsb.pin j r7 hz0; simp only at hA F3; subst hA; subst F3; have hc0 : wr.cell? ⟨g0, 5, none⟩ = some (.slice (some ⟨b0, o0, none⟩) n yq) := by rw [<- HN.o.1]; exact (HH.o.c0.later HB.o).cell (j := 5) rfl
   have hc1 : wr.cell? ⟨g1, 5, none⟩ = some (.slice (some ⟨b1, o1, none⟩) n zq) := by rw [<- HN.o.2]; exact (HH.o.c1.later HB.o).cell (j := 5) rfl
   rw [List.getElem_zipWith] at bS hr1; simp only at bS hr1 ht0 ht1; obtain ⟨p, hp⟩ := ah (s.ay[j]); obtain ⟨q, hq⟩ := ah (t.ay[j]); have iu : Hid (p = q -> s.ay.take (j + 1) = t.ay.take (j + 1)) := ak (fun e => by rw [List.take_succ_eq_append_getElem hl0, List.take_succ_eq_append_getElem r7, HT.o, hp, hq, e]); have Fz : Hid (p ≠ q -> ¬ s = t) := ak (fun e h => e (by rw [<- hp, <- hq]; subst h; rfl)); have dU : Hid (p.items.length <= 100000 /\ p.nodes.length <= 100000) := ak (by rw [<- hp]; exact HH.o.sm.pin _ (List.getElem_mem hl0)); obtain ⟨la, hla⟩ := ah (wG[j]); obtain ⟨lb, hlb⟩ := ah (Ue[j]); rw [hla] at bS ht0; rw [hlb] at hr1 ht1; rw [hp] at ht0; rw [hq] at ht1; rw [hp] at bS; rw [hq] at hr1; have lX := ak bS; have Fx := ak hr1; have tY : Hid (∀ wi, Below wr.heap.size wr wi -> wi.cell? ⟨g0, 5, none⟩ = some (.slice (some ⟨b0, o0, none⟩) n yq)) := ak (fun wi hi => uo hi hc0); have wO : Hid (∀ wi, Below wr.heap.size wr wi -> wi.cell? ⟨g1, 5, none⟩ = some (.slice (some ⟨b1, o1, none⟩) n zq)) := ak (fun wi hi => uo hi hc1); have HJ : Hid (j < n /\ ((j : Int).toNat = j)) := ak ⟨hlt, by omega⟩; have Xw : Hid (∀ wi, Below wr.heap.size wr wi -> Calls Tryz.prog 27 #[.slice la.A p.items.length la.c, .slice lb.A q.items.length lb.c] wi fun e w' => e = .returned (.bool (decide (p.items = q.items))) /\ Below wi.heap.size wi w') := ak (fun wi hi => ly la.A lb.A p.items q.items la.c lb.c wi (ht0.1.later hi) (ht1.1.later hi) (by have := dU.o; omega))
   have Xv : Hid (∀ wi, Below wr.heap.size wr wi -> Calls Tryz.prog 28 #[.slice la.B p.nodes.length la.d, .slice lb.B q.nodes.length lb.d] wi fun e w' => e = .returned (.bool (decide (p.nodes = q.nodes))) /\ Below wi.heap.size wi w') := ak (fun wi hi => lu la.B lb.B p.nodes q.nodes la.d lb.d wi (ht0.2.1.later hi) (ht1.2.1.later hi) (by have := dU.o; omega))
   clear bS hr1 hsa hsb hp hq hl0 r7 ht0 ht1 hla hlb hy0 hz0; obtain ⟨td, htd⟩ : ∃ v, (!(decide (p.tid.node = q.tid.node) && decide (p.tid.epoch = q.tid.epoch) && decide (p.tid.seq = q.tid.seq))) = v := ⟨_, rfl⟩; have r_ : Hid (∀ w, (binOp .neq 47 (.agg #[iv p.tid.node, iv p.tid.epoch, iv p.tid.seq]) (.agg #[iv q.tid.node, iv q.tid.epoch, iv q.tid.seq])).run Tryz.prog w = .ok (.bool td) w) := ak (fun w => by rw [rU, htd]); have F6 : Hid (td = false ↔ p.tid = q.tid) := ak (by
    rw [<- htd]; obtain ⟨⟨p1, p2, p3⟩, p4, p5⟩ := p; obtain ⟨⟨q1, q2, q3⟩, q4, q5⟩ := q
    simp [and_assoc])
   clear htd
   cases td with
   | true =>
    have jQ := ak (Fz.o fun e => by have := F6.o.2 (by rw [e]); cases this)
    go_wp2_with fail
    refine N.rb 44 [44] (TH (.agg #[iv p.tid.node, iv p.tid.epoch, iv p.tid.seq]) (.agg #[iv q.tid.node, iv q.tid.epoch, iv q.tid.seq]) g0 g1 b0 o0 n yq b1 o1 n zq j) wr (fun V => [(some 98, V 0), (some 99, V 1), (some 100, V 2), (some 101, V 3), (some 102, V 4), (some 103, V 5), (some 104, V 6), (some 105, V 7), (some 106, V 8), (some 107, V 9), (some 108, V 10), (some 109, V 11), (some 110, V 12), (some 111, V 13), (some 112, V 14), (some 113, V 15), (some 114, V 16), (some 115, V 17), (some 116, V 18), (some 117, V 19), (some 118, V 20), (some 119, V 21), (some 120, V 22), (some 121, V 23), (some 122, V 24), (some 123, V 25), (some 124, V 26), (some 125, V 27), (some 126, V 28), (some 127, V 29), (some 128, V 30), (some 129, V 31), (some 130, V 32), (some 131, V 33), (some 132, V 34), (some 133, V 35), (some 134, V 36), (some 135, V 37), (some 136, V 38), (some 137, V 39), (some 138, V 40), (some 139, V 41), (some 140, V 42), (some 141, V 43), (some 142, V 44)]) ?_ ?_
    ·intro i o ho
     have hi : i < 45 := (Array.getElem?_eq_some_iff.1 ho).1; rcases i with _ | _ | _ | _ | _ | _ | _ | _ | _ | _ | _ | _ | _ | _ | _ | _ | _ | _ | _ | _ | _ | _ | _ | _ | _ | _ | _ | _ | _ | _ | _ | _ | _ | _ | _ | _ | _ | _ | _ | _ | _ | _ | _ | _ | _ | i
     rotate_right
     ·omega
     all_goals obtain rfl := Option.some.inj ho
     all_goals intro ρ wi hE hI hs hd
     all_goals try dsimp only at hI
     all_goals (have e6 : ρ (.tmp 6) = iv (j : Int) := hs 6; have hc := hE.const)
     ·have e2 : ρ (.tmp 2) = (au g0) := hs 2; exact N.gw hI
     ·obtain ⟨_, rfl, Yg⟩ := hd 0 98; have hx := tY.o wi hI; exact N.gw hI
     ·exact N.gw hI
     ·obtain ⟨_, rfl, Yf⟩ := hd 1 99; obtain ⟨_, rfl, e100⟩ := hd 2 100; have hx1 := HJ.o.1; have hx2 := HJ.o.2; exact N.gw hI
     ·obtain ⟨_, rfl, Wd⟩ := hd 3 101; exact N.gw hI
     ·obtain ⟨_, rfl, Wc⟩ := hd 4 102; have hr := aM lX.o hI; have u0 : wi.cell? ⟨b0, o0 + j * 5, none⟩ = some (iv p.tid.node) := hr 0 _ rfl; have u1 : wi.cell? ⟨b0, o0 + j * 5 + 1, none⟩ = some (iv p.tid.epoch) := hr 1 _ rfl; have u2 : wi.cell? ⟨b0, o0 + j * 5 + 2, none⟩ = some (iv p.tid.seq) := hr 2 _ rfl; exact N.gw hI
     ·have e3 : ρ (.tmp 3) = (au g1) := hs 3; exact N.gw hI
     ·obtain ⟨_, rfl, Tc⟩ := hd 6 104; have hx := wO.o wi hI; exact N.gw hI
     ·exact N.gw hI
     ·obtain ⟨_, rfl, Tb⟩ := hd 7 105; obtain ⟨_, rfl, Ta⟩ := hd 8 106; have hx1 := HJ.o.1; have hx2 := HJ.o.2; exact N.gw hI
     ·obtain ⟨_, rfl, S_⟩ := hd 9 107; exact N.gw hI
     ·obtain ⟨_, rfl, S9⟩ := hd 10 108; have hr := aM Fx.o hI; have u0 : wi.cell? ⟨b1, o1 + j * 5, none⟩ = some (iv q.tid.node) := hr 0 _ rfl; have u1 : wi.cell? ⟨b1, o1 + j * 5 + 1, none⟩ = some (iv q.tid.epoch) := hr 1 _ rfl; have u2 : wi.cell? ⟨b1, o1 + j * 5 + 2, none⟩ = some (iv q.tid.seq) := hr 2 _ rfl; exact N.gw hI
     ·obtain ⟨_, rfl, Gn⟩ := hd 5 103; obtain ⟨_, rfl, D9⟩ := hd 11 109
      exact N.Gives.value (v := .bool true) (w' := wi) (kD .neq 47 _ _ _ rfl _ _ Gn D9 (by kernel_rfl) (r_.o wi)) (N.bA.same hI rfl)
     ·obtain ⟨_, rfl, S8⟩ := hd 12 110; exact N.gw hI
     iterate 14 ·exact N.no hI
     ·obtain ⟨_, rfl, S7⟩ := hd 13 111; obtain ⟨_, rfl, S6⟩ := hd 27 125; exact N.gw hI
     ·obtain ⟨_, rfl, S5⟩ := hd 28 126; exact N.gw hI
     iterate 14 ·exact N.no hI
     obtain ⟨_, rfl, S4⟩ := hd 29 127; obtain ⟨_, rfl, S0⟩ := hd 43 141; exact N.gw hI
    intro V wa hV hI
    have w_ : V 44 = .bool true := hV 44 (by decide) rfl; simp only [N.aP, List.foldl_cons, List.foldl_nil, Act.put, List.setIfInBounds_toArray, List.set_cons_succ, List.set_cons_zero, w_]; replace hI : (fun a => Below wr.heap.size wr a) wa := hI; clear hV w_; have HW := ak (HB.o.trans (hI.mono HB.o.size)); clear hI
    go_wp2_with fail
    go_returns
    exact ⟨gu (by simp [jQ.o]), lZ.o.trans (HW.o.mono lZ.o.size)⟩
   | false =>
    by_cases hit : p.items = q.items
    ·have Tf : Hid (∀ wi, Below wr.heap.size wr wi -> Calls Tryz.prog 27 #[.slice la.A p.items.length la.c, .slice lb.A q.items.length lb.c] wi fun e w' => e = .returned (.bool true) /\ Below wi.heap.size wi w') := ak (fun wi hi => by have h := Xw.o wi hi; rw [decide_eq_true hit] at h; exact h)
     obtain ⟨nd, hnd⟩ : ∃ v, decide (p.nodes = q.nodes) = v := ⟨_, rfl⟩; rw [hnd] at Xv; have I5 : Hid (nd = true ↔ p.nodes = q.nodes) := ak (by rw [<- hnd]; exact decide_eq_true_iff); have HIT := ak hit; clear hit hnd
     go_wp2_with fail
     refine N.rb 44 [44] (TI (.agg #[iv p.tid.node, iv p.tid.epoch, iv p.tid.seq]) (.agg #[iv q.tid.node, iv q.tid.epoch, iv q.tid.seq]) (.slice la.A p.items.length la.c) (.slice lb.A q.items.length lb.c) (.slice la.B p.nodes.length la.d) (.slice lb.B q.nodes.length lb.d) g0 g1 b0 o0 n yq b1 o1 n zq j nd) wr (fun V => [(some 98, V 0), (some 99, V 1), (some 100, V 2), (some 101, V 3), (some 102, V 4), (some 103, V 5), (some 104, V 6), (some 105, V 7), (some 106, V 8), (some 107, V 9), (some 108, V 10), (some 109, V 11), (some 110, V 12), (some 111, V 13), (some 112, V 14), (some 113, V 15), (some 114, V 16), (some 115, V 17), (some 116, V 18), (some 117, V 19), (some 118, V 20), (some 119, V 21), (some 120, V 22), (some 121, V 23), (some 122, V 24), (some 123, V 25), (some 124, V 26), (some 125, V 27), (some 126, V 28), (some 127, V 29), (some 128, V 30), (some 129, V 31), (some 130, V 32), (some 131, V 33), (some 132, V 34), (some 133, V 35), (some 134, V 36), (some 135, V 37), (some 136, V 38), (some 137, V 39), (some 138, V 40), (some 139, V 41), (some 140, V 42), (some 141, V 43), (some 142, V 44)]) ?_ ?_
     ·intro i o ho
      have hi : i < 45 := (Array.getElem?_eq_some_iff.1 ho).1; rcases i with _ | _ | _ | _ | _ | _ | _ | _ | _ | _ | _ | _ | _ | _ | _ | _ | _ | _ | _ | _ | _ | _ | _ | _ | _ | _ | _ | _ | _ | _ | _ | _ | _ | _ | _ | _ | _ | _ | _ | _ | _ | _ | _ | _ | _ | i
      rotate_right
      ·omega
      all_goals obtain rfl := Option.some.inj ho
      all_goals intro ρ wi hE hI hs hd
      all_goals try dsimp only at hI
      all_goals (have e2 : ρ (.tmp 2) = (au g0) := hs 2; have e6 : ρ (.tmp 6) = iv (j : Int) := hs 6; have e3 : ρ (.tmp 3) = (au g1) := hs 3; have hc := hE.const; have hf := hE.func)
      ·exact N.gw hI
      ·obtain ⟨_, rfl, Yg⟩ := hd 0 98; have hx := tY.o wi hI; exact N.gw hI
      ·exact N.gw hI
      ·obtain ⟨_, rfl, Yf⟩ := hd 1 99; obtain ⟨_, rfl, e100⟩ := hd 2 100; have hx1 := HJ.o.1; have hx2 := HJ.o.2; exact N.gw hI
      ·obtain ⟨_, rfl, Wd⟩ := hd 3 101; exact N.gw hI
      ·obtain ⟨_, rfl, Wc⟩ := hd 4 102; have hr := aM lX.o hI; have u0 : wi.cell? ⟨b0, o0 + j * 5, none⟩ = some (iv p.tid.node) := hr 0 _ rfl; have u1 : wi.cell? ⟨b0, o0 + j * 5 + 1, none⟩ = some (iv p.tid.epoch) := hr 1 _ rfl; have u2 : wi.cell? ⟨b0, o0 + j * 5 + 2, none⟩ = some (iv p.tid.seq) := hr 2 _ rfl; exact N.gw hI
      ·exact N.gw hI
      ·obtain ⟨_, rfl, Tc⟩ := hd 6 104; have hx := wO.o wi hI; exact N.gw hI
      ·exact N.gw hI
      ·obtain ⟨_, rfl, Tb⟩ := hd 7 105; obtain ⟨_, rfl, Ta⟩ := hd 8 106; have hx1 := HJ.o.1; have hx2 := HJ.o.2; exact N.gw hI
      ·obtain ⟨_, rfl, S_⟩ := hd 9 107; exact N.gw hI
      ·obtain ⟨_, rfl, S9⟩ := hd 10 108; have hr := aM Fx.o hI; have u0 : wi.cell? ⟨b1, o1 + j * 5, none⟩ = some (iv q.tid.node) := hr 0 _ rfl; have u1 : wi.cell? ⟨b1, o1 + j * 5 + 1, none⟩ = some (iv q.tid.epoch) := hr 1 _ rfl; have u2 : wi.cell? ⟨b1, o1 + j * 5 + 2, none⟩ = some (iv q.tid.seq) := hr 2 _ rfl; exact N.gw hI
      ·obtain ⟨_, rfl, Gn⟩ := hd 5 103; obtain ⟨_, rfl, D9⟩ := hd 11 109
       exact N.Gives.value (v := .bool false) (w' := wi) (kD .neq 47 _ _ _ rfl _ _ Gn D9 (by kernel_rfl) (r_.o wi)) (N.bA.same hI rfl)
      ·obtain ⟨_, rfl, S8⟩ := hd 12 110; exact N.gw hI
      ·refine N.yes ?_
       exact N.gw hI
      ·obtain ⟨_, rfl, Wb⟩ := hd 14 112
       refine N.yes ?_; have hx := tY.o wi hI; exact N.gw hI
      ·refine N.yes ?_
       exact N.gw hI
      ·obtain ⟨_, rfl, Wa⟩ := hd 15 113; obtain ⟨_, rfl, V_⟩ := hd 16 114
       refine N.yes ?_; have hx1 := HJ.o.1; have hx2 := HJ.o.2; exact N.gw hI
      ·obtain ⟨_, rfl, V9⟩ := hd 17 115
       refine N.yes ?_; exact N.gw hI
      ·obtain ⟨_, rfl, V8⟩ := hd 18 116
       refine N.yes ?_; have hr := aM lX.o hI; have u3 : wi.cell? ⟨b0, o0 + j * 5 + 3, none⟩ = some (.slice la.A p.items.length la.c) := hr 3 _ rfl; exact N.gw hI
      ·refine N.yes ?_
       exact N.gw hI
      ·obtain ⟨_, rfl, V6⟩ := hd 20 118
       refine N.yes ?_; have hx := wO.o wi hI; exact N.gw hI
      ·refine N.yes ?_
       exact N.gw hI
      ·obtain ⟨_, rfl, V5⟩ := hd 21 119; obtain ⟨_, rfl, VZ⟩ := hd 22 120
       refine N.yes ?_; have hx1 := HJ.o.1; have hx2 := HJ.o.2; exact N.gw hI
      ·obtain ⟨_, rfl, VY⟩ := hd 23 121
       refine N.yes ?_; exact N.gw hI
      ·obtain ⟨_, rfl, VX⟩ := hd 24 122
       refine N.yes ?_; have hr := aM Fx.o hI; have u3 : wi.cell? ⟨b1, o1 + j * 5 + 3, none⟩ = some (.slice lb.A q.items.length lb.c) := hr 3 _ rfl; exact N.gw hI
      ·obtain ⟨_, rfl, V7⟩ := hd 19 117; obtain ⟨_, rfl, VW⟩ := hd 25 123
       refine N.yes ?_; refine N.Gives.call (f := 27) (args := #[.slice la.A p.items.length la.c, .slice lb.A q.items.length lb.c]) (w' := wi) (by go_simp) ?_; refine (Tf.o wi hI).mono ?_; rintro e w'' ⟨rfl, hbb⟩; exact ⟨_, rfl, ⟨rfl, hI.trans (hbb.mono hI.size), fun j u _ _ h => N.tz h⟩⟩
      ·obtain ⟨_, rfl, VU⟩ := hd 26 124
       refine N.yes ?_; exact N.gw hI
      ·obtain ⟨_, rfl, S7⟩ := hd 13 111; obtain ⟨_, rfl, S6⟩ := hd 27 125; exact N.gw hI
      ·obtain ⟨_, rfl, S5⟩ := hd 28 126; exact N.gw hI
      ·refine N.yes ?_
       exact N.gw hI
      ·obtain ⟨_, rfl, aad⟩ := hd 30 128
       refine N.yes ?_; have hx := tY.o wi hI; exact N.gw hI
      ·refine N.yes ?_
       exact N.gw hI
      ·obtain ⟨_, rfl, aac⟩ := hd 31 129; obtain ⟨_, rfl, afG⟩ := hd 32 130
       refine N.yes ?_; have hx1 := HJ.o.1; have hx2 := HJ.o.2; exact N.gw hI
      ·obtain ⟨_, rfl, Z_⟩ := hd 33 131
       refine N.yes ?_; exact N.gw hI
      ·obtain ⟨_, rfl, Z9⟩ := hd 34 132
       refine N.yes ?_; have hr := aM lX.o hI; have u4 : wi.cell? ⟨b0, o0 + j * 5 + 4, none⟩ = some (.slice la.B p.nodes.length la.d) := hr 4 _ rfl; exact N.gw hI
      ·refine N.yes ?_
       exact N.gw hI
      ·obtain ⟨_, rfl, Z7⟩ := hd 36 134
       refine N.yes ?_; have hx := wO.o wi hI; exact N.gw hI
      ·refine N.yes ?_
       exact N.gw hI
      ·obtain ⟨_, rfl, Z6⟩ := hd 37 135; obtain ⟨_, rfl, Z5⟩ := hd 38 136
       refine N.yes ?_; have hx1 := HJ.o.1; have hx2 := HJ.o.2; exact N.gw hI
      ·obtain ⟨_, rfl, Z4⟩ := hd 39 137
       refine N.yes ?_; exact N.gw hI
      ·obtain ⟨_, rfl, Z2⟩ := hd 40 138
       refine N.yes ?_; have hr := aM Fx.o hI; have u4 : wi.cell? ⟨b1, o1 + j * 5 + 4, none⟩ = some (.slice lb.B q.nodes.length lb.d) := hr 4 _ rfl; exact N.gw hI
      ·obtain ⟨_, rfl, Z8⟩ := hd 35 133; obtain ⟨_, rfl, Z1⟩ := hd 41 139
       refine N.yes ?_; refine N.Gives.call (f := 28) (args := #[.slice la.B p.nodes.length la.d, .slice lb.B q.nodes.length lb.d]) (w' := wi) (by go_simp) ?_; refine (Xv.o wi hI).mono ?_; rintro e w'' ⟨rfl, hbb⟩; exact ⟨_, rfl, ⟨rfl, hI.trans (hbb.mono hI.size), fun j u _ _ h => N.tz h⟩⟩
      ·obtain ⟨_, rfl, Z0⟩ := hd 42 140
       refine N.yes ?_; exact N.gw hI
      obtain ⟨_, rfl, S4⟩ := hd 29 127; obtain ⟨_, rfl, S0⟩ := hd 43 141; exact N.gw hI
     intro V wa hV hI
     have w_ : V 44 = .bool (!nd) := hV 44 (by decide) rfl; simp only [N.aP, List.foldl_cons, List.foldl_nil, Act.put, List.setIfInBounds_toArray, List.set_cons_succ, List.set_cons_zero, w_]; replace hI : (fun a => Below wr.heap.size wr a) wa := hI; clear hV w_; have HW := ak (HB.o.trans (hI.mono HB.o.size)); clear hI
     cases nd with
     | true =>
      have fL := ak (iu.o (by
       have h1 := F6.o.1 (by trivial); have h2 := HIT.o; have h3 := I5.o.1 (by trivial); obtain ⟨p1, p2, p3⟩ := p; obtain ⟨q1, q2, q3⟩ := q; simp only at h1 h2 h3; rw [h1, h2, h3]))
      go_wp2_with fail
      go_roundw
      case rel => exact ⟨j + 1, by omega, by go_num, fL, HW⟩
      case measure => simp [intOf]; omega
     | false =>
      have jQ := ak (Fz.o fun e => by have := I5.o.2 (by rw [e]); cases this)
      go_wp2_with fail
      go_returns
      exact ⟨gu (by simp [jQ.o]), lZ.o.trans (HW.o.mono lZ.o.size)⟩
    have Tf : Hid (∀ wi, Below wr.heap.size wr wi -> Calls Tryz.prog 27 #[.slice la.A p.items.length la.c, .slice lb.A q.items.length lb.c] wi fun e w' => e = .returned (.bool false) /\ Below wi.heap.size wi w') := ak (fun wi hi => by have h := Xw.o wi hi; rw [decide_eq_false hit] at h; exact h)
    have jQ := ak (Fz.o fun e => hit (by rw [e])); clear hit
    go_wp2_with fail
    refine N.rb 44 [44] (TJ (.agg #[iv p.tid.node, iv p.tid.epoch, iv p.tid.seq]) (.agg #[iv q.tid.node, iv q.tid.epoch, iv q.tid.seq]) (.slice la.A p.items.length la.c) (.slice lb.A q.items.length lb.c) g0 g1 b0 o0 n yq b1 o1 n zq j) wr (fun V => [(some 98, V 0), (some 99, V 1), (some 100, V 2), (some 101, V 3), (some 102, V 4), (some 103, V 5), (some 104, V 6), (some 105, V 7), (some 106, V 8), (some 107, V 9), (some 108, V 10), (some 109, V 11), (some 110, V 12), (some 111, V 13), (some 112, V 14), (some 113, V 15), (some 114, V 16), (some 115, V 17), (some 116, V 18), (some 117, V 19), (some 118, V 20), (some 119, V 21), (some 120, V 22), (some 121, V 23), (some 122, V 24), (some 123, V 25), (some 124, V 26), (some 125, V 27), (some 126, V 28), (some 127, V 29), (some 128, V 30), (some 129, V 31), (some 130, V 32), (some 131, V 33), (some 132, V 34), (some 133, V 35), (some 134, V 36), (some 135, V 37), (some 136, V 38), (some 137, V 39), (some 138, V 40), (some 139, V 41), (some 140, V 42), (some 141, V 43), (some 142, V 44)]) ?_ ?_
    ·intro i o ho
     have hi : i < 45 := (Array.getElem?_eq_some_iff.1 ho).1; rcases i with _ | _ | _ | _ | _ | _ | _ | _ | _ | _ | _ | _ | _ | _ | _ | _ | _ | _ | _ | _ | _ | _ | _ | _ | _ | _ | _ | _ | _ | _ | _ | _ | _ | _ | _ | _ | _ | _ | _ | _ | _ | _ | _ | _ | _ | i
     rotate_right
     ·omega
     all_goals obtain rfl := Option.some.inj ho
     all_goals intro ρ wi hE hI hs hd
     all_goals try dsimp only at hI
     all_goals (have e2 : ρ (.tmp 2) = (au g0) := hs 2; have e6 : ρ (.tmp 6) = iv (j : Int) := hs 6; have e3 : ρ (.tmp 3) = (au g1) := hs 3; have hc := hE.const)
     ·exact N.gw hI
     ·obtain ⟨_, rfl, Yg⟩ := hd 0 98; have hx := tY.o wi hI; exact N.gw hI
     ·exact N.gw hI
     ·obtain ⟨_, rfl, Yf⟩ := hd 1 99; obtain ⟨_, rfl, e100⟩ := hd 2 100; have hx1 := HJ.o.1; have hx2 := HJ.o.2; exact N.gw hI
     ·obtain ⟨_, rfl, Wd⟩ := hd 3 101; exact N.gw hI
     ·obtain ⟨_, rfl, Wc⟩ := hd 4 102; have hr := aM lX.o hI; have u0 : wi.cell? ⟨b0, o0 + j * 5, none⟩ = some (iv p.tid.node) := hr 0 _ rfl; have u1 : wi.cell? ⟨b0, o0 + j * 5 + 1, none⟩ = some (iv p.tid.epoch) := hr 1 _ rfl; have u2 : wi.cell? ⟨b0, o0 + j * 5 + 2, none⟩ = some (iv p.tid.seq) := hr 2 _ rfl; exact N.gw hI
     ·exact N.gw hI
     ·obtain ⟨_, rfl, Tc⟩ := hd 6 104; have hx := wO.o wi hI; exact N.gw hI
     ·exact N.gw hI
     ·obtain ⟨_, rfl, Tb⟩ := hd 7 105; obtain ⟨_, rfl, Ta⟩ := hd 8 106; have hx1 := HJ.o.1; have hx2 := HJ.o.2; exact N.gw hI
     ·obtain ⟨_, rfl, S_⟩ := hd 9 107; exact N.gw hI
     ·obtain ⟨_, rfl, S9⟩ := hd 10 108; have hr := aM Fx.o hI; have u0 : wi.cell? ⟨b1, o1 + j * 5, none⟩ = some (iv q.tid.node) := hr 0 _ rfl; have u1 : wi.cell? ⟨b1, o1 + j * 5 + 1, none⟩ = some (iv q.tid.epoch) := hr 1 _ rfl; have u2 : wi.cell? ⟨b1, o1 + j * 5 + 2, none⟩ = some (iv q.tid.seq) := hr 2 _ rfl; exact N.gw hI
     ·obtain ⟨_, rfl, Gn⟩ := hd 5 103; obtain ⟨_, rfl, D9⟩ := hd 11 109
      exact N.Gives.value (v := .bool false) (w' := wi) (kD .neq 47 _ _ _ rfl _ _ Gn D9 (by kernel_rfl) (r_.o wi)) (N.bA.same hI rfl)
     ·obtain ⟨_, rfl, S8⟩ := hd 12 110; exact N.gw hI
     ·refine N.yes ?_
      exact N.gw hI
     ·obtain ⟨_, rfl, Wb⟩ := hd 14 112
      refine N.yes ?_; have hx := tY.o wi hI; exact N.gw hI
     ·refine N.yes ?_
      exact N.gw hI
     ·obtain ⟨_, rfl, Wa⟩ := hd 15 113; obtain ⟨_, rfl, V_⟩ := hd 16 114
      refine N.yes ?_; have hx1 := HJ.o.1; have hx2 := HJ.o.2; exact N.gw hI
     ·obtain ⟨_, rfl, V9⟩ := hd 17 115
      refine N.yes ?_; exact N.gw hI
     ·obtain ⟨_, rfl, V8⟩ := hd 18 116
      refine N.yes ?_; have hr := aM lX.o hI; have u3 : wi.cell? ⟨b0, o0 + j * 5 + 3, none⟩ = some (.slice la.A p.items.length la.c) := hr 3 _ rfl; exact N.gw hI
     ·refine N.yes ?_
      exact N.gw hI
     ·obtain ⟨_, rfl, V6⟩ := hd 20 118
      refine N.yes ?_; have hx := wO.o wi hI; exact N.gw hI
     ·refine N.yes ?_
      exact N.gw hI
     ·obtain ⟨_, rfl, V5⟩ := hd 21 119; obtain ⟨_, rfl, VZ⟩ := hd 22 120
      refine N.yes ?_; have hx1 := HJ.o.1; have hx2 := HJ.o.2; exact N.gw hI
     ·obtain ⟨_, rfl, VY⟩ := hd 23 121
      refine N.yes ?_; exact N.gw hI
     ·obtain ⟨_, rfl, VX⟩ := hd 24 122
      refine N.yes ?_; have hr := aM Fx.o hI; have u3 : wi.cell? ⟨b1, o1 + j * 5 + 3, none⟩ = some (.slice lb.A q.items.length lb.c) := hr 3 _ rfl; exact N.gw hI
     ·obtain ⟨_, rfl, V7⟩ := hd 19 117; obtain ⟨_, rfl, VW⟩ := hd 25 123; have hf := hE.func
      refine N.yes ?_; refine N.Gives.call (f := 27) (args := #[.slice la.A p.items.length la.c, .slice lb.A q.items.length lb.c]) (w' := wi) (by go_simp) ?_; refine (Tf.o wi hI).mono ?_; rintro e w'' ⟨rfl, hbb⟩; exact ⟨_, rfl, ⟨rfl, hI.trans (hbb.mono hI.size), fun j u _ _ h => N.tz h⟩⟩
     ·obtain ⟨_, rfl, VU⟩ := hd 26 124
      refine N.yes ?_; exact N.gw hI
     ·obtain ⟨_, rfl, S7⟩ := hd 13 111; obtain ⟨_, rfl, S6⟩ := hd 27 125; exact N.gw hI
     ·obtain ⟨_, rfl, S5⟩ := hd 28 126; exact N.gw hI
     iterate 14 ·exact N.no hI
     obtain ⟨_, rfl, S4⟩ := hd 29 127; obtain ⟨_, rfl, S0⟩ := hd 43 141; exact N.gw hI
    intro V wa hV hI
    have w_ : V 44 = .bool true := hV 44 (by decide) rfl; simp only [N.aP, List.foldl_cons, List.foldl_nil, Act.put, List.setIfInBounds_toArray, List.set_cons_succ, List.set_cons_zero, w_]; replace hI : (fun a => Below wr.heap.size wr a) wa := hI; clear hV w_; have HW := ak (HB.o.trans (hI.mono HB.o.size)); clear hI
    go_wp2_with fail
    go_returns
    exact ⟨gu (by simp [jQ.o]), lZ.o.trans (HW.o.mono lZ.o.size)⟩
  have hjn : j = n := by omega
  have zn : Hid (s.ay = t.ay) := ak (by
   have h := HT.o; rw [List.take_of_length_le (by have := HN.o.1; omega), List.take_of_length_le (by have := HN.o.2; omega)] at h
   exact h)
  clear hjn
  go_wp2_with fail
  exact ju.o _ _ (TL lZ.o HH.o HB.o HL.o.2 ⟨fun e => (HQ.o.1 e).2, fun e => HQ.o.2 ⟨zn.o, e⟩⟩ (by kernel_rfl))
def ss6 (xa xb : Value) (ga gb ba oa na ca bb ob nb cb jx : Nat) (xd : Bool) : Nat -> Value -> World -> Prop := N.tb [.inl (.pointer (some ⟨ga, 4, none⟩)), .inl (.slice (some ⟨ba, oa, none⟩) na ca), .inl (.int .i64 (jx : Int)), .inl (.pointer (some ⟨ba, oa + jx * 5, none⟩)), .inl (xa), .inl (.pointer (some ⟨gb, 4, none⟩)), .inl (.slice (some ⟨bb, ob, none⟩) nb cb), .inl (.int .i64 (jx : Int)), .inl (.pointer (some ⟨bb, ob + jx * 5, none⟩)), .inl (xb), .inl (.bool xd)]
set_option maxHeartbeats 4000000 in
theorem WL {w0 w2 wr : World} {g0 g1 : Nat} {s t : St} {y z : Sy} (h0 : Below w0.heap.size w0 w2) (h : Sm w2 g0 g1 s t y z) (hb : Below w2.heap.size w2 wr) (hl : s.places.length = t.places.length /\ s.ay.length = t.ay.length /\ s.dec.length = t.dec.length /\ s.com.length = t.com.length) (hq : (s = t) ↔ s.places = t.places /\ s.ay = t.ay /\ s.dec = t.dec /\ s.com = t.com)
  {cc : Code} (hc : cc = sub [1, 1] ((Tryz.f8.body).getD .skip)) {s0 s1 s4 s5 s6 s7 s8 s9 Dz Dy s12 Dx Dw Du Dt Ds Dr Dq Dp Dn Dm Dl Dk Dj Di Dh Dg Df Dd Dc Db Da C_ C9 C8 C7 C6 C5 C4 C2 C0 CZ CY CX CW CV CU CT CS CQ CP CO CN CM CK CJ CH CG CF CD CB CA Cz Cy Cx Cw Cv Cu Ct Cr Cq Cn Cm Cl Ck Cj Ci Ch Cg Ce Cc Cb Ca B_ B6 BZ BX BW BU BS BR BQ BP BO BN BM BL BK qA qz qy qx qw qu qq qp qm ql qj qh qg qd p9 p8 pZ pY pX pW pV pU pT pS pR pQ pP pO pN pL pK pJ pI pH pG pF pE pD pC pB pA pz pq o_ oZ oY oX oW oV oU oQ oP oO oN oM oL oK oJ oI oH oG oF oD oC oz ou ot oq oo om oh og od oc n_ n7 nZ nY nX nW nV nU nT nS nR nO nN nM nL nK nJ nI nH nG nE nB nA ny nu nr nk nj ng m9 m7 m6 : Value} :
  cc.wp Tryz.prog (bodyPost Tryz.prog Tryz.f8 (fun e w' => jX (s = t) e /\ Below w0.heap.size w0 w')) { tmps := List.toArray (s0::s1::(au g0)::(au g1)::s4::s5::s6::s7::s8::s9::Dz::Dy::s12::Dx::Dw::Du::Dt::Ds::Dr::Dq::Dp::Dn::Dm::Dl::Dk::Dj::Di::Dh::Dg::Df::Dd::Dc::Db::Da::C_::C9::C8::C7::C6::C5::C4::C2::C0::CZ::CY::CX::CW::CV::CU::CT::CS::CQ::CP::CO::CN::CM::CK::CJ::CH::CG::CF::CD::CB::CA::Cz::Cy::Cx::Cw::Cv::Cu::Ct::Cr::Cq::Cn::Cm::Cl::Ck::Cj::Ci::Ch::Cg::Ce::Cc::Cb::Ca::B_::B6::BZ::BX::BW::BU::BS::BR::BQ::BP::BO::BN::BM::BL::BK::qA::qz::qy::qx::qw::qu::qq::qp::qm::ql::qj::qh::qg::qd::p9::p8::pZ::pY::pX::pW::pV::pU::pT::pS::pR::pQ::pP::pO::pN::pL::pK::pJ::pI::pH::pG::pF::pE::pD::pC::pB::pA::pz::pq::o_::oZ::oY::oX::oW::oV::oU::oQ::oP::oO::oN::oM::oL::oK::oJ::oI::oH::oG::oF::oD::oC::oz::ou::ot::oq::oo::om::oh::og::od::oc::n_::n7::nZ::nY::nX::nW::nV::nU::nT::nS::nR::nO::nN::nM::nL::nK::nJ::nI::nH::nG::nE::nB::nA::ny::nu::nr::nk::nj::ng::m9::m7::m6::[]), defers := [] } wr := by
 conv at hc => rhs; whnf
 subst hc
 apply wp_seq_k
 intro K hK; have ju := ak hK; clear hK; have lZ := ak h0; clear h0; obtain ⟨yP, yp, yQ, yq, yD, yd, yC, yc, wG, wH⟩ := y; obtain ⟨zP, zp, zQ, zq, zD, zd, zC, zc, Ue, Uf⟩ := z; have HH := ak h; have mX := ak hb; have HL := ak hl; have HQ := ak hq; obtain ⟨n, hn⟩ := ah s.places.length; have HN : Hid (s.places.length = n /\ t.places.length = n) := ak ⟨hn, by rw [<- hn]; exact (hl.1).symm⟩; have hnb : n <= 100000 := by rw [<- hn]; exact h.sm.places
 clear h hb hl hq hn
 go_wp2_with fail
 go_loopw [5] (fun i wr => ∃ (j : Nat), j <= n /\ i = iv (j : Int) /\ Hid (s.places.take j = t.places.take j) /\ Hid (Below w2.heap.size w2 wr)) (fun i _ => n - (intOf i).toNat)
 case atStart => exact ⟨0, Nat.zero_le _, rfl, ak rfl, mX⟩
 case round =>
  obtain ⟨j, hj, rfl, HT, HB⟩ := hrel; have hc0 : wr.cell? ⟨g0, 4, none⟩ = some (.slice yP n yp) := by rw [<- HN.o.1]; exact (HH.o.c0.later HB.o).cell (j := 4) rfl
  by_cases hlt : j < n
  ·have hl0 : j < s.places.length := by rw [HN.o.1]; exact hlt
   have r7 : j < t.places.length := by rw [HN.o.2]; exact hlt
   have hsa := HH.o.a.later HB.o; have hsb := HH.o.b.later HB.o; obtain ⟨b0, o0, hA, bS⟩ := hsa.places j (by rw [List.length_map]; exact hl0); obtain ⟨b1, o1, F3, hr1⟩ := hsb.places j (by rw [List.length_map]; exact r7); simp only at hA F3; subst hA; subst F3; have hc0 : wr.cell? ⟨g0, 4, none⟩ = some (.slice (some ⟨b0, o0, none⟩) n yp) := by rw [<- HN.o.1]; exact (HH.o.c0.later HB.o).cell (j := 4) rfl
   have hc1 : wr.cell? ⟨g1, 4, none⟩ = some (.slice (some ⟨b1, o1, none⟩) n zp) := by rw [<- HN.o.2]; exact (HH.o.c1.later HB.o).cell (j := 4) rfl
   rw [List.getElem_map] at bS hr1; obtain ⟨p, hp⟩ := ah (s.places[j]); obtain ⟨q, hq⟩ := ah (t.places[j]); have iu : Hid (p = q -> s.places.take (j + 1) = t.places.take (j + 1)) := ak (fun e => by rw [List.take_succ_eq_append_getElem hl0, List.take_succ_eq_append_getElem r7, HT.o, hp, hq, e]); have Fz : Hid (p ≠ q -> ¬ s = t) := ak (fun e h => e (by rw [<- hp, <- hq]; subst h; rfl)); rw [hp] at bS; rw [hq] at hr1; have lX := ak bS; have Fx := ak hr1; have tY : Hid (∀ wi, Below wr.heap.size wr wi -> wi.cell? ⟨g0, 4, none⟩ = some (.slice (some ⟨b0, o0, none⟩) n yp)) := ak (fun wi hi => uo hi hc0); have wO : Hid (∀ wi, Below wr.heap.size wr wi -> wi.cell? ⟨g1, 4, none⟩ = some (.slice (some ⟨b1, o1, none⟩) n zp)) := ak (fun wi hi => uo hi hc1); have HJ : Hid (j < n /\ ((j : Int).toNat = j)) := ak ⟨hlt, by omega⟩; clear bS hr1 hsa hsb hp hq hl0 r7; obtain ⟨dif, zJ⟩ : ∃ v, (!(decide (p.status = q.status) && decide (p.hop = q.hop) && decide (p.to = q.to) && decide (p.version = q.version) && decide (p.value = q.value))) = v := ⟨_, rfl⟩; have r_ : Hid (∀ w, (binOp .neq 69 (.agg #[iv p.status, iv p.hop, iv p.to, iv p.version, iv p.value]) (.agg #[iv q.status, iv q.hop, iv q.to, iv q.version, iv q.value])).run Tryz.prog w = .ok (.bool dif) w) := ak (fun w => by rw [Ac, zJ]); have KH : Hid (dif = false ↔ p = q) := ak (by
    rw [<- zJ]; obtain ⟨p1, p2, p3, p4, p5⟩ := p; obtain ⟨q1, q2, q3, q4, q5⟩ := q
    simp [and_assoc])
   clear zJ
   go_wp2_with fail
   refine N.rb 10 [10] (ss6 (.agg #[iv p.status, iv p.hop, iv p.to, iv p.version, iv p.value]) (.agg #[iv q.status, iv q.hop, iv q.to, iv q.version, iv q.value]) g0 g1 b0 o0 n yp b1 o1 n zp j dif) wr (fun V => [(some 80, V 0), (some 81, V 1), (some 82, V 2), (some 83, V 3), (some 84, V 4), (some 85, V 5), (some 86, V 6), (some 87, V 7), (some 88, V 8), (some 89, V 9), (some 90, V 10)]) ?_ ?_
   ·intro i o ho
    have hi : i < 11 := (Array.getElem?_eq_some_iff.1 ho).1; rcases i with _ | _ | _ | _ | _ | _ | _ | _ | _ | _ | _ | i
    rotate_right
    ·omega
    all_goals obtain rfl := Option.some.inj ho
    all_goals intro ρ wi hE hI hs hd
    all_goals try dsimp only at hI
    all_goals (have e5 : ρ (.tmp 5) = iv (j : Int) := hs 5)
    ·have e2 : ρ (.tmp 2) = (au g0) := hs 2; exact N.gw hI
    ·obtain ⟨_, rfl, Yi⟩ := hd 0 80; have hx := tY.o wi hI; exact N.gw hI
    ·exact N.gw hI
    ·obtain ⟨_, rfl, e81⟩ := hd 1 81; obtain ⟨_, rfl, Xj⟩ := hd 2 82; have hx1 := HJ.o.1; have hx2 := HJ.o.2; exact N.gw hI
    ·obtain ⟨_, rfl, Xi⟩ := hd 3 83; have hr := aM lX.o hI; have u0 : wi.cell? ⟨b0, o0 + j * 5, none⟩ = some (iv p.status) := hr 0 _ rfl; have u1 : wi.cell? ⟨b0, o0 + j * 5 + 1, none⟩ = some (iv p.hop) := hr 1 _ rfl; have u2 : wi.cell? ⟨b0, o0 + j * 5 + 2, none⟩ = some (iv p.to) := hr 2 _ rfl
     have u3 : wi.cell? ⟨b0, o0 + j * 5 + 3, none⟩ = some (iv p.version) := hr 3 _ rfl; have u4 : wi.cell? ⟨b0, o0 + j * 5 + 4, none⟩ = some (iv p.value) := hr 4 _ rfl; exact N.gw hI
    ·have e3 : ρ (.tmp 3) = (au g1) := hs 3; exact N.gw hI
    ·obtain ⟨_, rfl, e85⟩ := hd 5 85; have hx := wO.o wi hI; exact N.gw hI
    ·exact N.gw hI
    ·obtain ⟨_, rfl, e86⟩ := hd 6 86; obtain ⟨_, rfl, e87⟩ := hd 7 87; have hx1 := HJ.o.1; have hx2 := HJ.o.2; exact N.gw hI
    ·obtain ⟨_, rfl, e88⟩ := hd 8 88; have hr := aM Fx.o hI; have u0 : wi.cell? ⟨b1, o1 + j * 5, none⟩ = some (iv q.status) := hr 0 _ rfl; have u1 : wi.cell? ⟨b1, o1 + j * 5 + 1, none⟩ = some (iv q.hop) := hr 1 _ rfl; have u2 : wi.cell? ⟨b1, o1 + j * 5 + 2, none⟩ = some (iv q.to) := hr 2 _ rfl
     have u3 : wi.cell? ⟨b1, o1 + j * 5 + 3, none⟩ = some (iv q.version) := hr 3 _ rfl; have u4 : wi.cell? ⟨b1, o1 + j * 5 + 4, none⟩ = some (iv q.value) := hr 4 _ rfl; exact N.gw hI
    obtain ⟨_, rfl, Yh⟩ := hd 4 84; obtain ⟨_, rfl, e89⟩ := hd 9 89
    exact N.Gives.value (v := .bool dif) (w' := wi) (kD .neq 69 _ _ _ rfl _ _ Yh e89 (by kernel_rfl) (r_.o wi)) (N.bA.same hI rfl)
   intro V wa hV hI
   have xk : V 10 = .bool dif := hV 10 (by decide) rfl; simp only [N.aP, List.foldl_cons, List.foldl_nil, Act.put, List.setIfInBounds_toArray, List.set_cons_succ, List.set_cons_zero, xk]; replace hI : (fun a => Below wr.heap.size wr a) wa := hI; clear hV xk; have HW := ak (HB.o.trans (hI.mono HB.o.size)); clear hI
   cases dif with
   | false =>
    have fL := ak (iu.o (KH.o.1 (by trivial)))
    go_wp2_with fail
    go_roundw
    case rel => exact ⟨j + 1, by omega, by go_num, fL, HW⟩
    case measure => simp [intOf]; omega
   | true =>
    have jQ := ak (Fz.o fun e => by have := KH.o.2 e; cases this)
    go_wp2_with fail
    go_returns
    exact ⟨gu (by simp [jQ.o]), lZ.o.trans (HW.o.mono lZ.o.size)⟩
  have hjn : j = n := by omega
  have zn : Hid (s.places = t.places) := ak (by
   have h := HT.o; rw [List.take_of_length_le (by have := HN.o.1; omega), List.take_of_length_le (by have := HN.o.2; omega)] at h
   exact h)
  clear hjn
  go_wp2_with fail
  exact ju.o _ _ (WK lZ.o HH.o HB.o HL.o.2 ⟨fun e => (HQ.o.1 e).2, fun e => HQ.o.2 ⟨zn.o, e⟩⟩ (by kernel_rfl))
set_option maxHeartbeats 4000000 in
theorem WM {w0 w2 wr : World} {g0 g1 : Nat} {s t : St} {y z : Sy} (h0 : Below w0.heap.size w0 w2) (h : Sm w2 g0 g1 s t y z) (hb : Below w2.heap.size w2 wr) 
  {cc : Code} (hc : cc = sub [1] ((Tryz.f8.body).getD .skip)) {s0 s1 s4 s5 s6 s7 s8 s9 Dz Dy s12 Dx Dw Du Dt Ds Dr Dq Dp Dn Dm Dl Dk Dj Di Dh Dg Df Dd Dc Db Da C_ C9 C8 C7 C6 C5 C4 C2 C0 CZ CY CX CW CV CU CT CS CQ CP CO CN CM CK CJ CH CG CF CD CB CA Cz Cy Cx Cw Cv Cu Ct Cr Cq Cn Cm Cl Ck Cj Ci Ch Cg Ce Cc Cb Ca B_ B6 BZ BX BW BU BS BR BQ BP BO BN BM BL BK qA qz qy qx qw qu qq qp qm ql qj qh qg qd p9 p8 pZ pY pX pW pV pU pT pS pR pQ pP pO pN pL pK pJ pI pH pG pF pE pD pC pB pA pz pq o_ oZ oY oX oW oV oU oQ oP oO oN oM oL oK oJ oI oH oG oF oD oC oz ou ot oq oo om oh og od oc n_ n7 nZ nY nX nW nV nU nT nS nR nO nN nM nL nK nJ nI nH nG nE nB nA ny nu nr nk nj ng m9 m7 m6 : Value} :
  cc.wp Tryz.prog (bodyPost Tryz.prog Tryz.f8 (fun e w' => jX (s = t) e /\ Below w0.heap.size w0 w')) { tmps := List.toArray (s0::s1::(au g0)::(au g1)::s4::s5::s6::s7::s8::s9::Dz::Dy::s12::Dx::Dw::Du::Dt::Ds::Dr::Dq::Dp::Dn::Dm::Dl::Dk::Dj::Di::Dh::Dg::Df::Dd::Dc::Db::Da::C_::C9::C8::C7::C6::C5::C4::C2::C0::CZ::CY::CX::CW::CV::CU::CT::CS::CQ::CP::CO::CN::CM::CK::CJ::CH::CG::CF::CD::CB::CA::Cz::Cy::Cx::Cw::Cv::Cu::Ct::Cr::Cq::Cn::Cm::Cl::Ck::Cj::Ci::Ch::Cg::Ce::Cc::Cb::Ca::B_::B6::BZ::BX::BW::BU::BS::BR::BQ::BP::BO::BN::BM::BL::BK::qA::qz::qy::qx::qw::qu::qq::qp::qm::ql::qj::qh::qg::qd::p9::p8::pZ::pY::pX::pW::pV::pU::pT::pS::pR::pQ::pP::pO::pN::pL::pK::pJ::pI::pH::pG::pF::pE::pD::pC::pB::pA::pz::pq::o_::oZ::oY::oX::oW::oV::oU::oQ::oP::oO::oN::oM::oL::oK::oJ::oI::oH::oG::oF::oD::oC::oz::ou::ot::oq::oo::om::oh::og::od::oc::n_::n7::nZ::nY::nX::nW::nV::nU::nT::nS::nR::nO::nN::nM::nL::nK::nJ::nI::nH::nG::nE::nB::nA::ny::nu::nr::nk::nj::ng::m9::m7::m6::[]), defers := [] } wr := by
 conv at hc => rhs; whnf
 subst hc
 apply wp_seq_k
 intro K hK; have ju := ak hK; clear hK; have lZ := ak h0; clear h0; obtain ⟨yP, yp, yQ, yq, yD, yd, yC, yc, wG, wH⟩ := y; obtain ⟨zP, zp, zQ, zq, zD, zd, zC, zc, Ue, Uf⟩ := z; have HH := ak h; have mX := ak hb; obtain ⟨s1, s2, s3, s4, l1, l2, l3, l4⟩ := s; obtain ⟨t1, t2, t3, t4, m1, m2, m3, m4⟩ := t; have fW := ak (h.c0.later hb); have bZ := ak (h.c1.later hb); unfold St.vals at fW bZ; simp only at fW bZ; obtain ⟨n1, hn1⟩ := ah l1.length; obtain ⟨k1, hk1⟩ := ah m1.length; obtain ⟨n2, hn2⟩ := ah l2.length; obtain ⟨k2, hk2⟩ := ah m2.length; obtain ⟨n3, t_⟩ := ah l3.length; obtain ⟨k3, hk3⟩ := ah m3.length; obtain ⟨n4, UQ⟩ := ah l4.length; obtain ⟨k4, hk4⟩ := ah m4.length; have uh : Hid (l1.length = n1 /\ l2.length = n2 /\ l3.length = n3 /\ l4.length = n4 /\ m1.length = k1 /\ m2.length = k2 /\ m3.length = k3 /\ m4.length = k4) := ak ⟨hn1, hn2, t_, UQ, hk1, hk2, hk3, hk4⟩; rw [hn1, hn2, t_, UQ] at fW; rw [hk1, hk2, hk3, hk4] at bZ; clear hn1 hn2 t_ UQ hk1 hk2 hk3 hk4 h hb; have x0 := fW.o.cell (j := 0) rfl; have z0 := bZ.o.cell (j := 0) rfl; have x1 := fW.o.cell (j := 1) rfl; have z1 := bZ.o.cell (j := 1) rfl; have x2 := fW.o.cell (j := 2) rfl; have z2 := bZ.o.cell (j := 2) rfl; have x3 := fW.o.cell (j := 3) rfl; have z3 := bZ.o.cell (j := 3) rfl; have x4 := fW.o.cell (j := 4) rfl; have z4 := bZ.o.cell (j := 4) rfl; have x5 := fW.o.cell (j := 5) rfl; have z5 := bZ.o.cell (j := 5) rfl; have x6 := fW.o.cell (j := 6) rfl; have z6 := bZ.o.cell (j := 6) rfl; have x7 := fW.o.cell (j := 7) rfl; have z7 := bZ.o.cell (j := 7) rfl
 go_upto_region 1 with (fail)
 go_cut [72] from 11 to 73 (fun v wx => v = .bool (!decide (s1 = t1 /\ s2 = t2 /\ s3 = t3 /\ s4 = t4 /\ n1 = k1 /\ n2 = k2 /\ n3 = k3 /\ n4 = k4)) /\ wx = wr)
 case first =>
  by_cases e0 : s1 = t1
  rotate_left
  ·have hq1 : (s1 == t1) = false := by simp; omega
   have hq2 : (s1 != t1) = true := by simp; omega
   have HV : Hid (decide (s1 = t1 /\ s2 = t2 /\ s3 = t3 /\ s4 = t4 /\ n1 = k1 /\ n2 = k2 /\ n3 = k3 /\ n4 = k4) = false) := ak (decide_eq_false (by omega)); clear e0
   go_wp2_with fail
   go_meet
   exact ⟨by rw [HV.o]; rfl, rfl⟩
  by_cases e1 : s2 = t2
  rotate_left
  ·have hq1 : (s2 == t2) = false := by simp; omega
   have hq2 : (s2 != t2) = true := by simp; omega
   have HV : Hid (decide (s1 = t1 /\ s2 = t2 /\ s3 = t3 /\ s4 = t4 /\ n1 = k1 /\ n2 = k2 /\ n3 = k3 /\ n4 = k4) = false) := ak (decide_eq_false (by omega)); clear e1
   go_wp2_with fail
   go_meet
   exact ⟨by rw [HV.o]; rfl, rfl⟩
  by_cases e2 : s3 = t3
  rotate_left
  ·have hq1 : (s3 == t3) = false := by simp; omega
   have hq2 : (s3 != t3) = true := by simp; omega
   have HV : Hid (decide (s1 = t1 /\ s2 = t2 /\ s3 = t3 /\ s4 = t4 /\ n1 = k1 /\ n2 = k2 /\ n3 = k3 /\ n4 = k4) = false) := ak (decide_eq_false (by omega)); clear e2
   go_wp2_with fail
   go_meet
   exact ⟨by rw [HV.o]; rfl, rfl⟩
  by_cases e3 : s4 = t4
  rotate_left
  ·have hq1 : (s4 == t4) = false := by simp; omega
   have hq2 : (s4 != t4) = true := by simp; omega
   have HV : Hid (decide (s1 = t1 /\ s2 = t2 /\ s3 = t3 /\ s4 = t4 /\ n1 = k1 /\ n2 = k2 /\ n3 = k3 /\ n4 = k4) = false) := ak (decide_eq_false (by omega)); clear e3
   go_wp2_with fail
   go_meet
   exact ⟨by rw [HV.o]; rfl, rfl⟩
  by_cases e4 : n1 = k1
  rotate_left
  ·have hq1 : ((n1 : Int) == (k1 : Int)) = false := by simp; omega
   have hq2 : ((n1 : Int) != (k1 : Int)) = true := by simp; omega
   have HV : Hid (decide (s1 = t1 /\ s2 = t2 /\ s3 = t3 /\ s4 = t4 /\ n1 = k1 /\ n2 = k2 /\ n3 = k3 /\ n4 = k4) = false) := ak (decide_eq_false (by omega)); clear e4
   go_wp2_with fail
   go_meet
   exact ⟨by rw [HV.o]; rfl, rfl⟩
  by_cases e5 : n2 = k2
  rotate_left
  ·have hq1 : ((n2 : Int) == (k2 : Int)) = false := by simp; omega
   have hq2 : ((n2 : Int) != (k2 : Int)) = true := by simp; omega
   have HV : Hid (decide (s1 = t1 /\ s2 = t2 /\ s3 = t3 /\ s4 = t4 /\ n1 = k1 /\ n2 = k2 /\ n3 = k3 /\ n4 = k4) = false) := ak (decide_eq_false (by omega)); clear e5
   go_wp2_with fail
   go_meet
   exact ⟨by rw [HV.o]; rfl, rfl⟩
  by_cases e6 : n3 = k3
  rotate_left
  ·have hq1 : ((n3 : Int) == (k3 : Int)) = false := by simp; omega
   have hq2 : ((n3 : Int) != (k3 : Int)) = true := by simp; omega
   have HV : Hid (decide (s1 = t1 /\ s2 = t2 /\ s3 = t3 /\ s4 = t4 /\ n1 = k1 /\ n2 = k2 /\ n3 = k3 /\ n4 = k4) = false) := ak (decide_eq_false (by omega)); clear e6
   go_wp2_with fail
   go_meet
   exact ⟨by rw [HV.o]; rfl, rfl⟩
  by_cases e7 : n4 = k4
  rotate_left
  ·have hq1 : ((n4 : Int) == (k4 : Int)) = false := by simp; omega
   have hq2 : ((n4 : Int) != (k4 : Int)) = true := by simp; omega
   have HV : Hid (decide (s1 = t1 /\ s2 = t2 /\ s3 = t3 /\ s4 = t4 /\ n1 = k1 /\ n2 = k2 /\ n3 = k3 /\ n4 = k4) = false) := ak (decide_eq_false (by omega)); clear e7
   go_wp2_with fail
   go_meet
   exact ⟨by rw [HV.o]; rfl, rfl⟩
  have HV : Hid (decide (s1 = t1 /\ s2 = t2 /\ s3 = t3 /\ s4 = t4 /\ n1 = k1 /\ n2 = k2 /\ n3 = k3 /\ n4 = k4) = true) := ak (decide_eq_true ⟨e0, e1, e2, e3, e4, e5, e6, e7⟩)
  go_wp2_with fail
  go_meet
  exact ⟨by rw [HV.o]; rfl, rfl⟩
 case rest =>
  obtain ⟨rfl, rfl⟩ := hcut
  by_cases hall : s1 = t1 /\ s2 = t2 /\ s3 = t3 /\ s4 = t4 /\ n1 = k1 /\ n2 = k2 /\ n3 = k3 /\ n4 = k4
  ·rw [decide_eq_true hall]
   have HE := ak hall; clear hall
   go_wp2_with fail
   have UR := uh.o; have Xh := HE.o; exact ju.o _ _ (WL lZ.o HH.o mX.o ⟨by simp only; omega, by simp only; omega, by simp only; omega, by simp only; omega⟩ (by
    simp only [St.mk.injEq]; exact ⟨fun e => e.2.2.2.2, fun e => ⟨Xh.1, Xh.2.1, Xh.2.2.1, Xh.2.2.2.1, e⟩⟩) (by kernel_rfl))
  rw [decide_eq_false hall]
  have jQ : Hid (¬ (⟨s1, s2, s3, s4, l1, l2, l3, l4⟩ : St) = ⟨t1, t2, t3, t4, m1, m2, m3, m4⟩) := ak (fun e => by
   simp only [St.mk.injEq] at e; obtain ⟨f1, f2, f3, f4, f5, f6, f7, f8⟩ := e; have UR := uh.o; subst f5 f6 f7 f8
   omega)
  clear hall
  go_wp2_with fail
  go_returns
  exact ⟨gu (by simp [jQ.o]), lZ.o.trans (mX.o.mono lZ.o.size)⟩
set_option maxHeartbeats 4000000 in
theorem kO (s t : St) (y z : Sy) (w : World) (ha : cL w s y) (hb : cL w t z) (hs : Small s) :
  Calls Tryz.prog 8 #[s.val y, t.val z] w fun e w' => jX (s = t) e /\ Below w.heap.size w w' := by
 obtain ⟨w1, hw1⟩ := aj (w.alloc (.cells #[iv s.node, iv s.nodes, iv s.cells, iv s.epoch, .slice y.P s.places.length y.p, .slice y.Q s.ay.length y.q, .slice y.D s.dec.length y.d, .slice y.C s.com.length y.c] 41)); obtain ⟨w2, hw2⟩ := aj (w1.alloc (.cells #[iv t.node, iv t.nodes, iv t.cells, iv t.epoch, .slice z.P t.places.length z.p, .slice z.Q t.ay.length z.q, .slice z.D t.dec.length z.d, .slice z.C t.com.length z.c] 41)); have hb1 : Below w.heap.size w w1 := by rw [hw1]; exact av _ _
 have hb2 : Below w1.heap.size w1 w2 := by rw [hw2]; exact av _ _
 have hz1 : w1.heap.size = w.heap.size + 1 := by rw [hw1, World.size_alloc]
 have Y6 : Hid (Below w.heap.size w w2) := ak (hb1.trans (hb2.mono hb1.size)); have dU : Hid (Sm w2 w.heap.size (w.heap.size + 1) s t y z) := ak ⟨by
  have q := aB w 41 (s.vals y) (s.va y) rfl; rw [<- hw1] at q; exact q.later hb2, by
  have q := aB w1 41 (t.vals z) (t.va z) rfl; rw [<- hw2, hz1] at q; exact q, ha.later Y6.o, hb.later Y6.o, hs⟩
 clear ha hb hs hb1 hb2; unfold St.val
 go_enter Tryz.func8, Tryz.ntmps8
 apply wp_seq_k
 intro K hK; have ju := ak hK; clear hK
 go_wp2_with fail
 rw [<- hw1]; rw [<- hw2]
 try rw [hz1]
 exact ju.o _ _ (WM Y6.o dU.o (Below.refl _ _) (by kernel_rfl))
