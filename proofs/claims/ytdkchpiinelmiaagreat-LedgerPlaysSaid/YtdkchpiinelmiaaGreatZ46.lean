/- Part 46 of the proof. Conditions: none. -/
import Derived.Test.YtdkchpiinelmiaaGreatZ45
namespace Go.Proofs.YtdkchpiinelmiaaGreat.Led
set_option maxRecDepth 100000
open Go.RowKit Go.Deep Mem fN Rec
def xq (p : List Nat) (B0 : Nat) (w0 : World) (g2 g6 : Nat) (s : St) (y : Sy) (r : Rc) (z : Lay) : Prop :=
 ∀ (wr : World), On B0 w0 g2 g6 s y r z wr -> ∀ (Q : Exit -> Act -> World -> Prop), (∀ a w, bodyPost Tryz.prog Tryz.f11 (fun e w' => jo B0 g2 s r e w' /\ Below w0.heap.size w0 w') .ret a w -> Q .ret a w) -> ∀ (cc : Code), cc = sub p ((Tryz.f11.body).getD .skip) -> ∀ (s0 s1 s5 s9 Dz Dy s12 Dx Dw Du Dt Ds Dr Dq Dp Dn Dm Dl Dk Dj Di Dh Dg Df Dd Dc Db Da C_ C9 C8 C7 C6 C5 C4 C2 C0 CZ CY CX CW CV CU CT CS CQ CP CO CN CM CK CJ CH CG CF CD CB CA Cz Cy Cx Cw Cv Cu Ct Cr Cq Cn Cm Cl Ck Cj Ci Ch Cg Ce Cc Cb Ca B_ B6 BZ BX BW BU BS BR BQ BP BO BN BM BL BK qA qz qy qx qw qu qq qp qm ql qj qh qg qd p9 p8 pZ pY pX pW pV pU pT pS pR pQ pP pO pN pL pK pJ pI pH pG pF pE pD pC pB pA pz pq o_ oZ oY oX oW oV oU oQ oP oO oN oM oL oK oJ oI oH oG oF oD oC oz ou ot oq oo om oh og od oc n_ n7 nZ nY nX nW nV nU nT nS nR nO nN nM nL nK nJ nI nH nG nE nB nA ny nu nr nk nj ng m9 m7 m6 SH SG SF SE SD SC SB SA Sw Sv Ss Sr Sq Sp Sn Sk Sj Si Sh Sg Sd Sc Sb R_ R9 R8 R7 R6 R5 R4 RZ RY RX RV RU RS RR RO RM RL RJ RH RG RF RB RA Rz Ry Rx Rv Ru Rt Rs Rq Rp Ro Rn Rm Rl Rk Rj Ri Rh Rf Rb Ra Q_ Q9 Q8 Q7 Q6 Q5 Q0 QZ QY QX QW QV QU QT QS QO QN QM QL QK QJ QI QH QG QF QE QB QA Qz Qy Qx Qw Qv Qu Qt Qs Qr Qq Qp Qo Qn Qm Ql Qk Qj Qi Qh Qg Qf Qe Qd Qc Qb Qa P_ P9 P8 P7 P6 P5 P4 PZ PY PX PW PV PU PS PO PN PK PJ PI PG PF PB PA Pz Py Px Pw Pv Pt Pq Pp Po Pm Pk Pj Ph Pg Pf Pe Pd Pc Pb O_ O9 O8 O7 O6 O5 O4 OZ OY OX OW OV OU OT OQ OP OO OM OL OJ OI OH OG OE OD OC OB OA Oz Oy Ox Ow Ov Ou Ot Oq Oo Om Ol Oj Oi Oh Og Oe Od Oc Ob Oa N_ N9 N8 N7 N6 N5 N4 N3 N2 N0 NZ NY NW NV NU NT NS NR NQ NP NM NK NJ NI NH NG ND NC NA Nz Ny Nw Nv Nu Nt Ns Nr Nq Np Nn Nl Nk Nj Ni Nh Ng Nf Nc Nb Na M_ M9 M8 M7 M6 M5 M4 M0 MZ MX MW MV MU MS MR MQ MP MO MN ML MK MJ MI MH MG MF ME MD MC MB MA Mz Mx Mw Mv Mu Mt Ms Mr Mq Mp Mn Ml Mk Mj Mi Mh Mg Mf Me Md Mc Mb Ma L_ L9 L8 L6 L5 L4 L3 L1 LZ LY LX LW LV LU LS LR LQ LP LO LN LM LL LK LJ LI LH LG LD LC LB LA Lx : Value),
  cc.wp Tryz.prog Q { tmps := List.toArray (s0::s1::(au g2)::(au (g2 + 1))::(au (g2 + 2))::s5::(au g6)::.bool (known s r.tid)::.bool (bp s r.cell)::s9::Dz::Dy::s12::Dx::Dw::Du::Dt::Ds::Dr::Dq::Dp::Dn::Dm::Dl::Dk::Dj::Di::Dh::Dg::Df::Dd::Dc::Db::Da::C_::C9::C8::C7::C6::C5::C4::C2::C0::CZ::CY::CX::CW::CV::CU::CT::CS::CQ::CP::CO::CN::CM::CK::CJ::CH::CG::CF::CD::CB::CA::Cz::Cy::Cx::Cw::Cv::Cu::Ct::Cr::Cq::Cn::Cm::Cl::Ck::Cj::Ci::Ch::Cg::Ce::Cc::Cb::Ca::B_::B6::BZ::BX::BW::BU::BS::BR::BQ::BP::BO::BN::BM::BL::BK::qA::qz::qy::qx::qw::qu::qq::qp::qm::ql::qj::qh::qg::qd::p9::p8::pZ::pY::pX::pW::pV::pU::pT::pS::pR::pQ::pP::pO::pN::pL::pK::pJ::pI::pH::pG::pF::pE::pD::pC::pB::pA::pz::pq::o_::oZ::oY::oX::oW::oV::oU::oQ::oP::oO::oN::oM::oL::oK::oJ::oI::oH::oG::oF::oD::oC::oz::ou::ot::oq::oo::om::oh::og::od::oc::n_::n7::nZ::nY::nX::nW::nV::nU::nT::nS::nR::nO::nN::nM::nL::nK::nJ::nI::nH::nG::nE::nB::nA::ny::nu::nr::nk::nj::ng::m9::m7::m6::SH::SG::SF::SE::SD::SC::SB::SA::Sw::Sv::Ss::Sr::Sq::Sp::Sn::Sk::Sj::Si::Sh::Sg::Sd::Sc::Sb::R_::R9::R8::R7::R6::R5::R4::RZ::RY::RX::RV::RU::RS::RR::RO::RM::RL::RJ::RH::RG::RF::RB::RA::Rz::Ry::Rx::Rv::Ru::Rt::Rs::Rq::Rp::Ro::Rn::Rm::Rl::Rk::Rj::Ri::Rh::Rf::Rb::Ra::Q_::Q9::Q8::Q7::Q6::Q5::Q0::QZ::QY::QX::QW::QV::QU::QT::QS::QO::QN::QM::QL::QK::QJ::QI::QH::QG::QF::QE::QB::QA::Qz::Qy::Qx::Qw::Qv::Qu::Qt::Qs::Qr::Qq::Qp::Qo::Qn::Qm::Ql::Qk::Qj::Qi::Qh::Qg::Qf::Qe::Qd::Qc::Qb::Qa::P_::P9::P8::P7::P6::P5::P4::PZ::PY::PX::PW::PV::PU::PS::PO::PN::PK::PJ::PI::PG::PF::PB::PA::Pz::Py::Px::Pw::Pv::Pt::Pq::Pp::Po::Pm::Pk::Pj::Ph::Pg::Pf::Pe::Pd::Pc::Pb::O_::O9::O8::O7::O6::O5::O4::OZ::OY::OX::OW::OV::OU::OT::OQ::OP::OO::OM::OL::OJ::OI::OH::OG::OE::OD::OC::OB::OA::Oz::Oy::Ox::Ow::Ov::Ou::Ot::Oq::Oo::Om::Ol::Oj::Oi::Oh::Og::Oe::Od::Oc::Ob::Oa::N_::N9::N8::N7::N6::N5::N4::N3::N2::N0::NZ::NY::NW::NV::NU::NT::NS::NR::NQ::NP::NM::NK::NJ::NI::NH::NG::ND::NC::NA::Nz::Ny::Nw::Nv::Nu::Nt::Ns::Nr::Nq::Np::Nn::Nl::Nk::Nj::Ni::Nh::Ng::Nf::Nc::Nb::Na::M_::M9::M8::M7::M6::M5::M4::M0::MZ::MX::MW::MV::MU::MS::MR::MQ::MP::MO::MN::ML::MK::MJ::MI::MH::MG::MF::ME::MD::MC::MB::MA::Mz::Mx::Mw::Mv::Mu::Mt::Ms::Mr::Mq::Mp::Mn::Ml::Mk::Mj::Mi::Mh::Mg::Mf::Me::Md::Mc::Mb::Ma::L_::L9::L8::L6::L5::L4::L3::L1::LZ::LY::LX::LW::LV::LU::LS::LR::LQ::LP::LO::LN::LM::LL::LK::LJ::LI::LH::LG::LD::LC::LB::LA::Lx::[]), defers := [] } wr
theorem EH {l : List It} : ∀ {a : Int}, bW a l = true -> (l = [] \/ (l.length : Int) + a <= 15) /\ ∀ x ∈ l, 0 <= x.cell := by
 induction l with
 | nil => intro _ _; exact ⟨Or.inl rfl, fun x hx => by cases hx⟩
 | cons x l ih =>
  intro a h; unfold bW fD at h; simp only [Bool.and_eq_true, decide_eq_true_eq] at h; obtain ⟨h1, h2⟩ := ih h.2; refine ⟨Or.inr ?_, fun q hq => ?_⟩
  ·rw [List.length_cons]
   rcases h1 with e | e
   ·rw [e]; simp only [List.length_nil]; omega
   omega
  rcases List.mem_cons.1 hq with rfl | hq
  ·exact h.1.2.1
  exact h2 q hq
theorem xP {r : Rc} (h : right r = true) (hk : r.kind = 4) : r.items.length <= 16 /\ ∀ x ∈ r.items, 0 <= x.cell := by
 have h1 := kE h hk; unfold aY at h1; simp only [Bool.and_eq_true] at h1; obtain ⟨h2, h3⟩ := EH h1.1; refine ⟨?_, h3⟩; rcases h2 with e | e
 ·rw [e]; simp
 omega
theorem Fk (s : St) {l : List It} {k : Nat} (h : k < l.length) : jB s (l.take (k + 1)) = (jB s (l.take k) && bp s l[k].cell) := by
 unfold jB; rw [List.take_succ_eq_append_getElem h, List.all_append]
 simp
theorem IW (s : St) {l : List It} {k : Nat} (h : k < l.length) (hc : bp s l[k].cell = false) : jB s l = false := by
 unfold jB; rw [List.all_eq_false]; exact ⟨l[k], List.getElem_mem h, by rw [hc]; decide⟩
theorem yO (s : St) {l : List Int} {k : Nat} (h : k < l.length) : cX s (l.take (k + 1)) = (cX s (l.take k) || decide (l[k] = s.node)) := by
 unfold cX; rw [List.take_succ_eq_append_getElem h, List.any_append]
 simp
set_option maxHeartbeats 4000000 in
theorem T8 {B0 : Nat} {w0 : World} {g2 g6 : Nat} {s : St} {y : Sy} {r : Rc} {z : Lay} (hk : r.kind = 4) (hkn : known s r.tid = false) (hn : jB s r.items = true -> xq [1, 1, 1, 1, 1, 1, 1, 1, 1, 0, 1, 0, 1, 1] B0 w0 g2 g6 s y r z) : xq [1, 1, 1, 1, 1, 1, 1, 1, 1, 0, 1, 0, 1] B0 w0 g2 g6 s y r z := by
 intro wr h Q hQ cc hc; iterate 546 intro _
 conv at hc => rhs; whnf
 subst hc; have HQ := ak hQ; have aN := ak h
 apply wp_seq_k
 intro K hK; have ju := ak hK; clear hK; clear h hQ; obtain ⟨wa, cM⟩ := aj wr; subst cM; have HF : Hid (aC s r = bq s r) := ak (by rw [bN aN.o.rt]; unfold aV; rw [hk]; rfl); have iu := ak hn; have qX := ak hkn; obtain ⟨SK, hi0⟩ := xP aN.o.rt hk; have HI0 := ak hi0; obtain ⟨n, hn⟩ := ah r.items.length; have HN := ak hn; rw [hn] at SK; clear hn hkn hk hi0
 go_wp2_with fail
 go_loopw [9] (fun v wq => ∃ k : Nat, v = iv (k : Int) /\ k <= n /\ Hid (jB s (r.items.take k) = true) /\ Hid (Below wa.heap.size wa wq)) (fun v _ => n - (intOf v).toNat)
 case atStart => exact ⟨0, rfl, Nat.zero_le _, ak (by unfold jB; simp), ak (Below.refl _ _)⟩
 case round =>
  obtain ⟨k, rfl, hkn, Jp, mV⟩ := hrel; have jP := ak (aN.o.later mV.o); have q4 := jP.o.dF.cell (j := 4) rfl; rw [HN.o] at q4
  by_cases hlt : k < n
  ·have hkl : k < r.items.length := by rw [HN.o]; exact hlt
   obtain ⟨nb, off, hA, hit⟩ := jP.o.fr.two.1 k hkl; rw [hA] at q4; obtain ⟨x, hx⟩ := ah (r.items[k]); have Yw : Hid (0 <= x.cell) := ak (by rw [<- hx]; exact HI0.o _ (List.getElem_mem hkl)); have qW : Hid (jB s (r.items.take (k + 1)) = (jB s (r.items.take k) && bp s x.cell)) := ak (by rw [Fk s hkl, hx]); have HNT : Hid (bp s x.cell = false -> jB s r.items = false) := ak fun e => IW s hkl (by rw [hx]; exact e)
   rw [hx] at hit; have x0 := hit.cell; obtain ⟨np, hnp⟩ := ah s.places.length; have XD := ak hnp; have c4 := jP.o.fi.own.br.cell (j := 4) rfl; rw [hnp] at c4; have z1 : (0 : Int) <= (k : Int) := by omega
   have z2 : (k : Int) < (n : Int) := by omega
   clear hkl hA hx hit hnp
   by_cases hge : (np : Int) <= x.cell
   ·have fJ : Hid ((aC s r).2 = 1) := ak (by
     rw [HF.o]; unfold bq; rw [if_neg (by rw [qX.o]; decide), if_pos (HNT.o (by unfold bp; rw [XD.o, decide_eq_false (show ¬ x.cell < (np : Int) by omega), Bool.and_false]))])
    go_upto_region 28 with (fail)
    go_quiet (fail)
    have zS := ak (jP.o.later ⟨rfl, rfl, rfl, Nat.le_refl _, fun _ _ => rfl⟩ : On B0 w0 g2 g6 s y r z (wr.drewN nq))
    go_upto_region 29 with (fail)
    apply wp_region_lit
    refine Go.Great.wpList_runTo rfl (some 141) rfl (.agg ZA) (wr.drewN nq) (by go_simp) ?_; refine aA rfl 41 _ _ rfl (g2 + 2) ZA ZL rfl rfl rfl (zS.o.fi).res rfl (by kernel_rfl) (by simp [Value.oneCell']) fun w5 hpt hov => ?_
    have bU := ak hpt; have cj := ak hov; clear hpt hov
    go_wp2_with fail
    refine HQ.o _ _ ?_; refine bodyPost_ret (v := .tuple #[.agg ZA, iv 1]) ((aI (p := 4) (q := 5) (ty := 41) (by rfl) _ bU.o _ (by rfl) Tryz.underlying41 rfl (by kernel_rfl)).trans (by rfl)) rfl ?_; exact bC (zS.o.fi) cj.o (fJ.o) (by decide)
   have HHS : Hid (bp s x.cell = true) := ak (by unfold bp; rw [XD.o, decide_eq_true Yw.o, decide_eq_true (show x.cell < (np : Int) by omega)]; rfl)
   go_upto_region 28 with (fail)
   go_quiet (fail)
   go_wp2_with fail
   go_roundw
   case rel => exact ⟨k + 1, by go_num, by omega, ak (by rw [qW.o, Jp.o, HHS.o]; rfl), ak (mV.o.trans ⟨rfl, rfl, rfl, Nat.le_refl _, fun _ _ => rfl⟩)⟩
   case measure => simp [intOf]; omega
  obtain rfl : k = n := by omega
  have aaE : Hid (jB s r.items = true) := ak (by rw [<- Jp.o, List.take_of_length_le (by rw [HN.o]; exact Nat.le_refl _)]); have fL := ak (iu.o aaE.o); clear hlt
  go_wp2_with fail
  exact ju.o _ _ (by apply fL.o _ jP.o _ HQ.o _ (by kernel_rfl))
set_option maxHeartbeats 4000000 in
theorem T7 {B0 : Nat} {w0 : World} {g2 g6 : Nat} {s : St} {y : Sy} {r : Rc} {z : Lay} (hk : r.kind = 4) (hkn : known s r.tid = false) (hal : jB s r.items = true) (hn : above s [r.tid.node] = false -> above s r.nodes = false -> cX s r.nodes = true -> xq [1, 1, 1, 1, 1, 1, 1, 1, 1, 0, 1, 0, 1, 1, 1, 1, 1, 1] B0 w0 g2 g6 s y r z) : xq [1, 1, 1, 1, 1, 1, 1, 1, 1, 0, 1, 0, 1, 1] B0 w0 g2 g6 s y r z := by
 intro wr h Q hQ cc hc; iterate 546 intro _
 conv at hc => rhs; whnf
 subst hc; have HQ := ak hQ; have aN := ak h
 apply wp_seq_k
 intro K hK; have ju := ak hK; clear hK; clear h hQ; obtain ⟨wa, cM⟩ := aj wr; subst cM; have HF : Hid (aC s r = bq s r) := ak (by rw [bN aN.o.rt]; unfold aV; rw [hk]; rfl); have iu := ak hn; have qX := ak hkn; have Jp := ak hal; have Gz : Hid (r.nodes.length <= 16) := ak (xL aN.o.rt (by rw [hk]; decide)); obtain ⟨n, hn⟩ := ah r.nodes.length; have HN := ak hn; have Gk : n <= 16 := by rw [<- hn]; exact Gz.o
 have q1 := aN.o.dF.cell (j := 1) rfl; have m1 := aN.o.fi.own.br.cell (j := 1) rfl; obtain ⟨d, hd⟩ := ah (above s [r.tid.node]); have rK := ak hd; have HDE : Hid (d = decide (s.nodes < r.tid.node)) := ak (by rw [<- hd]; unfold above; simp); clear hn hkn hk hal hd
 go_wp2_with fail
 refine ju.o _ _ ?_
 apply wp_seq_k
 intro K1 U1; have zF := ak U1; clear U1
 go_upto_region 31 with (fail)
 go_cut [11] from 142 to 147 (fun v wx => v = .bool d /\ wx = wa)
 case first =>
  by_cases hne : s.nodes < r.tid.node
  ·obtain rfl : d = true := by rw [HDE.o]; exact decide_eq_true hne
   go_wp2_with fail
   go_meet
   exact ⟨by first | rfl | simp [hne], rfl⟩
  obtain rfl : d = false := by rw [HDE.o]; exact decide_eq_false hne
  go_wp2_with fail
  go_meet
  exact ⟨by first | rfl | simp [hne], rfl⟩
 obtain ⟨rfl, rfl⟩ := hcut; clear q1 m1; refine zF.o _ _ ?_
 apply wp_seq_k
 intro K2 hK2; have I6 := ak hK2; clear hK2
 go_wp2_with fail
 go_loopw [10, 11, 12] (fun p v i wq => ∃ k : Nat, i = iv (k : Int) /\ k <= n /\ p = .bool (cX s (r.nodes.take k)) /\ v = .bool (d || above s (r.nodes.take k)) /\ Hid (Below wc.heap.size wc wq)) (fun _ _ i _ => n - (intOf i).toNat)
 case atStart => exact ⟨0, rfl, Nat.zero_le _, by simp [cX], by simp [above], ak (Below.refl _ _)⟩
 case round =>
  obtain ⟨k, rfl, hkn, rfl, rfl, mV⟩ := hrel; have jP := ak (aN.o.later mV.o); have q5 := jP.o.dF.cell (j := 5) rfl; rw [HN.o] at q5
  by_cases hlt : k < n
  ·have hkl : k < r.nodes.length := by rw [HN.o]; exact hlt
   obtain ⟨nb, off, hA, x0⟩ := jP.o.fr.two.2.1 k hkl; rw [hA] at q5; obtain ⟨x, hx⟩ := ah (r.nodes[k]); rw [hx] at x0; have hpt := yO s hkl; have hat := tK s hkl; rw [hx] at hpt hat; obtain ⟨UG, hp1⟩ := ah (cX s (r.nodes.take k)); obtain ⟨bv, wQ⟩ := ah (d || above s (r.nodes.take k)); have bU : Hid (cX s (r.nodes.take (k + 1)) = (UG || decide (x = s.node))) := ak (by rw [hpt, hp1]); have lD : Hid ((d || above s (r.nodes.take (k + 1))) = (bv || decide (s.nodes < x))) := ak (by rw [hat, <- wQ, Bool.or_assoc]); rw [hp1, wQ]; obtain ⟨pn, mR⟩ := ah (cX s (r.nodes.take (k + 1))); have Uy := ak mR; rw [mR] at bU; have m0 := jP.o.fi.own.br.cell (j := 0) rfl; have z1 : (0 : Int) <= (k : Int) := by omega
   have z2 : (k : Int) < (n : Int) := by omega
   have HX0 := ak x0; have XA := ak q5; clear hkl hA hx hpt hat hp1 wQ mR
   go_upto_region 35 with (fail)
   go_cut [10] from 155 to 165 (fun v wx => v = .bool pn /\ Hid (Below wr.heap.size wr wx))
   case first =>
    cases UG with
    | true =>
     obtain rfl : pn = true := by rw [bU.o]; rfl
     go_quiet (fail)
     go_wp2_with fail
     go_meet
     exact ⟨rfl, ak ⟨rfl, rfl, rfl, Nat.le_refl _, fun _ _ => rfl⟩⟩
    | false =>
     by_cases Xa : x = s.node
     ·obtain rfl : pn = true := by rw [bU.o, decide_eq_true Xa]; rfl
      go_quiet (fail)
      go_wp2_with fail
      go_meet
      exact ⟨by first | rfl | simp [Xa], ak ⟨rfl, rfl, rfl, Nat.le_refl _, fun _ _ => rfl⟩⟩
     obtain rfl : pn = false := by rw [bU.o, decide_eq_false Xa]; rfl
     go_quiet (fail)
     go_wp2_with fail
     go_meet
     exact ⟨by first | rfl | simp [Xa], ak ⟨rfl, rfl, rfl, Nat.le_refl _, fun _ _ => rfl⟩⟩
   obtain ⟨rfl, wX⟩ := hcut; clear x0 q5 m0; obtain ⟨wx, hwx⟩ := aj wc; subst hwx; have uj := ak (mV.o.trans (wX.o.mono mV.o.size)); have zS := ak (aN.o.later uj.o); have x0 := (wX.o.cell (aH HX0.o)).trans HX0.o; have q5 := (wX.o.cell (aH XA.o)).trans XA.o; have m1 := zS.o.fi.own.br.cell (j := 1) rfl
   cases bv with
   | true =>
    go_upto_region 36 with (fail)
    go_quiet (fail)
    go_wp2_with fail
    go_roundw
    case rel => exact ⟨k + 1, by go_num, by omega, by rw [Uy.o], by rw [lD.o]; rfl, ak (uj.o.trans ⟨rfl, rfl, rfl, Nat.le_refl _, fun _ _ => rfl⟩)⟩
    case measure => simp [intOf]; omega
   | false =>
    go_upto_region 36 with (fail)
    go_quiet (fail)
    go_wp2_with fail
    go_roundw
    case rel => exact ⟨k + 1, by go_num, by omega, by rw [Uy.o], by rw [lD.o]; rfl, ak (uj.o.trans ⟨rfl, rfl, rfl, Nat.le_refl _, fun _ _ => rfl⟩)⟩
    case measure => simp [intOf]; omega
  obtain rfl : k = n := by omega
  have hall : r.nodes.take k = r.nodes := List.take_of_length_le (by rw [HN.o]; exact Nat.le_refl _); rw [hall]; clear hall; obtain ⟨bv, wQ⟩ := ah (d || above s r.nodes); obtain ⟨UG, hp1⟩ := ah (cX s r.nodes); have XI := ak wQ; have Lf := ak hp1; rw [wQ, hp1]; have HFB : Hid (bv = true \/ UG = false -> (aC s r).2 = 1) := ak fun e => by
   rw [HF.o]; unfold bq; rw [if_neg (by rw [qX.o]; decide), if_neg (by rw [Jp.o]; decide), rK.o]
   cases d with
   | true => rw [if_pos rfl]
   | false =>
    rw [if_neg (by decide)]; rw [Bool.false_or] at wQ; rw [wQ]
    cases bv with
    | true => rw [if_pos rfl]
    | false =>
     rw [if_neg (by decide), hp1, if_pos (e.resolve_left (by decide))]
  clear wQ hp1 hlt
  go_wp2_with fail
  refine I6.o _ _ ?_
  apply wp_seq_k
  intro K3 hK3; have DR := ak hK3; clear hK3; have aN := jP
  cases bv with
  | true =>
   have fJ : Hid ((aC s r).2 = 1) := ak (HFB.o (Or.inl rfl))
   go_upto_region 38 with (fail)
   apply wp_region_lit
   refine Go.Great.wpList_runTo rfl (some 182) rfl (.agg ZA) wr (by go_simp) ?_; refine aA rfl 41 _ _ rfl (g2 + 2) ZA ZL rfl rfl rfl (aN.o.fi).res rfl (by kernel_rfl) (by simp [Value.oneCell']) fun w5 hpt hov => ?_
   have bU := ak hpt; have cj := ak hov; clear hpt hov
   go_wp2_with fail
   refine HQ.o _ _ ?_; refine bodyPost_ret (v := .tuple #[.agg ZA, iv 1]) ((aI (p := 4) (q := 5) (ty := 41) (by rfl) _ bU.o _ (by rfl) Tryz.underlying41 rfl (by kernel_rfl)).trans (by rfl)) rfl ?_; exact bC (aN.o.fi) cj.o (fJ.o) (by decide)
  | false =>
   cases UG with
   | false =>
    have fJ : Hid ((aC s r).2 = 1) := ak (HFB.o (Or.inr rfl))
    go_upto_region 38 with (fail)
    apply wp_region_lit
    refine Go.Great.wpList_runTo rfl (some 182) rfl (.agg ZA) wr (by go_simp) ?_; refine aA rfl 41 _ _ rfl (g2 + 2) ZA ZL rfl rfl rfl (aN.o.fi).res rfl (by kernel_rfl) (by simp [Value.oneCell']) fun w5 hpt hov => ?_
    have bU := ak hpt; have cj := ak hov; clear hpt hov
    go_wp2_with fail
    refine HQ.o _ _ ?_; refine bodyPost_ret (v := .tuple #[.agg ZA, iv 1]) ((aI (p := 4) (q := 5) (ty := 41) (by rfl) _ bU.o _ (by rfl) Tryz.underlying41 rfl (by kernel_rfl)).trans (by rfl)) rfl ?_; exact bC (aN.o.fi) cj.o (fJ.o) (by decide)
   | true =>
    have KH : Hid (d = false /\ above s r.nodes = false) := ak (by
     have := XI.o; rw [Bool.or_eq_false_iff] at this; exact this)
    have fL := ak (iu.o (rK.o.trans KH.o.1) KH.o.2 Lf.o)
    go_wp2_with fail
    exact DR.o _ _ (by apply fL.o _ aN.o _ HQ.o _ (by kernel_rfl))
