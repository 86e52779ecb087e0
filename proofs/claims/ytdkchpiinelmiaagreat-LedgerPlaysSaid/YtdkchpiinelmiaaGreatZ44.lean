/- Part 44 of the proof. Conditions: none. -/
import Derived.Test.YtdkchpiinelmiaaGreatZ43
import Derived.Test.YtdkchpiinelmiaaGreatZ35
namespace Go.Proofs.YtdkchpiinelmiaaGreat.Led
set_option maxRecDepth 100000
open Go.RowKit Go.Deep Mem fN Rec
def ko (s : St) (r : Rc) : St × Int := if (aC s r).2 = 0 then ((aC s r).1, 0) else (vC, (aC s r).2)
structure fZ (B0 g2 : Nat) (w : World) (s : St) (z : Sy) : Prop where
 sees : ∀ w', Only (fun k => B0 <= k /\ k < g2) w w' -> cL w' s z
 pin : ∀ k (h : k < s.ay.length) (h' : k < z.ps.length), Fr (fun j => B0 <= j) w s.ay[k].items s.ay[k].nodes z.ps[k]
 cin : ∀ k (h : k < s.com.length) (h' : k < z.cs.length), Fr (fun j => B0 <= j) w s.com[k].items s.com[k].nodes z.cs[k]
theorem fZ.now {B0 g2 : Nat} {w : World} {s : St} {z : Sy} (h : fZ B0 g2 w s z) : cL w s z := h.sees _ (Only.refl _ _)
theorem fq.deep {B0 B g2 : Nat} {w : World} {s : St} {z : Sy} (h : fq (fun k => B0 <= k) B w s z) (hr : ∀ k, rowsOf z k -> g2 <= k) : fZ B0 g2 w s z :=
 ⟨fun _ ho => (h.only ho (fun _ _ e => e.1) fun k hk e => by have := hr k hk; omega).sees, fun k h1 h2 => (h.pin k h1 h2).next (Only.refl _ _) fun _ e => Or.inl (Or.inl e), fun k h1 h2 => (h.cin k h1 h2).next (Only.refl _ _) fun _ e => Or.inl (Or.inl e)⟩
theorem qR (B0 g2 : Nat) (w : World) : fZ B0 g2 w vC ⟨none, 0, none, 0, none, 0, none, 0, [], []⟩ := ⟨fun w' _ => kN w', fun k h => absurd h (by simp [vC]), fun k h => absurd h (by simp [vC])⟩
theorem fZ.dec {B0 B1 g2 : Nat} {w : World} {s : St} {y : Sy} {A : Option Addr} {c : Nat} {l : List De} (h : fZ B0 g2 w s y) (hr : w.ownsRow B1 75 4 (.slice A l.length c) l.length (l.map De.vals).flatten) (hB : g2 <= B1) : fZ B0 g2 w { s with dec := l } { y with D := A, d := c } := by
 refine ⟨fun w' ho => ?_, h.pin, h.cin⟩; have h1 := h.sees w' ho; have hr1 := aF hr ho fun i hi e => by have := (hr.lt i hi).1; omega
 have hs1 := gV (vs := l.map De.vals) (by rw [List.length_map]; exact hr1) (fG _).len; exact ⟨h1.places, h1.ay, hs1.1, h1.com, h1.ps, h1.cs, h1.pin, h1.cin, h1.JA, h1.Jz, hs1.2, h1.JC⟩
def jo (B0 g2 : Nat) (s : St) (r : Rc) (e : Ending) (w' : World) : Prop := ∃ z', e = .returned (.tuple #[(ko s r).1.val z', .int .i64 (ko s r).2]) /\ fZ B0 g2 w' (ko s r).1 z'
structure Fi (B0 : Nat) (w0 : World) (g2 g6 : Nat) (s : St) (y : Sy) (wr : World) : Prop where
 low : Below w0.heap.size w0 wr
 gt : w0.heap.size = g2 /\ g2 + 3 <= g6 /\ B0 <= g2
 res : Cells wr (g2 + 2) 41 tS
 own : fh B0 wr g6 s y
 far : ∀ k, rowsOf y k -> g2 + 3 <= k
structure On (B0 : Nat) (w0 : World) (g2 g6 : Nat) (s : St) (y : Sy) (r : Rc) (z : Lay) (wr : World) : Prop where
 fi : Fi B0 w0 g2 g6 s y wr
 dF : Cells wr (g2 + 1) 55 (r.vals z)
 there : There s y
 fr : Fr (fun k => B0 <= k) wr r.items r.nodes z
 sm : Small s
 gd : Good s
 rt : right r = true
section
variable {B0 : Nat} {w0 wr wq : World} {g2 g6 : Nat} {s s' : St} {y y' : Sy} {r : Rc} {z : Lay}
theorem Fi.later (h : Fi B0 w0 g2 g6 s y wr) (hb : Below wr.heap.size wr wq) : Fi B0 w0 g2 g6 s y wq :=
 ⟨h.low.trans (hb.mono h.low.size), h.gt, h.res.later hb, h.own.later hb, h.far⟩
theorem On.later (h : On B0 w0 g2 g6 s y r z wr) (hb : Below wr.heap.size wr wq) : On B0 w0 g2 g6 s y r z wq :=
 ⟨h.fi.later hb, h.dF.later hb, h.there, h.fr.next (Only.of_below (S := fun _ => False) hb |>.mono fun _ _ e => e.elim) fun _ e => Or.inl e, h.sm, h.gd, h.rt⟩
theorem Fi.o (h : Fi B0 w0 g2 g6 s' y' wr) (ho : Only (fun k => k = g2 + 2) wr wq) : fZ B0 g2 wq s' y' /\ Below w0.heap.size w0 wq := by
 have hg := h.gt; have h1 := h.own.lists.only ho (fun k _ e => by unfold uM; omega) (fun k hk e => by have := h.far k hk; omega)
 exact ⟨h1.deep fun k hk => by have := h.far k hk; omega, h.low.trans (ho.below h.low.size fun k e => by omega)⟩
theorem jS {e : Int} (h : Fi B0 w0 g2 g6 s' y' wr) (ho : Only (fun k => k = g2 + 2) wr wq) (hf : aC s r = (s', e)) (he : e = 0) : jo B0 g2 s r (.returned (.tuple #[s'.val y', iv 0])) wq /\ Below w0.heap.size w0 wq := by
 subst he; have e1 : ko s r = (s', 0) := by unfold ko; rw [hf]; rfl
 obtain ⟨h1, h2⟩ := h.o ho; refine ⟨⟨y', ?_, ?_⟩, h2⟩
 ·rw [e1]
 rw [e1]; exact h1
theorem bC {e : Int} (h : Fi B0 w0 g2 g6 s' y' wr) (ho : Only (fun k => k = g2 + 2) wr wq) (hf : (aC s r).2 = e) (he : e ≠ 0) : jo B0 g2 s r (.returned (.tuple #[.agg ZA, iv e])) wq /\ Below w0.heap.size w0 wq := by
 have e1 : ko s r = (vC, e) := by unfold ko; rw [hf, if_neg he]
 refine ⟨⟨⟨none, 0, none, 0, none, 0, none, 0, [], []⟩, ?_, ?_⟩, (h.o ho).2⟩
 ·rw [e1]; rfl
 rw [e1]; exact qR B0 g2 wq
end
theorem bN {s : St} {r : Rc} (h : right r = true) : aC s r = aV s r := by unfold aC; rw [h]; rfl
def je (p : List Nat) (B0 : Nat) (w0 : World) (g2 g6 : Nat) (s : St) (y : Sy) (r : Rc) (z : Lay) : Prop :=
 ∀ (wr : World), On B0 w0 g2 g6 s y r z wr -> ∀ (cc : Code), cc = sub p ((Tryz.f11.body).getD .skip) -> ∀ (s0 s1 s5 s9 Dz Dy s12 Dx Dw Du Dt Ds Dr Dq Dp Dn Dm Dl Dk Dj Di Dh Dg Df Dd Dc Db Da C_ C9 C8 C7 C6 C5 C4 C2 C0 CZ CY CX CW CV CU CT CS CQ CP CO CN CM CK CJ CH CG CF CD CB CA Cz Cy Cx Cw Cv Cu Ct Cr Cq Cn Cm Cl Ck Cj Ci Ch Cg Ce Cc Cb Ca B_ B6 BZ BX BW BU BS BR BQ BP BO BN BM BL BK qA qz qy qx qw qu qq qp qm ql qj qh qg qd p9 p8 pZ pY pX pW pV pU pT pS pR pQ pP pO pN pL pK pJ pI pH pG pF pE pD pC pB pA pz pq o_ oZ oY oX oW oV oU oQ oP oO oN oM oL oK oJ oI oH oG oF oD oC oz ou ot oq oo om oh og od oc n_ n7 nZ nY nX nW nV nU nT nS nR nO nN nM nL nK nJ nI nH nG nE nB nA ny nu nr nk nj ng m9 m7 m6 SH SG SF SE SD SC SB SA Sw Sv Ss Sr Sq Sp Sn Sk Sj Si Sh Sg Sd Sc Sb R_ R9 R8 R7 R6 R5 R4 RZ RY RX RV RU RS RR RO RM RL RJ RH RG RF RB RA Rz Ry Rx Rv Ru Rt Rs Rq Rp Ro Rn Rm Rl Rk Rj Ri Rh Rf Rb Ra Q_ Q9 Q8 Q7 Q6 Q5 Q0 QZ QY QX QW QV QU QT QS QO QN QM QL QK QJ QI QH QG QF QE QB QA Qz Qy Qx Qw Qv Qu Qt Qs Qr Qq Qp Qo Qn Qm Ql Qk Qj Qi Qh Qg Qf Qe Qd Qc Qb Qa P_ P9 P8 P7 P6 P5 P4 PZ PY PX PW PV PU PS PO PN PK PJ PI PG PF PB PA Pz Py Px Pw Pv Pt Pq Pp Po Pm Pk Pj Ph Pg Pf Pe Pd Pc Pb O_ O9 O8 O7 O6 O5 O4 OZ OY OX OW OV OU OT OQ OP OO OM OL OJ OI OH OG OE OD OC OB OA Oz Oy Ox Ow Ov Ou Ot Oq Oo Om Ol Oj Oi Oh Og Oe Od Oc Ob Oa N_ N9 N8 N7 N6 N5 N4 N3 N2 N0 NZ NY NW NV NU NT NS NR NQ NP NM NK NJ NI NH NG ND NC NA Nz Ny Nw Nv Nu Nt Ns Nr Nq Np Nn Nl Nk Nj Ni Nh Ng Nf Nc Nb Na M_ M9 M8 M7 M6 M5 M4 M0 MZ MX MW MV MU MS MR MQ MP MO MN ML MK MJ MI MH MG MF ME MD MC MB MA Mz Mx Mw Mv Mu Mt Ms Mr Mq Mp Mn Ml Mk Mj Mi Mh Mg Mf Me Md Mc Mb Ma L_ L9 L8 L6 L5 L4 L3 L1 LZ LY LX LW LV LU LS LR LQ LP LO LN LM LL LK LJ LI LH LG LD LC LB LA Lx : Value),
  cc.wp Tryz.prog (bodyPost Tryz.prog Tryz.f11 (fun e w' => jo B0 g2 s r e w' /\ Below w0.heap.size w0 w')) { tmps := List.toArray (s0::s1::(au g2)::(au (g2 + 1))::(au (g2 + 2))::s5::(au g6)::.bool (known s r.tid)::.bool (bp s r.cell)::s9::Dz::Dy::s12::Dx::Dw::Du::Dt::Ds::Dr::Dq::Dp::Dn::Dm::Dl::Dk::Dj::Di::Dh::Dg::Df::Dd::Dc::Db::Da::C_::C9::C8::C7::C6::C5::C4::C2::C0::CZ::CY::CX::CW::CV::CU::CT::CS::CQ::CP::CO::CN::CM::CK::CJ::CH::CG::CF::CD::CB::CA::Cz::Cy::Cx::Cw::Cv::Cu::Ct::Cr::Cq::Cn::Cm::Cl::Ck::Cj::Ci::Ch::Cg::Ce::Cc::Cb::Ca::B_::B6::BZ::BX::BW::BU::BS::BR::BQ::BP::BO::BN::BM::BL::BK::qA::qz::qy::qx::qw::qu::qq::qp::qm::ql::qj::qh::qg::qd::p9::p8::pZ::pY::pX::pW::pV::pU::pT::pS::pR::pQ::pP::pO::pN::pL::pK::pJ::pI::pH::pG::pF::pE::pD::pC::pB::pA::pz::pq::o_::oZ::oY::oX::oW::oV::oU::oQ::oP::oO::oN::oM::oL::oK::oJ::oI::oH::oG::oF::oD::oC::oz::ou::ot::oq::oo::om::oh::og::od::oc::n_::n7::nZ::nY::nX::nW::nV::nU::nT::nS::nR::nO::nN::nM::nL::nK::nJ::nI::nH::nG::nE::nB::nA::ny::nu::nr::nk::nj::ng::m9::m7::m6::SH::SG::SF::SE::SD::SC::SB::SA::Sw::Sv::Ss::Sr::Sq::Sp::Sn::Sk::Sj::Si::Sh::Sg::Sd::Sc::Sb::R_::R9::R8::R7::R6::R5::R4::RZ::RY::RX::RV::RU::RS::RR::RO::RM::RL::RJ::RH::RG::RF::RB::RA::Rz::Ry::Rx::Rv::Ru::Rt::Rs::Rq::Rp::Ro::Rn::Rm::Rl::Rk::Rj::Ri::Rh::Rf::Rb::Ra::Q_::Q9::Q8::Q7::Q6::Q5::Q0::QZ::QY::QX::QW::QV::QU::QT::QS::QO::QN::QM::QL::QK::QJ::QI::QH::QG::QF::QE::QB::QA::Qz::Qy::Qx::Qw::Qv::Qu::Qt::Qs::Qr::Qq::Qp::Qo::Qn::Qm::Ql::Qk::Qj::Qi::Qh::Qg::Qf::Qe::Qd::Qc::Qb::Qa::P_::P9::P8::P7::P6::P5::P4::PZ::PY::PX::PW::PV::PU::PS::PO::PN::PK::PJ::PI::PG::PF::PB::PA::Pz::Py::Px::Pw::Pv::Pt::Pq::Pp::Po::Pm::Pk::Pj::Ph::Pg::Pf::Pe::Pd::Pc::Pb::O_::O9::O8::O7::O6::O5::O4::OZ::OY::OX::OW::OV::OU::OT::OQ::OP::OO::OM::OL::OJ::OI::OH::OG::OE::OD::OC::OB::OA::Oz::Oy::Ox::Ow::Ov::Ou::Ot::Oq::Oo::Om::Ol::Oj::Oi::Oh::Og::Oe::Od::Oc::Ob::Oa::N_::N9::N8::N7::N6::N5::N4::N3::N2::N0::NZ::NY::NW::NV::NU::NT::NS::NR::NQ::NP::NM::NK::NJ::NI::NH::NG::ND::NC::NA::Nz::Ny::Nw::Nv::Nu::Nt::Ns::Nr::Nq::Np::Nn::Nl::Nk::Nj::Ni::Nh::Ng::Nf::Nc::Nb::Na::M_::M9::M8::M7::M6::M5::M4::M0::MZ::MX::MW::MV::MU::MS::MR::MQ::MP::MO::MN::ML::MK::MJ::MI::MH::MG::MF::ME::MD::MC::MB::MA::Mz::Mx::Mw::Mv::Mu::Mt::Ms::Mr::Mq::Mp::Mn::Ml::Mk::Mj::Mi::Mh::Mg::Mf::Me::Md::Mc::Mb::Ma::L_::L9::L8::L6::L5::L4::L3::L1::LZ::LY::LX::LW::LV::LU::LS::LR::LQ::LP::LO::LN::LM::LL::LK::LJ::LI::LH::LG::LD::LC::LB::LA::Lx::[]), defers := [] } wr
theorem J2 (a b c : Int) : right (Bb a b c) = decide (1 <= a /\ a <= b /\ 1 <= b /\ b <= 16 /\ 1 <= c /\ c <= 16) := by
 by_cases h : 1 <= a /\ a <= b /\ 1 <= b /\ b <= 16 /\ 1 <= c /\ c <= 16
 ·rw [Ei h, decide_eq_true h]
 rw [decide_eq_false h]
 cases hr : right (Bb a b c) with
 | false => rfl
 | true =>
  have f0 := bF hr 0 (by show (0 : Int) ∈ fl 1; decide) (by decide)
  have f1 := bF hr 1 (by show (1 : Int) ∈ fl 1; decide) (by decide)
  have f2 := bF hr 2 (by show (2 : Int) ∈ fl 1; decide) (by decide)
  simp [iP, fQ, Bb, Rc.get, Rc.jN] at f0 f1 f2
  exact absurd (by omega) h
theorem wD (node nodes : Int) {n k : Nat} (h : k < n) : (bP node nodes n n).take (k + 1) = (bP node nodes n n).take k ++ [if home (k : Int) nodes = node then ⟨1, 0, 0, 0, 0⟩ else rH] := by
 have hl : k < (bP node nodes n n).length := by rw [dI]; exact h
 rw [List.take_add_one]; have := fA node nodes n n k; rw [if_pos h] at this; rw [this]
 simp [h]
theorem BA {B k c : Nat} {A : Option Addr} {wf : World} {l : List Pl} (h : wf.ownsRow B 69 5 (.slice A k c) k (l.map Pl.vals).flatten) (hk : k = l.length) (p : Pl) (cells : Array Value) (hc : cells.toList = p.vals) (hB : B <= wf.heap.size) (hl : k <= 100) :
  ∃ A' n' c' w', (Builtin.append_ #[36, 36] 36 #[.slice A k c, .slice (some ⟨wf.heap.size, 0, none⟩) 1 1]).run Tryz.prog (wf.alloc (.cells cells 69)) = .ok (.slice A' n' c') w' /\ n' = k + 1 /\ w'.ownsRow B 69 5 (.slice A' (k + 1) c') (k + 1) ((l ++ [p]).map Pl.vals).flatten /\ Only (fun j => some j = blk A) wf w' := by
 subst hk; obtain ⟨wd, hwd⟩ := aj (wf.alloc (.cells cells 69)); have hbd : Below wf.heap.size wf wd := by rw [hwd]; exact av _ _
 have hnew : Cells wd wf.heap.size 69 p.vals := by rw [hwd]; exact aB wf 69 p.vals _ hc
 have hd := aF (S := fun _ => False) h (Only.of_below hbd) fun _ _ e => e
 have hsl : Sl wd (some ⟨wf.heap.size, 0, none⟩) 5 ([p].map Pl.vals) := cW (by simpa using hnew) fun v hv => (aU [p]).len v hv
 obtain ⟨v', w5, hrun, hrow, hg, hnb⟩ := aZ (fM 0) wd 36 B (.slice A l.length c) (l.map Pl.vals) ([p].map Pl.vals) (some ⟨wf.heap.size, 0, none⟩) 1 (aU _) (aU [p])
  (by rw [List.length_map]; exact hd) hsl (fun e => by cases e) (by simp; omega) (by have := hbd.size; omega)
 rw [<- List.map_append, List.length_map] at hrow; obtain ⟨V', vc', e⟩ := bD hrow; have r7 : (l ++ [p]).length = l.length + 1 := by simp
 rw [r7] at hrow e; subst e; rw [<- hwd]; have ho := Only.fP hg; rw [aK] at ho; exact ⟨V', _, vc', w5, hrun, rfl, hrow, (Only.of_below hbd).trans ho fun _ _ e => e⟩
set_option maxHeartbeats 2000000 in
theorem Ba (B0 : Nat) (node nodes cells : Int) (w : World) (wR : B0 <= w.heap.size) :
  Calls Tryz.prog 7 #[iv node, iv nodes, iv cells] w fun e w' => (∃ y', e = .returned (.tuple #[(cD node nodes cells).1.val y', .bool (decide ((cD node nodes cells).2 = 0))]) /\ fZ B0 w.heap.size w' (cD node nodes cells).1 y') /\ Below w.heap.size w w' := by
 have mX := ak wR; clear wR; obtain ⟨wb, hwb⟩ := aj (w.alloc (.cells #[iv 0, iv 0, iv 0, iv 0, .slice none 0 0, .slice none 0 0, .slice none 0 0, .slice none 0 0] 41)); have hb : Below w.heap.size w wb := by rw [hwb]; exact av _ _
 have hc : Cells wb w.heap.size 41 tS := by rw [hwb]; exact aB w 41 _ _ rfl
 have hsb : wb.heap.size = w.heap.size + 1 := by rw [hwb]; exact World.size_alloc _ _
 have HC := ak hc; have HB := ak hb; have HSB := ak hsb; have hif := J2 node nodes cells
 by_cases hok : 1 <= node /\ node <= nodes /\ 1 <= nodes /\ nodes <= 16 /\ 1 <= cells /\ cells <= 16
 ·rw [decide_eq_true hok] at hif
  have HL : Hid (cD node nodes cells = (eA node nodes cells.toNat, 0)) := ak (by unfold cD; rw [if_neg (by rw [hif]; decide)]); obtain ⟨h1, h2, h3, h4, h5, h6⟩ := hok; obtain ⟨n, hn⟩ : ∃ n : Nat, cells = (n : Int) := ⟨cells.toNat, by omega⟩; subst hn; have Gk : n <= 16 := by omega
  have d1 : ¬ nodes < 1 := by omega
  have d2 : ¬ nodes > 16 := by omega
  have d3 : ¬ node < 1 := by omega
  have d4 : ¬ node > nodes := by omega
  have d5 : ¬ (n : Int) < 1 := by omega
  have d6 : ¬ (n : Int) > 16 := by omega
  obtain ⟨wc, hwc⟩ := aj (wb.alloc (.cells #[iv node, iv nodes, iv (n : Int), iv 0, .slice none 0 0, .slice none 0 0, .slice none 0 0, .slice none 0 0] 41)); have hbc : Below wb.heap.size wb wc := by rw [hwc]; exact av _ _
  have hcc : Cells wc wb.heap.size 41 [iv node, iv nodes, iv (n : Int), iv 0, .slice none 0 0, .slice none 0 0, .slice none 0 0, .slice none 0 0] := by rw [hwc]; exact aB wb 41 _ _ rfl
  have hsc : wc.heap.size = w.heap.size + 2 := by rw [hwc, World.size_alloc, hsb]
  have wX := ak (hb.trans (hbc.mono hb.size)); have zw := ak hcc; have sF := ak (hc.later hbc); have YC := ak hsc; clear hb hc hbc hcc hif; obtain ⟨g1, hg1⟩ := ah w.heap.size; have I7 := ak hg1; rw [hsb, hg1] at zw; rw [hg1] at sF YC hsb
  go_enter Tryz.func7, Tryz.ntmps7
  go_upto_region 4 with (fail)
  rw [<- hwb, <- hwc]; clear hwb hwc hsc h1 h2 h3 h5 h6 hsb hg1 d1 d2 d3 d4
  go_wp2_with fail
  go_loopw [9] (fun i wq => ∃ (k : Nat) (A : Option Addr) (c : Nat), i = iv (k : Int) /\ k <= n /\ Hid (Cells wq (g1 + 1) 41 [iv node, iv nodes, iv (n : Int), iv 0, .slice A k c, .slice none 0 0, .slice none 0 0, .slice none 0 0]) /\ Hid (wq.ownsRow (g1 + 2) 69 5 (.slice A k c) k (((bP node nodes n n).take k).map Pl.vals).flatten) /\ Hid (Cells wq g1 41 tS) /\ Hid (Below w.heap.size w wq)) (fun i _ => n - (intOf i).toNat)
  case atStart => exact ⟨0, none, 0, rfl, Nat.zero_le _, zw, ak (by simpa using World.ownsRow_nil _ _ _ _), sF, wX⟩
  case round =>
   obtain ⟨k, A, c, rfl, hkn, HST, dW, dP, mV⟩ := hrel; have Ea : Hid (g1 + 2 <= wr.heap.size) := ak (by have := HST.o.lt; omega)
   by_cases hlt : k < n
   ·have wV : Hid (k = ((bP node nodes n n).take k).length) := ak (by rw [List.length_take, dI]; omega)
    obtain ⟨hm, KY⟩ := ah (home (k : Int) nodes); have Gu := wD node nodes hlt; rw [KY] at Gu; obtain ⟨we, jf⟩ := aj (wr.alloc (.cells #[iv 0, iv 0, iv 0, iv 0, iv 0] 69)); have tV : Below wr.heap.size wr we := by rw [jf]; exact av _ _
    have kL : Hid (Cells we wr.heap.size 69 [iv 0, iv 0, iv 0, iv 0, iv 0]) := ak (by rw [jf]; exact aB wr 69 _ _ rfl); have Gf := ak tV; have Vq := vw (k : Int) nodes we (by omega) (by omega); rw [KY] at Vq; have Vq := ak Vq; clear KY tV
    go_upto_region 8 with (fail)
    rw [<- jf]; clear jf; obtain ⟨gb, hgb⟩ := ah wr.heap.size
    try rw [hgb]
    rw [hgb] at kL Ea; have HGB := ak hgb
    go_wp2_with fail
    refine Vq.o.mono ?_; rintro e wx ⟨rfl, rfl⟩; have JH := ak (HST.o.later Gf.o); have JI := ak (dP.o.later Gf.o); have Bt := ak (aF (S := fun _ => False) dW.o (Only.of_below Gf.o) fun _ _ e => e); have GC := ak (mV.o.trans (Gf.o.mono mV.o.size)); have aaq : Hid (∀ j, (Value.slice A k c).ownBlock = some j -> j < gb) := ak fun j e => by rw [<- HGB.o]; exact (dW.o.lt j e).2
    clear hgb Vq HST dW dP mV
    by_cases Uj : hm = node
    ·have qW : Hid ((bP node nodes n n).take (k + 1) = (bP node nodes n n).take k ++ [⟨1, 0, 0, 0, 0⟩]) := ak (by rw [Gu, if_pos Uj])
     have p0 := kL.o.cell (j := 0) rfl; have f0 := kL.o.frozen (j := 0) (by simp); obtain ⟨wf, hwf⟩ := aj (we.setCell ⟨gb, 0, none⟩ (iv 1)); have hsf : Only (fun j => j = gb) we wf := by rw [hwf]; exact Only.b_ we ⟨gb, 0, none⟩ _
     have DN : Hid (Cells wf gb 69 [iv 1, iv 0, iv 0, iv 0, iv 0]) := ak (by rw [hwf]; exact kL.o.fB 0 _); have Gv := ak (aJ JH.o hsf (by have := Ea.o; omega))
     have Tg := ak (aJ JI.o hsf (by have := Ea.o; omega))
     have mh := ak (aF Bt.o hsf fun j e e2 => by have h1 := aaq.o j e; have e3 : j = gb := e2; omega)
     have jM := ak (GC.o.trans (hsf.below GC.o.size fun j e => by have := Ea.o; have := I7.o; omega))
     clear hsf JH JI Bt GC Gu
     go_upto_region 10 with (fail)
     rw [<- hwf]; clear hwf p0 f0; have c4 := Gv.o.cell (j := 4) rfl; have p0 := DN.o.cell (j := 0) rfl; have p1 := DN.o.cell (j := 1) rfl; have p2 := DN.o.cell (j := 2) rfl; have p3 := DN.o.cell (j := 3) rfl; have p4 := DN.o.cell (j := 4) rfl; obtain ⟨A9, n9, c9, w9, hrun, tZ, sI, FN⟩ := BA (mh.o) wV.o (⟨1, 0, 0, 0, 0⟩) #[iv 1, iv 0, iv 0, iv 0, iv 0] rfl (by have := DN.o.lt; have := Ea.o; omega) (by omega)
     subst tZ; have cV := aJ Gv.o FN (fun e => by have h1 := (mh.o.lt (g1 + 1) (by rw [aK]; exact e.symm)).1; omega)
     have hres := aJ Tg.o FN (fun e => by have h1 := (mh.o.lt g1 (by rw [aK]; exact e.symm)).1; omega)
     have d4 := cV.cell (j := 4) rfl; have f4 := cV.frozen (j := 4) (by simp); have eZ := Only.b_ w9 ⟨g1 + 1, 4, none⟩ (.slice A9 (k + 1) c9); have dQ := ak hrun; have GN : Hid (Cells (w9.setCell ⟨g1 + 1, 4, none⟩ (.slice A9 (k + 1) c9)) (g1 + 1) 41 [iv node, iv nodes, iv (n : Int), iv 0, .slice A9 (k + 1) c9, .slice none 0 0, .slice none 0 0, .slice none 0 0]) := ak (cV.fB 4 _); have sL := ak (aJ hres eZ (by show ¬ g1 = g1 + 1; omega))
     have GL : Hid ((w9.setCell ⟨g1 + 1, 4, none⟩ (.slice A9 (k + 1) c9)).ownsRow (g1 + 2) 69 5 (.slice A9 (k + 1) c9) (k + 1) (((bP node nodes n n).take (k + 1)).map Pl.vals).flatten) := ak (by
      rw [qW.o]; exact aF sI eZ fun j e e2 => by have h1 := (sI.lt j e).1; have e3 : j = g1 + 1 := e2; omega)
     have Y4 := ak (jM.o.trans ((FN.below (Nat.le_trans jM.o.size (Nat.le_refl _)) fun j e => by have h1 := (mh.o.lt j (by rw [aK]; exact e.symm)).1; have := I7.o; omega).trans (eZ.below (by have := jM.o.size; have := FN.size; omega) fun j e => by have e3 : j = g1 + 1 := e; have := I7.o; omega)))
     clear hrun sI FN cV hres eZ
     go_upto_region 6 with (at_builtin; refine Lib.wpList_append_run (wf.alloc (.cells #[iv 1, iv 0, iv 0, iv 0, iv 0] 69)) rfl (.tmp 52) (.tmp 54) 36 36 rfl (.slice A k c) (.slice (some ⟨wf.heap.size, 0, none⟩) 1 1) rfl rfl _ _ dQ.o ?_)
     clear d4 f4
     go_wp2_with fail
     go_roundw
     case rel => exact ⟨k + 1, A9, c9, by go_num, by omega, GN, GL, sL, Y4⟩
     case measure => simp [intOf]; omega
    have qW : Hid ((bP node nodes n n).take (k + 1) = (bP node nodes n n).take k ++ [rH]) := ak (by rw [Gu, if_neg Uj])
    obtain ⟨wf, hwf⟩ := aj we; subst hwf; have DN := kL; have Gv := JH; have Tg := JI; have mh := Bt; have jM := GC; clear JH JI Bt GC Gu
    go_upto_region 10 with (fail)
    have c4 := Gv.o.cell (j := 4) rfl; have p0 := DN.o.cell (j := 0) rfl; have p1 := DN.o.cell (j := 1) rfl; have p2 := DN.o.cell (j := 2) rfl; have p3 := DN.o.cell (j := 3) rfl; have p4 := DN.o.cell (j := 4) rfl; obtain ⟨A9, n9, c9, w9, hrun, tZ, sI, FN⟩ := BA (mh.o) wV.o (rH) #[iv 0, iv 0, iv 0, iv 0, iv 0] rfl (by have := DN.o.lt; have := Ea.o; omega) (by omega)
    subst tZ; have cV := aJ Gv.o FN (fun e => by have h1 := (mh.o.lt (g1 + 1) (by rw [aK]; exact e.symm)).1; omega)
    have hres := aJ Tg.o FN (fun e => by have h1 := (mh.o.lt g1 (by rw [aK]; exact e.symm)).1; omega)
    have d4 := cV.cell (j := 4) rfl; have f4 := cV.frozen (j := 4) (by simp); have eZ := Only.b_ w9 ⟨g1 + 1, 4, none⟩ (.slice A9 (k + 1) c9); have dQ := ak hrun; have GN : Hid (Cells (w9.setCell ⟨g1 + 1, 4, none⟩ (.slice A9 (k + 1) c9)) (g1 + 1) 41 [iv node, iv nodes, iv (n : Int), iv 0, .slice A9 (k + 1) c9, .slice none 0 0, .slice none 0 0, .slice none 0 0]) := ak (cV.fB 4 _); have sL := ak (aJ hres eZ (by show ¬ g1 = g1 + 1; omega))
    have GL : Hid ((w9.setCell ⟨g1 + 1, 4, none⟩ (.slice A9 (k + 1) c9)).ownsRow (g1 + 2) 69 5 (.slice A9 (k + 1) c9) (k + 1) (((bP node nodes n n).take (k + 1)).map Pl.vals).flatten) := ak (by
     rw [qW.o]; exact aF sI eZ fun j e e2 => by have h1 := (sI.lt j e).1; have e3 : j = g1 + 1 := e2; omega)
    have Y4 := ak (jM.o.trans ((FN.below (Nat.le_trans jM.o.size (Nat.le_refl _)) fun j e => by have h1 := (mh.o.lt j (by rw [aK]; exact e.symm)).1; have := I7.o; omega).trans (eZ.below (by have := jM.o.size; have := FN.size; omega) fun j e => by have e3 : j = g1 + 1 := e; have := I7.o; omega)))
    clear hrun sI FN cV hres eZ
    go_upto_region 6 with (at_builtin; refine Lib.wpList_append_run (wf.alloc (.cells #[iv 0, iv 0, iv 0, iv 0, iv 0] 69)) rfl (.tmp 52) (.tmp 54) 36 36 rfl (.slice A k c) (.slice (some ⟨wf.heap.size, 0, none⟩) 1 1) rfl rfl _ _ dQ.o ?_)
    clear d4 f4
    go_wp2_with fail
    go_roundw
    case rel => exact ⟨k + 1, A9, c9, by go_num, by omega, GN, GL, sL, Y4⟩
    case measure => simp [intOf]; omega
   obtain rfl : k = n := by omega
   have hlen : (bP node nodes k k).length = k := dI _ _ _ _; have htk : (bP node nodes k k).take k = bP node nodes k k := List.take_of_length_le (by omega); rw [htk] at dW; have aan : Hid (Cells wr (g1 + 1) 41 [iv node, iv nodes, iv (k : Int), iv 0, .slice A k c, .slice none 0 0, .slice none 0 0, .slice none 0 0]) := HST
   go_upto_region 11 with (fail)
   apply wp_region_lit
   refine aD rfl 41 _ rfl (g1 + 1) #[iv node, iv nodes, iv (k : Int), iv 0, .slice A k c, .slice none 0 0, .slice none 0 0, .slice none 0 0] rfl rfl aan.o Tryz.underlying41 rfl (by kernel_rfl) ?_; refine aA rfl 41 _ _ rfl g1 #[iv node, iv nodes, iv (k : Int), iv 0, .slice A k c, .slice none 0 0, .slice none 0 0, .slice none 0 0] [iv node, iv nodes, iv (k : Int), iv 0, .slice A k c, .slice none 0 0, .slice none 0 0, .slice none 0 0] rfl rfl rfl dP.o rfl (by kernel_rfl) (by kernel_rfl) fun w5 hpt hov => ?_
   have bU := ak hpt; have cj := ak hov; clear hpt hov
   go_wp2_with fail
   refine bodyPost_ret (v := .tuple #[.agg #[iv node, iv nodes, iv (k : Int), iv 0, .slice A k c, .slice none 0 0, .slice none 0 0, .slice none 0 0], .bool true]) ((aI (p := 6) (q := 7) (ty := 41) (by rfl) _ bU.o _ (by rfl) Tryz.underlying41 rfl (by kernel_rfl)).trans (by rfl)) rfl ?_; have hl : fq (fun j => B0 <= j) (g1 + 2) wr (eA node nodes k) ⟨A, c, none, 0, none, 0, none, 0, [], []⟩ := by
    refine ⟨?_, World.ownsRow_nil _ _ _ _, World.ownsRow_nil _ _ _ _, World.ownsRow_nil _ _ _ _, rfl, rfl, fun k h => absurd h (by simp [eA]), fun k h => absurd h (by simp [eA]), fun _ _ e => (by cases e), fun _ _ e => (by cases e), fun _ _ e => (by cases e), fun _ e => (by cases e), fun _ e => (by cases e), fun _ e => (by cases e)⟩; have h := dW.o; unfold eA; rw [hlen]; exact h
   have hl2 := hl.only cj.o (fun _ _ e => by have := I7.o; have := mX.o; omega) (fun j hj e => by have := (hl.lt hj).1; omega)
   refine ⟨⟨⟨A, c, none, 0, none, 0, none, 0, [], []⟩, ?_, ?_⟩, ?_⟩
   ·rw [HL.o, Int.toNat_natCast]
    unfold St.val eA; rw [hlen]
    rfl
   ·rw [HL.o, Int.toNat_natCast]
    exact hl2.deep fun j hj => by have := (hl2.lt hj).1; have := I7.o; omega
   exact mV.o.trans (cj.o.below mV.o.size fun j e => by have := I7.o; omega)
 rw [decide_eq_false hok] at hif
 have HL : Hid (cD node nodes cells = (vC, 1)) := ak (by unfold cD; rw [if_pos hif]); obtain ⟨bad, hbad⟩ := ah (decide (nodes < 1) || decide (16 < nodes) || decide (node < 1) || decide (nodes < node) || decide (cells < 1) || decide (16 < cells)); obtain rfl : bad = true := by
  rw [<- hbad]; simp only [Bool.or_eq_true, decide_eq_true_eq]
  omega
 have aaD := ak hbad; clear hb hc hif hok hbad; obtain ⟨g1, hg1⟩ := ah w.heap.size; have I7 := ak hg1; rw [hg1] at HC
 go_enter Tryz.func7, Tryz.ntmps7
 go_upto_region 1 with (fail)
 rw [<- hwb]; clear hwb hsb
 go_cut [33] from 11 to 33 (fun v wx => v = .bool true /\ wx = wb)
 case first =>
  have rI := aaD.o
  by_cases e1 : nodes < 1
  ·go_wp2_with fail
   go_meet
   exact ⟨rfl, rfl⟩
  by_cases e2 : nodes > 16
  ·go_wp2_with fail
   go_meet
   exact ⟨rfl, rfl⟩
  by_cases e3 : node < 1
  ·go_wp2_with fail
   go_meet
   exact ⟨rfl, rfl⟩
  by_cases e4 : node > nodes
  ·go_wp2_with fail
   go_meet
   exact ⟨rfl, rfl⟩
  by_cases e5 : cells < 1
  ·go_wp2_with fail
   go_meet
   exact ⟨rfl, rfl⟩
  by_cases e6 : cells > 16
  ·go_wp2_with fail
   go_meet
   exact ⟨rfl, rfl⟩
  simp only [Bool.or_eq_true, decide_eq_true_eq] at rI
  omega
 obtain ⟨rfl, rfl⟩ := hcut
 go_upto_region 2 with (fail)
 apply wp_region_lit
 refine Go.Great.wpList_runTo rfl (some 34) rfl (.agg ZA) wc (by go_simp) ?_; refine aA rfl 41 _ _ rfl g1 ZA ZL rfl rfl rfl HC.o rfl (by kernel_rfl) (by simp [Value.oneCell']) fun w5 hpt hov => ?_
 have bU := ak hpt; have cj := ak hov; clear hpt hov
 go_wp2_with fail
 refine bodyPost_ret (v := .tuple #[.agg ZA, .bool false]) ((aI (p := 6) (q := 7) (ty := 41) (by rfl) _ bU.o _ (by rfl) Tryz.underlying41 rfl (by kernel_rfl)).trans (by rfl)) rfl ?_; refine ⟨⟨⟨none, 0, none, 0, none, 0, none, 0, [], []⟩, ?_, ?_⟩, ?_⟩
 ·rw [HL.o]; rfl
 ·rw [HL.o]; exact qR _ _ _
 exact HB.o.trans (cj.o.below HB.o.size fun j e => by have := I7.o; omega)
