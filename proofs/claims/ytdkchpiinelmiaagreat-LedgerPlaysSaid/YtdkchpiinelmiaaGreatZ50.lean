/- Part 50 of the proof. Conditions: none. -/
import Derived.Test.YtdkchpiinelmiaaGreatZ47
import Derived.Test.YtdkchpiinelmiaaGreatZ49
namespace Go.Proofs.YtdkchpiinelmiaaGreat.Led
set_option maxRecDepth 100000
open Go.RowKit Go.Deep Mem fN Rec
set_option maxHeartbeats 4000000 in
theorem WS {B0 : Nat} {w0 : World} {g2 g6 : Nat} {s : St} {y : Sy} {r : Rc} {z : Lay} (hn : r.kind ≠ 6 -> je [1, 1, 1, 1, 1, 1, 1, 1, 1, 1, 1] B0 w0 g2 g6 s y r z) : je [1, 1, 1, 1, 1, 1, 1, 1, 1, 1] B0 w0 g2 g6 s y r z := by
 intro wr h cc hc; iterate 546 intro _
 conv at hc => rhs; whnf
 subst hc
 apply wp_seq_k
 intro K hK; have ju := ak hK; clear hK; have aN := ak h; have iu := ak hn; have q0 := h.dF.cell (j := 0) rfl; clear h hn
 go_upto_region 56 with (fail)
 by_cases hk : r.kind = 6
 ·have HK := ak hk
  have HB : Hid (aC s r = aV s r) := ak (bN aN.o.rt); rw [hk] at q0; clear hk iu; have HF : Hid (aC s r = cK s r) := ak (by rw [HB.o]; unfold aV; rw [HK.o]; rfl); have q1 := aN.o.dF.cell (j := 1) rfl; have q2 := aN.o.dF.cell (j := 2) rfl; have q3 := aN.o.dF.cell (j := 3) rfl
  go_upto_region 57 with (fail)
  apply wp_region_lit
  refine aD rfl 41 _ rfl g6 (s.va y) rfl rfl (aN.o.fi.own.br) Tryz.underlying41 rfl (by kernel_rfl) ?_
  go_wp2_with fail
  refine (gF s y r.tid wr aN.o.fi.own.sees (aN.o.sm.kZ).1).mono ?_; rintro e wl ⟨rfl, hbl⟩; have aN := ak (aN.o.later hbl); clear q0 q1 q2 q3 hbl; obtain ⟨f, hf⟩ := ah (bQ s r.tid); have wW := ak hf; rw [hf]; clear hf
  by_cases ud : f < 0
  ·have FD : Hid (aC s r = dH s r) := ak (by rw [HF.o]; unfold cK; rw [wW.o, if_pos ud])
   obtain ⟨kn, hkn⟩ := ah (known s r.tid); have qX := ak hkn; have HKD : Hid (kn = decide (0 <= dJ s r.tid)) := ak (by
    rw [<- hkn]; unfold known; rw [wW.o, decide_eq_false (by omega), Bool.false_or])
   rw [hkn]; clear hkn
   cases kn with
   | true =>
    have fJ : Hid ((aC s r).2 = 9) := ak (by rw [FD.o]; unfold dH; rw [if_pos (of_decide_eq_true HKD.o.symm)])
    go_upto_region 69 with (fail)
    apply wp_region_lit
    refine Go.Great.wpList_runTo rfl (some 344) rfl (.agg ZA) wl (by go_simp) ?_; refine aA rfl 41 _ _ rfl (g2 + 2) ZA ZL rfl rfl rfl (aN.o.fi).res rfl (by kernel_rfl) (by simp [Value.oneCell']) fun w5 hpt hov => ?_
    have bU := ak hpt; have cj := ak hov; clear hpt hov
    go_wp2_with fail
    refine bodyPost_ret (v := .tuple #[.agg ZA, iv 9]) ((aI (p := 4) (q := 5) (ty := 41) (by rfl) _ bU.o _ (by rfl) Tryz.underlying41 rfl (by kernel_rfl)).trans (by rfl)) rfl ?_; exact bC (aN.o.fi) cj.o (fJ.o) (by decide)
   | false =>
    have HNF : Hid (¬ 0 <= dJ s r.tid) := ak (of_decide_eq_false HKD.o.symm); have wI := aN.o.dF.cell (j := 14) rfl; obtain ⟨yv, hyv⟩ := ah r.yes; have Uo := ak hyv; rw [hyv] at wI; clear hyv
    cases yv with
    | true =>
     have fJ : Hid ((aC s r).2 = 10) := ak (by rw [FD.o]; unfold dH; rw [if_neg HNF.o, if_pos Uo.o])
     go_upto_region 71 with (fail)
     apply wp_region_lit
     refine Go.Great.wpList_runTo rfl (some 347) rfl (.agg ZA) wl (by go_simp) ?_; refine aA rfl 41 _ _ rfl (g2 + 2) ZA ZL rfl rfl rfl (aN.o.fi).res rfl (by kernel_rfl) (by simp [Value.oneCell']) fun w5 hpt hov => ?_
     have bU := ak hpt; have cj := ak hov; clear hpt hov
     go_wp2_with fail
     refine bodyPost_ret (v := .tuple #[.agg ZA, iv 10]) ((aI (p := 4) (q := 5) (ty := 41) (by rfl) _ bU.o _ (by rfl) Tryz.underlying41 rfl (by kernel_rfl)).trans (by rfl)) rfl ?_; exact bC (aN.o.fi) cj.o (fJ.o) (by decide)
    | false =>
     have Lm := ak (tG qX.o); have WC : Hid (aC s r = dK s r) := ak (by rw [FD.o]; unfold dH; rw [if_neg HNF.o, if_neg (by rw [Uo.o]; decide)]); have q1 := aN.o.dF.cell (j := 1) rfl; have q2 := aN.o.dF.cell (j := 2) rfl; have q3 := aN.o.dF.cell (j := 3) rfl
     go_upto_region 72 with (fail)
     apply wp_region_lit
     refine aD rfl 41 _ rfl g6 (s.va y) rfl rfl (aN.o.fi.own.br) Tryz.underlying41 rfl (by kernel_rfl) ?_
     go_wp2_with fail
     refine (u_ s y r.tid wl (aN.o.sm.kZ).1 (aN.o.sm.kZ).2.2.1).mono ?_; rintro e wm ⟨rfl, hbl⟩; have aN := ak (aN.o.later hbl); clear q1 q2 q3 wI hbl; obtain ⟨f1, hf1⟩ := ah (lI s r.tid); rw [hf1] at Lm ⊢; clear hf1
     by_cases ud : f1 = 0
     ·subst ud
      have kX : Hid (aC s r = ({ s with dec := gI s.dec (De.mk r.tid false) }, 0)) := ak (by
       rw [WC.o, Lm.o.2 rfl]; unfold eX; rw [Uo.o])
      have q1 := aN.o.dF.cell (j := 1) rfl; have q2 := aN.o.dF.cell (j := 2) rfl; have q3 := aN.o.dF.cell (j := 3) rfl; obtain ⟨_, _, ⟨gl, hD, hcd⟩, _⟩ := aN.o.there; have HD := ak hD; have Vw := ak hcd; clear hD hcd
      go_upto_region 75 with (fail)
      apply wp_region_lit
      refine aD rfl 41 _ rfl g6 (s.va y) rfl rfl (aN.o.fi.own.br) Tryz.underlying41 rfl (by kernel_rfl) ?_
      go_wp2_with fail
      refine (kF s y r.tid false wm aN.o.fi.own.sees gl HD.o Vw.o (by have := aN.o.gd.room; omega) (sY aN.o.gd r.tid)).mono ?_
      rintro e w1 ⟨⟨A9, c9, rfl, hrow⟩, hb1⟩; have dW := ak hrow; have fW := ak hb1; have Tp := ak (aN.o.later hb1); clear hrow hb1; rename_i zy; refine zy _ _ ?_; clear zy; refine aA rfl 41 _ _ rfl (g2 + 2) #[iv s.node, iv s.nodes, iv s.cells, iv s.epoch, .slice y.P s.places.length y.p, .slice y.Q s.ay.length y.q, .slice A9 (gI s.dec (De.mk r.tid false)).length c9, .slice y.C s.com.length y.c] [iv s.node, iv s.nodes, iv s.cells, iv s.epoch, .slice y.P s.places.length y.p, .slice y.Q s.ay.length y.q, .slice A9 (gI s.dec (De.mk r.tid false)).length c9, .slice y.C s.com.length y.c] rfl rfl rfl Tp.o.fi.res rfl (by kernel_rfl) (by kernel_rfl) fun w5 hpt hov => ?_
      have bU := ak hpt; have cj := ak hov; clear hpt hov
      go_wp2_with fail
      refine bodyPost_ret (v := .tuple #[.agg #[iv s.node, iv s.nodes, iv s.cells, iv s.epoch, .slice y.P s.places.length y.p, .slice y.Q s.ay.length y.q, .slice A9 (gI s.dec (De.mk r.tid false)).length c9, .slice y.C s.com.length y.c], iv 0]) ((aI (p := 4) (q := 5) (ty := 41) (by rfl) _ bU.o _ (by rfl) Tryz.underlying41 rfl (by kernel_rfl)).trans (by rfl)) rfl ?_; exact BH (s' := s) aN.o.fi fW.o dW.o cj.o (kX.o) rfl
     have fJ : Hid ((aC s r).2 = f1) := ak (by rw [WC.o]; exact Lm.o.1)
     have UE := ak ud
     go_upto_region 74 with (fail)
     apply wp_region_lit
     refine Go.Great.wpList_runTo rfl (some 354) rfl (.agg ZA) wm (by go_simp) ?_; refine Go.Great.wpList_runTo rfl (some 355) rfl (iv f1) wm (by rfl) ?_; refine aA rfl 41 _ _ rfl (g2 + 2) ZA ZL rfl rfl rfl (aN.o.fi).res rfl (by kernel_rfl) (by simp [Value.oneCell']) fun w5 hpt hov => ?_
     have bU := ak hpt; have cj := ak hov; clear hpt hov
     go_wp2_with fail
     refine bodyPost_ret (v := .tuple #[.agg ZA, iv f1]) ((aI (p := 4) (q := 5) (ty := 41) (by rfl) _ bU.o _ (by rfl) Tryz.underlying41 rfl (by kernel_rfl)).trans (by rfl)) rfl ?_; exact bC (aN.o.fi) cj.o (fJ.o) (UE.o)
  have Vo := ak ud
  obtain ⟨k, Xg, hkl, _⟩ := mO (s := s) (u := r.tid) (by rw [wW.o]; exact ud); rw [wW.o] at Xg; subst Xg; have hks : k < y.ps.length := by rw [aN.o.fi.own.lists.ps]; exact hkl
  obtain ⟨its, hits⟩ := ah (s.ay[k].items); obtain ⟨lay, D6⟩ := ah (y.ps[k]); have hfr := aN.o.fi.own.lists.pin k hkl hks; rw [hits, D6] at hfr; obtain ⟨_, ⟨qb, hQ, UN⟩, _, _⟩ := aN.o.there; obtain ⟨b0, o0, X8, hrg⟩ := aN.o.fi.W8 k (by rw [List.length_map, List.length_zip]; omega); rw [hQ] at X8; obtain ⟨rfl, rfl, _⟩ := Addr.mk.inj (Option.some.inj X8); rw [List.getElem_map, List.getElem_zip, D6] at hrg; obtain ⟨lA, lc, lB, ld⟩ := lay; have x3 := hrg 3 (.slice lA s.ay[k].items.length lc) rfl; rw [Nat.zero_add, hits] at x3; obtain ⟨nq, IZ⟩ := ah s.ay.length; obtain ⟨qc, wZ⟩ := ah y.q; obtain ⟨m, hm⟩ := ah its.length; have c5 := aN.o.fi.own.br.cell (j := 5) rfl; rw [hQ, IZ, wZ] at c5; rw [hm] at x3; have HITS := ak hits; have FD := ak hfr; have Le := ak hQ; have HM := ak hm; have Li := ak IZ; have Xz := ak wZ; have wV := ak hkl; have F8 : Hid (nq <= qc /\ nq <= 512) := ak ⟨by rw [<- IZ, <- wZ]; exact UN, by have := aN.o.gd.room; omega⟩
  have aef : k < nq := by rw [<- IZ]; exact hkl
  have z1 : (0 : Int) <= (k : Int) := by omega
  have z2 : (k : Int) < (nq : Int) := by omega
  have WD : Hid (∀ q, some q = blk y.P -> g2 + 3 <= q) := ak fun q e => aN.o.fi.far q (Or.inl e)
  obtain ⟨yv, hyv⟩ := ah r.yes; have Uo := ak hyv; have hm9 : m <= 1000000 := by
   rw [<- hm, <- hits]; exact (aN.o.sm.kZ).2.1 (s.ay[k]'hkl) (List.getElem_mem _)
  have afX : Hid (g2 + 2 < wl.heap.size) := ak aN.o.fi.res.lt; clear hits D6 hfr hQ UN X8 hrg IZ wZ hm hyv hks ud
  go_upto_block 8 with (fail)
  go_cut [18] from 282 to 323 (fun _ wx => Hid (Fi B0 w0 g2 g6 (if yv = true then aO s its else s) y wx) /\ Hid (Only (fun q => some q = blk y.P) wl wx))
  case first =>
   clear x3 c5 z1 z2
   go_wp2_with fail
   go_loopw [18] (fun v wq => ∃ ii : Nat, v = iv (ii : Int) /\ ii <= m /\ (yv = false -> ii = 0) /\ Hid (Fi B0 w0 g2 g6 (aO s (its.take ii)) y wq) /\ Hid (Only (fun q => some q = blk y.P) wl wq)) (fun v _ => m - (intOf v).toNat)
   case atStart => exact ⟨0, rfl, Nat.zero_le _, fun _ => rfl, ak aN.o.fi, ak (Only.refl _ _)⟩
   case round =>
    obtain ⟨wq, Zg⟩ := aj wr; subst Zg; obtain ⟨ii, rfl, Ui, hy0, Gd, KG⟩ := hrel; have wI := (aJ aN.o.dF KG.o (by intro e; have := WD.o _ e; omega)).cell (j := 14) rfl; rw [Uo.o] at wI
    by_cases hlt : ii < m
    ·cases yv with
     | false =>
      obtain rfl := hy0 rfl
      go_wp2_with fail
      go_meet
      exact ⟨ak (by rw [if_neg (by decide)]; exact Gd.o), KG⟩
     | true =>
      have hil : ii < its.length := by rw [HM.o]; exact hlt
      obtain ⟨ib, io, hA, hit⟩ := (FD.o wq (KG.o.mono fun q _ e => Or.inr (Or.inl e))).1 ii hil; have hA' : lA = some ⟨ib, io, none⟩ := hA; subst hA'; clear hA; obtain ⟨x, hx⟩ := ah (its[ii]); have Yw : Hid (x ∈ its) := ak (by rw [<- hx]; exact List.getElem_mem hil); have qW : Hid (aO s (its.take (ii + 1)) = aX (aO s (its.take ii)) x) := ak (by rw [ru s hil, hx]); rw [hx] at hit; have x3 := hit.write; obtain ⟨xw, hxw⟩ := ah x.write; have HXW := ak hxw; rw [hxw] at x3; have z1 : (0 : Int) <= (ii : Int) := by omega
      have z2 : (ii : Int) < (m : Int) := by omega
      clear hxw
      cases xw with
      | false =>
       have HE : Hid (aO s (its.take (ii + 1)) = aO s (its.take ii)) := ak (by rw [qW.o]; unfold aX; rw [if_neg (by rw [HXW.o]; simp)]); clear hit hx hil
       go_wp2_with fail
       go_roundw
       case rel => exact ⟨ii + 1, by go_num, by omega, fun e => (by cases e), ak (by rw [HE.o]; exact Gd.o), KG⟩
       case measure => simp [intOf]; omega
      | true =>
       have hhas : bp (aO s (its.take ii)) x.cell = true := by
        rw [z8]; have h1 := aN.o.gd.inv.lk (s.ay[k]'hkl) (List.getElem_mem _) x (by rw [HITS.o]; exact Yw.o); exact jD h1.1
       obtain ⟨pb, jj, pl, hP, Uk, hjl, hpl, hat⟩ := Gd.o.own.place hhas; obtain ⟨np, hnp⟩ := ah ((aO s (its.take ii)).places.length); obtain ⟨vv, hvv⟩ := ah pl.version; obtain ⟨nv, XS⟩ := ah (IntKind.i64.wrap (vv + 1)); obtain ⟨xn, hxn⟩ := ah x.new; obtain ⟨s1, hs1⟩ := ah (bJ (aO s (its.take ii)) (jj : Int) ⟨pl.status, pl.hop, pl.to, nv, pl.value⟩); have hp1 : s1.places[jj]? = some ⟨pl.status, pl.hop, pl.to, nv, pl.value⟩ := by
        rw [<- hs1]; unfold bJ
        dsimp only
        rw [Int.toNat_natCast, List.getElem?_set, if_pos rfl, if_pos hjl]
       have Bo : Hid (aO s (its.take (ii + 1)) = bJ s1 (jj : Int) ⟨pl.status, pl.hop, pl.to, nv, xn⟩) := ak (by
        rw [qW.o]; unfold aX; rw [if_pos ⟨HXW.o, hhas⟩, hat, Uk, hvv, XS, hxn, <- hs1]; unfold bJ
        simp)
       have GH : ∀ W, Below wq.heap.size wq W -> (W.cell? ⟨pb, jj * 5 + 3, none⟩ = some (iv vv) /\ W.frozen? ⟨pb, jj * 5 + 3, none⟩ = false) /\ Fi B0 w0 g2 g6 s1 y (W.setCell ⟨pb, jj * 5 + 3, none⟩ (iv nv)) /\ Only (fun q => some q = blk y.P) W (W.setCell ⟨pb, jj * 5 + 3, none⟩ (iv nv)) := fun W hb => by
        have h1 := Gd.o.ey hb hP hpl (o := 3) (u := iv vv) (v := iv nv) (KU := ⟨pl.status, pl.hop, pl.to, nv, pl.value⟩) (by rw [<- hvv]; rfl) rfl rfl; rw [hs1] at h1; exact h1
       have Gx := ak GH; have Fy : Hid (∀ W, Below wq.heap.size wq W -> W.cell? ⟨pb, jj * 5 + 3, none⟩ = some (iv vv) /\ W.frozen? ⟨pb, jj * 5 + 3, none⟩ = false) := ak fun W hb => (GH W hb).1
       have Uv : Hid (∀ W, Below wq.heap.size wq W -> W.cell? ⟨g6, 4, none⟩ = some (.slice (some ⟨pb, 0, none⟩) np y.p)) := ak fun W hb => by
        have h1 := (Gd.o.later hb).own.br.cell (j := 4) rfl; rw [hP, hnp] at h1; exact h1
       have Tv : Hid (∀ W, Only (fun q => some q = blk y.P) wl W -> W.cell? ⟨ib, io + ii * 5, none⟩ = some (iv (jj : Int)) /\ W.cell? ⟨ib, io + ii * 5 + 4, none⟩ = some (iv xn)) := ak fun W ho => by
        obtain ⟨b9, o9, e9, h9⟩ := (FD.o W (ho.mono fun q _ e => Or.inr (Or.inl e))).1 ii hil; rw [hx] at h9; obtain ⟨rfl, rfl, _⟩ := Addr.mk.inj (Option.some.inj e9); exact ⟨by rw [<- Uk]; exact h9.cell, by rw [<- hxn]; exact h9.new⟩
       have HIT : Hid (∀ W, Below wq.heap.size wq W -> W.cell? ⟨ib, io + ii * 5, none⟩ = some (iv (jj : Int)) /\ W.cell? ⟨ib, io + ii * 5 + 4, none⟩ = some (iv xn)) := ak fun W hb => Tv.o W (KG.o.trans (S' := fun _ => False) (Only.of_below hb) fun _ _ e => e.elim)
       have XG := ak hlt; have YR : Hid (jj < np) := ak (by rw [<- hnp]; exact hjl); have HNV := ak XS; have HPP := ak hP; have Lf := ak hp1; have XD : Hid (s1.places.length = np) := ak (by rw [<- hs1, <- hnp]; unfold bJ; simp); obtain ⟨XJ, hyp⟩ := ah y.p; have HYP := ak hyp; rw [hyp] at Uv; clear hhas hP Uk hjl hpl hat hnp hvv XS hxn hs1 hp1 GH hit hyp hx hil
       go_upto_region 64 with (fail)
       clear x3 z1 z2 wI; refine N.bk (by kernel_rfl) (fun i => ([some (.pointer (some ⟨g6, 4, none⟩)), some (.slice (some ⟨pb, 0, none⟩) np XJ), some (.slice (some ⟨ib, io, none⟩) m lc), some (iv (ii : Int)), some (.pointer (some ⟨ib, io + ii * 5, none⟩)), some (.pointer (some ⟨ib, io + ii * 5, none⟩)), some (iv (jj : Int)), some (.pointer (some ⟨pb, jj * 5, none⟩)), some (.pointer (some ⟨pb, jj * 5 + 3, none⟩)), some (iv vv), some (iv nv), some (.pointer (some ⟨pb, jj * 5, none⟩)), some (.pointer (some ⟨pb, jj * 5 + 3, none⟩)), none] : List (Option Value)).getD i none) (fun D V W => ((D 13) = false -> Below wq.heap.size wq W) /\ ((D 13) = true -> ∃ W0, Below wq.heap.size wq W0 /\ W = W0.setCell ⟨pb, jj * 5 + 3, none⟩ (iv nv))) (fun V => [(some 297, V 0), (some 298, V 1), (some 299, V 2), (some 300, V 3), (some 301, V 4), (some 302, V 5), (some 303, V 6), (some 304, V 7), (some 305, V 8), (some 306, V 9), (some 307, V 10), (some 308, V 11), (some 309, V 12), (none, V 13)]) (by kernel_rfl) (by kernel_rfl) (fun V => rfl) ?_ ?_ ?_
       ·intro V
        exact ⟨fun _ => (Below.refl _ _).drew, fun e => (by cases e)⟩
       ·intro i o ho
        have hi : i < 14 := (Array.getElem?_eq_some_iff.1 ho).1; rcases i with _ | _ | _ | _ | _ | _ | _ | _ | _ | _ | _ | _ | _ | _ | i
        rotate_right
        ·omega
        all_goals obtain rfl := Option.some.inj ho
        all_goals intro D V ρ wi hE hI cP hT hF hs hd hk
        ·have e6 : ρ (.tmp 6) = (au g6) := hs 6; clear hT hF hk
         exact N.gi _ ⟨fun _ => N.oi, hI⟩
        ·have aeZ := (hd 0 297).trans (hk 0 _ rfl); have dD : D 13 = false := hF 1 13; clear hT hF; have hL : Below wq.heap.size wq wi := hI.1 dD; have x0 := Uv.o wi hL
         exact N.gi _ ⟨fun _ => N.oi, hI⟩
        ·have e17 : ρ (.tmp 17) = .slice (some ⟨ib, io, none⟩) m lc := hs 17; clear hT hF hk
         exact N.gi _ ⟨fun _ => N.oi, hI⟩
        ·have e18 : ρ (.tmp 18) = iv (ii : Int) := hs 18; clear hT hF hk
         exact N.gi _ ⟨fun _ => N.oi, hI⟩
        ·have aeY := (hd 2 299).trans (hk 2 _ rfl); have aeX := (hd 3 300).trans (hk 3 _ rfl); clear hT hF
         have z1 : (0 : Int) <= (ii : Int) := by omega
         have z2 : (ii : Int) < (m : Int) := by have := XG.o; omega
         exact N.gi _ ⟨fun _ => N.oi, hI⟩
        ·have aeW := (hd 4 301).trans (hk 4 _ rfl); clear hT hF hk
         exact N.gi _ ⟨fun _ => N.oi, hI⟩
        ·have aeV := (hd 5 302).trans (hk 5 _ rfl); have dD : D 13 = false := hF 1 13; clear hT hF; have hL : Below wq.heap.size wq wi := hI.1 dD; have x0 := (HIT.o wi hL).1
         exact N.gi _ ⟨fun _ => N.oi, hI⟩
        ·have Zy := (hd 1 298).trans (hk 1 _ rfl); have Zx := (hd 6 303).trans (hk 6 _ rfl); clear hT hF
         have z1 : (0 : Int) <= (jj : Int) := by omega
         have z2 : (jj : Int) < (np : Int) := by have := YR.o; omega
         exact N.gi _ ⟨fun _ => N.oi, hI⟩
        ·have aeU := (hd 7 304).trans (hk 7 _ rfl); clear hT hF hk
         exact N.gi _ ⟨fun _ => N.oi, hI⟩
        ·have aeT := (hd 8 305).trans (hk 8 _ rfl); have dD : D 13 = false := hF 1 13; clear hT hF; have hL : Below wq.heap.size wq wi := hI.1 dD; have x0 := (Fy.o wi hL).1
         exact N.gi _ ⟨fun _ => N.oi, hI⟩
        ·have aeS := (hd 9 306).trans (hk 9 _ rfl); have hc := hE.const; clear hT hF; have z0 := HNV.o
         exact N.gi _ ⟨fun _ => N.oi, hI⟩
        ·have Zy := (hd 1 298).trans (hk 1 _ rfl); have Zx := (hd 6 303).trans (hk 6 _ rfl); clear hT hF
         have z1 : (0 : Int) <= (jj : Int) := by omega
         have z2 : (jj : Int) < (np : Int) := by have := YR.o; omega
         exact N.gi _ ⟨fun _ => N.oi, hI⟩
        ·have aeQ := (hd 11 308).trans (hk 11 _ rfl); clear hT hF hk
         exact N.gi _ ⟨fun _ => N.oi, hI⟩
        have aeP := (hd 12 309).trans (hk 12 _ rfl); have aeR := (hd 10 307).trans (hk 10 _ rfl); have dD : D 13 = false := cP; clear hT hF; have hL : Below wq.heap.size wq wi := hI.1 dD; have x1 := (Fy.o wi hL).1; have x2 := (Fy.o wi hL).2
        exact N.Gives.skip (w' := wi.setCell ⟨pb, jj * 5 + 3, none⟩ (iv nv)) (by go_simp) ⟨fun x h => (by cases h), by show (true = false -> Below wq.heap.size wq (wi.setCell ⟨pb, jj * 5 + 3, none⟩ (iv nv))) /\ (true = true -> ∃ W0, Below wq.heap.size wq W0 /\ (wi.setCell ⟨pb, jj * 5 + 3, none⟩ (iv nv)) = W0.setCell ⟨pb, jj * 5 + 3, none⟩ (iv nv)); exact ⟨fun e => (by cases e), fun _ => ⟨wi, hL, rfl⟩⟩⟩
       intro V wf hk hI
       simp only [N.aP, List.foldl_cons, List.foldl_nil, Act.put, List.setIfInBounds_toArray, List.set_cons_succ, List.set_cons_zero]; replace hI : (true = false -> Below wq.heap.size wq wf) /\ (true = true -> ∃ W0, Below wq.heap.size wq W0 /\ wf = W0.setCell ⟨pb, jj * 5 + 3, none⟩ (iv nv)) := hI; clear hk; obtain ⟨W0, hb0, hwf⟩ := hI.2 rfl; have hp0 := (Gx.o W0 hb0).2; rw [<- hwf] at hp0; have YV := ak hp0.1; have YJ : Hid (Only (fun q => some q = blk y.P) wl wf) := ak (KG.o.trans ((Only.of_below hb0).trans hp0.2 fun _ _ e => e) fun _ _ e => e); clear hI hb0 hwf hp0 Gx Fy Uv HIT Gd KG; obtain ⟨wq, lU⟩ := aj wf; subst lU; have GF : ∀ W, Below wq.heap.size wq W -> (W.cell? ⟨pb, jj * 5 + 4, none⟩ = some (iv pl.value) /\ W.frozen? ⟨pb, jj * 5 + 4, none⟩ = false) /\ Fi B0 w0 g2 g6 (bJ s1 (jj : Int) ⟨pl.status, pl.hop, pl.to, nv, xn⟩) y (W.setCell ⟨pb, jj * 5 + 4, none⟩ (iv xn)) /\ Only (fun q => some q = blk y.P) W (W.setCell ⟨pb, jj * 5 + 4, none⟩ (iv xn)) := fun W hb => YV.o.ey hb HPP.o Lf.o (o := 4) (u := iv pl.value) (v := iv xn) (KU := ⟨pl.status, pl.hop, pl.to, nv, xn⟩) rfl rfl rfl
       have Gx := ak GF; have Fy : Hid (∀ W, Below wq.heap.size wq W -> W.cell? ⟨pb, jj * 5 + 4, none⟩ = some (iv pl.value) /\ W.frozen? ⟨pb, jj * 5 + 4, none⟩ = false) := ak fun W hb => (GF W hb).1
       have Uv : Hid (∀ W, Below wq.heap.size wq W -> W.cell? ⟨g6, 4, none⟩ = some (.slice (some ⟨pb, 0, none⟩) np XJ)) := ak fun W hb => by
        have h1 := (YV.o.later hb).own.br.cell (j := 4) rfl; rw [HPP.o, XD.o, HYP.o] at h1; exact h1
       have HIT : Hid (∀ W, Below wq.heap.size wq W -> W.cell? ⟨ib, io + ii * 5, none⟩ = some (iv (jj : Int)) /\ W.cell? ⟨ib, io + ii * 5 + 4, none⟩ = some (iv xn)) := ak fun W hb => Tv.o W (YJ.o.trans (S' := fun _ => False) (Only.of_below hb) fun _ _ e => e.elim)
       clear GF
       go_upto_region 65 with (fail)
       refine N.bk (by kernel_rfl) (fun i => ([some (.pointer (some ⟨g6, 4, none⟩)), some (.slice (some ⟨pb, 0, none⟩) np XJ), some (.slice (some ⟨ib, io, none⟩) m lc), some (iv (ii : Int)), some (.pointer (some ⟨ib, io + ii * 5, none⟩)), some (.pointer (some ⟨ib, io + ii * 5, none⟩)), some (iv (jj : Int)), some (.slice (some ⟨ib, io, none⟩) m lc), some (iv (ii : Int)), some (.pointer (some ⟨ib, io + ii * 5, none⟩)), some (.pointer (some ⟨ib, io + ii * 5 + 4, none⟩)), some (iv xn), some (.pointer (some ⟨pb, jj * 5, none⟩)), some (.pointer (some ⟨pb, jj * 5 + 4, none⟩)), none] : List (Option Value)).getD i none) (fun D V W => ((D 14) = false -> Below wq.heap.size wq W) /\ ((D 14) = true -> ∃ W0, Below wq.heap.size wq W0 /\ W = W0.setCell ⟨pb, jj * 5 + 4, none⟩ (iv xn))) (fun V => [(some 310, V 0), (some 311, V 1), (some 312, V 2), (some 313, V 3), (some 314, V 4), (some 315, V 5), (some 316, V 6), (some 317, V 7), (some 318, V 8), (some 319, V 9), (some 320, V 10), (some 321, V 11), (some 322, V 12), (some 323, V 13), (none, V 14)]) (by kernel_rfl) (by kernel_rfl) (fun V => rfl) ?_ ?_ ?_
       ·intro V
        exact ⟨fun _ => (Below.refl _ _).drew, fun e => (by cases e)⟩
       ·intro i o ho
        have hi : i < 15 := (Array.getElem?_eq_some_iff.1 ho).1; rcases i with _ | _ | _ | _ | _ | _ | _ | _ | _ | _ | _ | _ | _ | _ | _ | i
        rotate_right
        ·omega
        all_goals obtain rfl := Option.some.inj ho
        all_goals intro D V ρ wi hE hI cP hT hF hs hd hk
        all_goals (have e17 : ρ (.tmp 17) = .slice (some ⟨ib, io, none⟩) m lc := hs 17; have e18 : ρ (.tmp 18) = iv (ii : Int) := hs 18)
        ·have e6 : ρ (.tmp 6) = (au g6) := hs 6; clear hT hF hk
         exact N.gi _ ⟨fun _ => N.oi, hI⟩
        ·have aeO := (hd 0 310).trans (hk 0 _ rfl); have eJ : D 14 = false := hF 1 14; clear hT hF; have hL : Below wq.heap.size wq wi := hI.1 eJ; have x0 := Uv.o wi hL
         exact N.gi _ ⟨fun _ => N.oi, hI⟩
        ·clear hT hF hk
         exact N.gi _ ⟨fun _ => N.oi, hI⟩
        ·clear hT hF hk
         exact N.gi _ ⟨fun _ => N.oi, hI⟩
        ·have aeM := (hd 2 312).trans (hk 2 _ rfl); have aeL := (hd 3 313).trans (hk 3 _ rfl); clear hT hF
         have z1 : (0 : Int) <= (ii : Int) := by omega
         have z2 : (ii : Int) < (m : Int) := by have := XG.o; omega
         exact N.gi _ ⟨fun _ => N.oi, hI⟩
        ·have aeK := (hd 4 314).trans (hk 4 _ rfl); clear hT hF hk
         exact N.gi _ ⟨fun _ => N.oi, hI⟩
        ·have aeJ := (hd 5 315).trans (hk 5 _ rfl); have eJ : D 14 = false := hF 1 14; clear hT hF; have hL : Below wq.heap.size wq wi := hI.1 eJ; have x0 := (HIT.o wi hL).1
         exact N.gi _ ⟨fun _ => N.oi, hI⟩
        ·clear hT hF hk
         exact N.gi _ ⟨fun _ => N.oi, hI⟩
        ·clear hT hF hk
         exact N.gi _ ⟨fun _ => N.oi, hI⟩
        ·have aeH := (hd 7 317).trans (hk 7 _ rfl); have aeG := (hd 8 318).trans (hk 8 _ rfl); clear hT hF
         have z1 : (0 : Int) <= (ii : Int) := by omega
         have z2 : (ii : Int) < (m : Int) := by have := XG.o; omega
         exact N.gi _ ⟨fun _ => N.oi, hI⟩
        ·have aeF := (hd 9 319).trans (hk 9 _ rfl); clear hT hF hk
         exact N.gi _ ⟨fun _ => N.oi, hI⟩
        ·have aeE := (hd 10 320).trans (hk 10 _ rfl); have eJ : D 14 = false := hF 1 14; clear hT hF; have hL : Below wq.heap.size wq wi := hI.1 eJ; have x0 := (HIT.o wi hL).2
         exact N.gi _ ⟨fun _ => N.oi, hI⟩
        ·have aeN := (hd 1 311).trans (hk 1 _ rfl); have aeI := (hd 6 316).trans (hk 6 _ rfl); clear hT hF
         have z1 : (0 : Int) <= (jj : Int) := by omega
         have z2 : (jj : Int) < (np : Int) := by have := YR.o; omega
         exact N.gi _ ⟨fun _ => N.oi, hI⟩
        ·have aeD := (hd 12 322).trans (hk 12 _ rfl); clear hT hF hk
         exact N.gi _ ⟨fun _ => N.oi, hI⟩
        have aeC := (hd 13 323).trans (hk 13 _ rfl); have e321 := (hd 11 321).trans (hk 11 _ rfl); have eJ : D 14 = false := cP; clear hT hF; have hL : Below wq.heap.size wq wi := hI.1 eJ; have x1 := (Fy.o wi hL).1; have x2 := (Fy.o wi hL).2
        exact N.Gives.skip (w' := wi.setCell ⟨pb, jj * 5 + 4, none⟩ (iv xn)) (by go_simp) ⟨fun x h => (by cases h), by show (true = false -> Below wq.heap.size wq (wi.setCell ⟨pb, jj * 5 + 4, none⟩ (iv xn))) /\ (true = true -> ∃ W0, Below wq.heap.size wq W0 /\ (wi.setCell ⟨pb, jj * 5 + 4, none⟩ (iv xn)) = W0.setCell ⟨pb, jj * 5 + 4, none⟩ (iv xn)); exact ⟨fun e => (by cases e), fun _ => ⟨wi, hL, rfl⟩⟩⟩
       intro V wf hk hI
       simp only [N.aP, List.foldl_cons, List.foldl_nil, Act.put, List.setIfInBounds_toArray, List.set_cons_succ, List.set_cons_zero]; replace hI : (true = false -> Below wq.heap.size wq wf) /\ (true = true -> ∃ W0, Below wq.heap.size wq W0 /\ wf = W0.setCell ⟨pb, jj * 5 + 4, none⟩ (iv xn)) := hI; clear hk; obtain ⟨W0, hb0, hwf⟩ := hI.2 rfl; have hp0 := (Gx.o W0 hb0).2; rw [<- hwf, <- Bo.o] at hp0; have Vs := ak hp0.1; have Lh : Hid (Only (fun q => some q = blk y.P) wl wf) := ak (YJ.o.trans ((Only.of_below hb0).trans hp0.2 fun _ _ e => e) fun _ _ e => e); clear hI hb0 hwf hp0 Gx Fy Uv HIT Tv YV YJ; have hlt := XG.o
       go_wp2_with fail
       go_roundw
       case rel => exact ⟨ii + 1, by go_num, by omega, fun e => (by cases e), Vs, Lh⟩
       case measure => simp [intOf]; omega
    obtain rfl : ii = m := by omega
    have htk : its.take ii = its := List.take_of_length_le (by rw [HM.o]; exact Nat.le_refl _); rw [htk] at Gd; have HEX : Hid (Fi B0 w0 g2 g6 (if yv = true then aO s its else s) y wq) := ak (by
     cases yv with
     | true => exact Gd.o
     | false =>
      obtain rfl := hy0 rfl; rw [show its = [] from List.length_eq_zero_iff.1 HM.o] at Gd
      exact Gd.o)
    clear htk Gd
    go_wp2_with fail
    go_meet
    exact ⟨HEX, KG⟩
  obtain ⟨eY, HOC⟩ := hcut; clear x3 c5 z1 z2; obtain ⟨sw, hsw⟩ : ∃ x, (if yv = true then aO s its else s) = x := ⟨_, rfl⟩; rw [hsw] at eY; have Ut : Hid (sw.ay = s.ay /\ sw.dec = s.dec /\ sw = (if r.yes = true then aO s its else s)) := ak (by
   rw [Uo.o, <- hsw]; refine ⟨?_, ?_, rfl⟩
   ·cases yv with
    | true => exact (cg s its).1
    | false => rfl
   cases yv with
   | true => exact (cg s its).2.1
   | false => rfl)
  clear hsw; obtain ⟨we, jf⟩ := aj wc; subst jf; obtain ⟨zl, hzl⟩ := ah (sw.ay.zip y.ps); obtain ⟨k1, hk1⟩ := ah (k + 1); obtain ⟨px, hpx⟩ : ∃ x : PL, x = (jy r, z) := ⟨_, rfl⟩; clear hpx; have F5 : Hid (zl.length = nq /\ zl.map Prod.fst = s.ay) := ak (by
   have h1 := eY.o.own.lists.ps; refine ⟨?_, ?_⟩
   ·rw [<- hzl, List.length_zip, h1, Ut.o.1, Nat.min_self]; exact Li.o
   rw [<- hzl, zip_fst h1]; exact Ut.o.1)
  have Ge : Hid (∀ wi, Below we.heap.size we wi -> Sl wi (some ⟨qb, 0, none⟩) 5 (zl.map pv)) := ak fun wi hb => by
   have h1 := (eY.o.later hb).W8; rw [Le.o, hzl] at h1; exact h1
  have XF : Hid (∀ p ∈ zl, Fr (fun j => uM B0 g6 j \/ rowsOf y j) we p.1.items p.1.nodes p.2) := ak (by
   rw [<- hzl]; exact eY.o.K9)
  have zo : Hid (∀ wi, Below we.heap.size we wi -> Cells wi g6 41 (sw.vals y)) := ak fun wi hb => (eY.o.later hb).own.br
  have jt : Hid (∀ wi, Below we.heap.size we wi -> wi.cell? ⟨g6, 5, none⟩ = some (.slice (some ⟨qb, 0, none⟩) nq qc)) := ak fun wi hb => by
   have h1 := (zo.o wi hb).cell (j := 5) rfl; rw [Le.o, Ut.o.1, Li.o, Xz.o] at h1; exact h1
  have La : Hid (∀ wi, Below we.heap.size we wi -> Sl wi (some ⟨qb, 0, none⟩) 5 ((zl.take k).map pv)) := ak fun wi hb => by rw [List.map_take]; exact mC (Ge.o wi hb) k
  have zV : Hid (∃ AD : Addr, (if qc = k1 then some ⟨qb, 0, none⟩ else some ⟨qb, k1 * 5, none⟩ : Option Addr) = some AD /\ ∀ wi, Below we.heap.size we wi -> Sl wi (some AD) 5 ((zl.drop k1).map pv)) := ak (by
   by_cases he : qc = k1
   ·refine ⟨_, if_pos he, fun wi hb => ?_⟩
    have h0 : zl.drop k1 = [] := List.drop_eq_nil_iff.2 (by have := F5.o; have := F8.o; omega)
    rw [h0]; exact gN _ _ _
   refine ⟨_, if_neg he, fun wi hb => ?_⟩
   have := mD (Ge.o wi hb) k1; rw [Nat.zero_add] at this; rw [List.map_drop]; exact this)
  obtain ⟨AD, FZ, FX⟩ := zV.o; have HAD := ak FZ; have Lr := ak FX; have HQ : Hid (k <= nq /\ nq <= qc /\ nq <= 512 /\ (zl.take k).length = k /\ (zl.drop k1).length = nq - k1 /\ k1 <= nq /\ zl.length = nq) := ak ⟨by omega, F8.o.1, F8.o.2, by rw [List.length_take, F5.o.1]; omega, by rw [List.length_drop, F5.o.1], by omega, F5.o.1⟩; have HKW : Hid (IntKind.i64.wrap ((k : Int) + 1) = (k1 : Int)) := ak (by rw [IntKind.wrap_i64]; have := HQ.o; omega); clear FZ FX hzl
  go_upto_region 66 with (fail)
  refine N.bk (by kernel_rfl) (fun i => ([none, some (.pointer (some ⟨g6, 5, none⟩)), some (.slice (some ⟨qb, 0, none⟩) nq qc), some (iv (k : Int)), some (.slice (some ⟨qb, 0, none⟩) k qc), none, some (.pointer (some ⟨g6, 5, none⟩)), some (.slice (some ⟨qb, 0, none⟩) nq qc), some (iv (k : Int)), some (iv (k1 : Int)), some (.slice (some AD) (nq - k1) (qc - k1)), none, some (.pointer (some ⟨g6, 5, none⟩)), none] : List (Option Value)).getD i none) (fun D V W => ((D 13) = false -> dG 71 5 pv we (D 0) (cond (D 11) (V 11) (cond (D 5) (V 5) (V 0))) (cond (D 11) ((zl.take k) ++ (zl.drop k1)) (cond (D 5) (zl.take k) [])) false undef px W) /\ ((D 13) = true -> ∃ W0 A n c, dG 71 5 pv we true (.slice A n c) ((zl.take k) ++ (zl.drop k1)) false undef px W0 /\ W = W0.setCell ⟨g6, 5, none⟩ (.slice A n c))) (fun V => [(some 324, V 0), (some 325, V 1), (some 326, V 2), (some 327, V 3), (some 328, V 4), (some 329, V 5), (some 330, V 6), (some 331, V 7), (some 332, V 8), (some 333, V 9), (some 334, V 10), (some 335, V 11), (some 336, V 12), (none, V 13)]) (by kernel_rfl) (by kernel_rfl) (fun V => rfl) ?_ ?_ ?_
  ·intro V
   exact ⟨fun _ => dG.start (Below.refl _ _).drew _ _ _ _, fun e => (by cases e)⟩
  ·intro i o ho
   have hi : i < 14 := (Array.getElem?_eq_some_iff.1 ho).1; rcases i with _ | _ | _ | _ | _ | _ | _ | _ | _ | _ | _ | _ | _ | _ | i
   rotate_right
   ·omega
   all_goals obtain rfl := Option.some.inj ho
   all_goals intro D V ρ wi hE hI cP hT hF hs hd hk
   all_goals (have e6 : ρ (.tmp 6) = (au g6) := hs 6; have e16 : ρ (.tmp 16) = iv (k : Int) := hs 16)
   ·have iL : D 0 = false := cP; have dg : D 5 = false := hF 1 5; have fK : D 11 = false := hF 2 11; have dD : D 13 = false := hF 1 13; clear hT hF; have h1 := hI.1 dD
    rw [iL, dg, fK] at h1; simp only [cond_false] at h1; exact N.Gives.value (v := .slice (some ⟨wi.heap.size, 0, none⟩) 0 0) (w' := wi.alloc (.cells #[] 71)) (by go_simp) ⟨fun x h => (by cases h), by show ((D 13) = false -> dG 71 5 pv we true (cond (D 11) (V 11) (cond (D 5) (V 5) (Value.slice (some ⟨wi.heap.size, 0, none⟩) 0 0))) (cond (D 11) ((zl.take k) ++ (zl.drop k1)) (cond (D 5) (zl.take k) [])) false undef px (wi.alloc (.cells #[] 71))) /\ ((D 13) = true -> ∃ W0 A n c, dG 71 5 pv we true (.slice A n c) ((zl.take k) ++ (zl.drop k1)) false undef px W0 /\ (wi.alloc (.cells #[] 71)) = W0.setCell ⟨g6, 5, none⟩ (.slice A n c)); rw [dg, fK]; simp only [cond_false]; exact ⟨fun _ => h1.W9, fun e => (by rw [dD] at e; cases e)⟩⟩
   ·clear hT hF hk
    exact N.gi _ ⟨fun _ => N.oi, hI⟩
   ·have aeB := (hd 1 325).trans (hk 1 _ rfl); have dD : D 13 = false := hF 1 13; clear hT hF; have hL : Below we.heap.size we wi := (hI.1 dD).low; have x0 := jt.o _ hL
    exact N.gi _ ⟨fun _ => N.oi, hI⟩
   ·clear hT hF hk
    exact N.gi _ ⟨fun _ => N.oi, hI⟩
   ·have aeA := (hd 2 326).trans (hk 2 _ rfl); have aez := (hd 3 327).trans (hk 3 _ rfl); clear hT hF
    have z0 : (0 : Int) <= (k : Int) := by omega
    have z1 : (k : Int) <= (qc : Int) := by have := HQ.o; omega
    have z2 : k <= qc := by have := HQ.o; omega
    exact N.gi _ ⟨fun _ => N.oi, hI⟩
   ·have Zw : ρ (.tmp 324) = V 0 := hd 0 324; have Zv := (hd 4 328).trans (hk 4 _ rfl); have iL : D 0 = true := hT 1 0; have dg : D 5 = false := cP; have fK : D 11 = false := hF 1 11; have dD : D 13 = false := hF 1 13; clear hT hF; have h1 := hI.1 dD
    rw [iL, dg, fK] at h1
    try simp only [cond_false] at h1
    try simp only [cond_true] at h1
    obtain ⟨A2, n2, c2, w2, hrun, hn⟩ := dG.app (fM 1) qD h1 (m := zl.take k) (La.o wi h1.low) (fun e => by cases e) (by have := HQ.o; simp; omega)
    rw [HQ.o.2.2.2.1] at hrun; rw [List.nil_append] at hn; exact N.Gives.value (v := .slice A2 n2 c2) (w' := w2) (N.cH rfl Zw Zv hrun) ⟨fun x h => (by cases h), by show ((D 13) = false -> dG 71 5 pv we (D 0) (cond (D 11) (V 11) (cond true (Value.slice A2 n2 c2) (V 0))) (cond (D 11) ((zl.take k) ++ (zl.drop k1)) (cond true (zl.take k) [])) false undef px w2) /\ ((D 13) = true -> ∃ W0 A n c, dG 71 5 pv we true (.slice A n c) ((zl.take k) ++ (zl.drop k1)) false undef px W0 /\ w2 = W0.setCell ⟨g6, 5, none⟩ (.slice A n c)); rw [iL, fK]; (try simp only [cond_false]); (try simp only [cond_true]); exact ⟨fun _ => hn, fun e => (by rw [dD] at e; cases e)⟩⟩
   ·clear hT hF hk
    exact N.gi _ ⟨fun _ => N.oi, hI⟩
   ·have aey := (hd 6 330).trans (hk 6 _ rfl); have dD : D 13 = false := hF 1 13; clear hT hF; have hL : Below we.heap.size we wi := (hI.1 dD).low; have x0 := jt.o _ hL
    exact N.gi _ ⟨fun _ => N.oi, hI⟩
   ·clear hT hF hk
    exact N.gi _ ⟨fun _ => N.oi, hI⟩
   ·have aew := (hd 8 332).trans (hk 8 _ rfl); have hc := hE.const; clear hT hF; have z0 := HKW.o
    exact N.gi _ ⟨fun _ => N.oi, hI⟩
   ·have aex := (hd 7 331).trans (hk 7 _ rfl); have aev := (hd 9 333).trans (hk 9 _ rfl); clear hT hF
    have z1 : k1 <= nq := by have := HQ.o; omega
    have z2 : k1 <= qc := by have := HQ.o; omega
    have z3 : (0 : Int) <= (k1 : Int) := by omega
    have z4 : (k1 : Int) <= (nq : Int) := by have := HQ.o; omega
    have z5 := HAD.o; exact N.gi _ ⟨fun _ => N.oi, hI⟩
   ·have Zu : ρ (.tmp 329) = V 5 := hd 5 329; have Zt := (hd 10 334).trans (hk 10 _ rfl); have iL : D 0 = true := hT 2 0; have dg : D 5 = true := hT 1 5; have fK : D 11 = false := cP; have dD : D 13 = false := hF 1 13; clear hT hF; have h1 := hI.1 dD
    rw [iL, dg, fK] at h1
    try simp only [cond_false] at h1
    try simp only [cond_true] at h1
    obtain ⟨A2, n2, c2, w2, hrun, hn⟩ := dG.app (fM 1) qD h1 (m := zl.drop k1) (Lr.o wi h1.low) (fun e => by cases e) (by have := HQ.o; simp; omega)
    rw [HQ.o.2.2.2.2.1] at hrun; exact N.Gives.value (v := .slice A2 n2 c2) (w' := w2) (N.cH rfl Zu Zt hrun) ⟨fun x h => (by cases h), by show ((D 13) = false -> dG 71 5 pv we (D 0) (cond true (Value.slice A2 n2 c2) (cond (D 5) (V 5) (V 0))) (cond true ((zl.take k) ++ (zl.drop k1)) (cond (D 5) (zl.take k) [])) false undef px w2) /\ ((D 13) = true -> ∃ W0 A n c, dG 71 5 pv we true (.slice A n c) ((zl.take k) ++ (zl.drop k1)) false undef px W0 /\ w2 = W0.setCell ⟨g6, 5, none⟩ (.slice A n c)); rw [iL, dg]; (try simp only [cond_false]); (try simp only [cond_true]); exact ⟨fun _ => hn, fun e => (by rw [dD] at e; cases e)⟩⟩
   ·clear hT hF hk
    exact N.gi _ ⟨fun _ => N.oi, hI⟩
   have aeu := (hd 12 336).trans (hk 12 _ rfl); have Zr : ρ (.tmp 335) = V 11 := hd 11 335; have iL : D 0 = true := hT 1 0; have dg : D 5 = true := hT 1 5; have fK : D 11 = true := hT 1 11; have dD : D 13 = false := cP; clear hT hF; have h1 := hI.1 dD
   rw [iL, dg, fK] at h1; simp only [cond_true] at h1; obtain ⟨A2, c2, hv⟩ := bD (h1.acc rfl); obtain ⟨n3, t_⟩ := ah (((zl.take k) ++ (zl.drop k1)).length); rw [t_] at hv; rw [hv] at Zr h1; have hcs := zo.o _ h1.low; have x1 := hcs.cell (j := 5) rfl; have x2 := hcs.frozen (j := 5) (by unfold St.vals; simp); exact N.Gives.skip (w' := wi.setCell ⟨g6, 5, none⟩ (.slice A2 n3 c2)) (by go_simp) ⟨fun x h => (by cases h), by show (true = false -> dG 71 5 pv we (D 0) (cond (D 11) (V 11) (cond (D 5) (V 5) (V 0))) (cond (D 11) ((zl.take k) ++ (zl.drop k1)) (cond (D 5) (zl.take k) [])) false undef px (wi.setCell ⟨g6, 5, none⟩ (.slice A2 n3 c2))) /\ (true = true -> ∃ W0 A n c, dG 71 5 pv we true (.slice A n c) ((zl.take k) ++ (zl.drop k1)) false undef px W0 /\ (wi.setCell ⟨g6, 5, none⟩ (.slice A2 n3 c2)) = W0.setCell ⟨g6, 5, none⟩ (.slice A n c)); exact ⟨fun e => (by cases e), fun _ => ⟨wi, A2, n3, c2, h1, rfl⟩⟩⟩
  intro V wf hk hI
  simp only [N.aP, List.foldl_cons, List.foldl_nil, Act.put, List.setIfInBounds_toArray, List.set_cons_succ, List.set_cons_zero]; replace hI : (true = false -> dG 71 5 pv we true (cond true (V 11) (cond true (V 5) (V 0))) (cond true ((zl.take k) ++ (zl.drop k1)) (cond true (zl.take k) [])) false undef px wf) /\ (true = true -> ∃ W0 A n c, dG 71 5 pv we true (.slice A n c) ((zl.take k) ++ (zl.drop k1)) false undef px W0 /\ wf = W0.setCell ⟨g6, 5, none⟩ (.slice A n c)) := hI; clear hk; obtain ⟨W0, A9, n9, c9, hap, hwf⟩ := hI.2 rfl; have hrow := hap.acc rfl; obtain ⟨tZ, hnew⟩ := eY.o.D2 hap.low (zl.take k ++ zl.drop k1) hrow (fun p hp => XF.o p (by
   rcases List.mem_append.1 hp with h1 | h1
   ·exact List.mem_of_mem_take h1
   exact List.mem_of_mem_drop h1))
  rw [<- hwf] at hnew; have hrc : Cells wf (g2 + 1) 55 (r.vals z) := by
   have h1 := aJ (aJ aN.o.dF HOC.o (by intro e; have := WD.o _ e; omega)) (Only.of_below (S := fun _ => False) hap.low) (fun e => e); rw [hwf]; exact aJ h1 (Only.b_ W0 ⟨g6, 5, none⟩ _) (by show ¬ g2 + 1 = g6; have := aN.o.fi.gt; omega)
  obtain ⟨s3, hs3⟩ : ∃ x, ({ sw with ay := (zl.take k ++ zl.drop k1).map Prod.fst } : St) = x := ⟨_, rfl⟩; obtain ⟨y3, W_⟩ : ∃ x, ({ y with Q := A9, q := c9, ps := (zl.take k ++ zl.drop k1).map Prod.snd } : Sy) = x := ⟨_, rfl⟩; rw [hs3, W_] at hnew; have JL := ak hnew; have hd3 : s3.dec = s.dec := by rw [<- hs3]; exact Ut.o.2.1
  obtain ⟨_, _, ⟨gl, hD, hcd⟩, _⟩ := aN.o.there; have HD : Hid (y3.D = some ⟨gl, 0, none⟩) := ak (by rw [<- W_]; exact hD); have Vw : Hid (s3.dec.length <= y3.d) := ak (by rw [hd3, <- W_]; exact hcd); have HL9 : Hid (s3.dec.length <= 900) := ak (by rw [hd3]; have := aN.o.gd.room; omega); have HMO : Hid (∀ a b : Nat, a <= b -> ((s3.dec.map fun x => ord x.tid r.tid)[b]?).getD 0 < 0 -> ((s3.dec.map fun x => ord x.tid r.tid)[a]?).getD 0 < 0) := ak (by rw [hd3]; exact sY aN.o.gd r.tid); have kX : Hid (aC s r = ({ s3 with dec := gI s3.dec (De.mk r.tid r.yes) }, 0)) := ak (by
   have hpi : bV s k = its := by
    unfold bV; rw [List.getElem?_eq_getElem wV.o]; exact HITS.o
   have hcut : (zl.take k ++ zl.drop k1).map Prod.fst = cut s.ay k := by
    rw [List.map_append, List.map_take, List.map_drop, F5.o.2, <- hk1]
    rfl
   rw [HF.o]; unfold cK; rw [wW.o, if_neg (by omega), Int.toNat_natCast, hpi, <- Ut.o.2.2, Ut.o.1, <- hcut, hs3]
   rfl)
  have q1 := hrc.cell (j := 1) rfl; have q2 := hrc.cell (j := 2) rfl; have q3 := hrc.cell (j := 3) rfl; have wI := hrc.cell (j := 14) rfl; clear hI hap hwf hrow tZ hnew hrc hs3 W_ hd3 hD hcd
  go_upto_region 67 with (fail)
  apply wp_region_lit
  refine aD rfl 41 _ rfl g6 (s3.va y3) rfl rfl (JL.o.own.br) Tryz.underlying41 rfl (by kernel_rfl) ?_
  go_wp2_with fail
  refine (kF s3 y3 r.tid r.yes wf JL.o.own.sees gl HD.o Vw.o HL9.o HMO.o).mono ?_; rintro e w1 ⟨⟨A9, c9, rfl, hrow⟩, hb1⟩; have dW := ak hrow; have fW := ak hb1; have aaA := ak (JL.o.later hb1); clear hrow hb1; rename_i zy; refine zy _ _ ?_; clear zy; refine aA rfl 41 _ _ rfl (g2 + 2) #[iv s3.node, iv s3.nodes, iv s3.cells, iv s3.epoch, .slice y3.P s3.places.length y3.p, .slice y3.Q s3.ay.length y3.q, .slice A9 (gI s3.dec (De.mk r.tid r.yes)).length c9, .slice y3.C s3.com.length y3.c] [iv s3.node, iv s3.nodes, iv s3.cells, iv s3.epoch, .slice y3.P s3.places.length y3.p, .slice y3.Q s3.ay.length y3.q, .slice A9 (gI s3.dec (De.mk r.tid r.yes)).length c9, .slice y3.C s3.com.length y3.c] rfl rfl rfl aaA.o.res rfl (by kernel_rfl) (by kernel_rfl) fun w5 hpt hov => ?_
  have bU := ak hpt; have cj := ak hov; clear hpt hov
  go_wp2_with fail
  refine bodyPost_ret (v := .tuple #[.agg #[iv s3.node, iv s3.nodes, iv s3.cells, iv s3.epoch, .slice y3.P s3.places.length y3.p, .slice y3.Q s3.ay.length y3.q, .slice A9 (gI s3.dec (De.mk r.tid r.yes)).length c9, .slice y3.C s3.com.length y3.c], iv 0]) ((aI (p := 4) (q := 5) (ty := 41) (by rfl) _ bU.o _ (by rfl) Tryz.underlying41 rfl (by kernel_rfl)).trans (by rfl)) rfl ?_; exact Hl JL.o fW.o dW.o cj.o (kX.o)
 have fL := ak (iu.o hk)
 go_wp2_with fail
 exact ju.o _ _ (by apply fL.o _ aN.o _ (by kernel_rfl))
