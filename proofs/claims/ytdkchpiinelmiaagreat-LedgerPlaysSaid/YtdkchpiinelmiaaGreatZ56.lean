/-
  Layer 8: the program's state and the document's, record by record: LedgerPlays.
  Conditions: none.
-/
import Derived.Test.YtdkchpiinelmiaaGreatZ55
import Derived.Test.YtdkchpiinelmiaaGreatZ48
import Derived.Test.YtdkchpiinelmiaaGreatZ50
import Derived.Test.YtdkchpiinelmiaaGreatZ52
import Derived.Test.YtdkchpiinelmiaaGreatZ37
namespace Go.Proofs.YtdkchpiinelmiaaGreat.Rec
set_option maxRecDepth 100000
open Go.RowKit Mem fN
theorem kS {r : Rc} {l : List Int} (h : fE r l = false) (f : Nat) (hf : f < 12) (hn : (f : Int) ∉ l) : (hasB r)[f]'(by rw [dY]; exact hf) = false := by
  unfold fE left at h; rw [List.any_eq_false] at h; have h1 := h (((hasB r)[f]'(by rw [dY]; omega)) && !decide ((f : Int) ∈ l.take l.length)) (by
    rw [List.mem_mapIdx]; exact ⟨f, by rw [dY]; omega, rfl⟩)
  rw [List.take_length, decide_eq_false hn] at h1
  simpa using h1
theorem yH {r : Rc} {l : List Int} (h : fE r l = false) (f : Nat) (hf : f < 8) (hn : (f : Int) ∉ l) : r.get f = 0 := by
  unfold fE left at h; rw [List.any_eq_false] at h; have h1 := h (((hasB r)[f]'(by rw [dY]; omega)) && !decide ((f : Int) ∈ l.take l.length)) (by
    rw [List.mem_mapIdx]; exact ⟨f, by rw [dY]; omega, rfl⟩)
  rw [List.take_length, decide_eq_false hn] at h1; rcases Ug hf with rfl | rfl | rfl | rfl | rfl | rfl | rfl | rfl <;> simpa [hasB, Rc.get, Rc.jN] using h1
theorem Hg {r : Rc} : Fm r 8 = false ↔ ∀ m : Nat, m < 8 -> ((m : Int) + 1) ∉ rl r.kind -> r.get m = 0 := by
  unfold Fm; rw [List.any_eq_false]
  constructor
  · intro h m hm hn
    have := h m (List.mem_range.2 hm); rw [decide_eq_false hn] at this
    simpa using this
  intro h m hm
  by_cases hn : ((m : Int) + 1) ∈ rl r.kind
  · rw [decide_eq_true hn]; simp
  rw [h m (List.mem_range.1 hm) hn]; simp
theorem uE {r : Rc} {l : List Int} : fE r l = false ↔ (∀ m : Nat, m < 8 -> (m : Int) ∉ l -> r.get m = 0) /\ (8 ∉ l -> KT r.tid = true) /\ (9 ∉ l -> r.items.length = 0) /\ (10 ∉ l -> r.nodes.length = 0) /\ (11 ∉ l -> r.yes = false) := by
  constructor
  · intro h
    refine ⟨fun m hm hn => yH h m hm hn, fun hn => ?_, fun hn => ?_, fun hn => ?_, fun hn => ?_⟩
    · simpa [hasB] using kS h 8 (by decide) hn
    · simpa [hasB] using kS h 9 (by decide) hn
    · simpa [hasB] using kS h 10 (by decide) hn
    simpa [hasB] using kS h 11 (by decide) hn
  rintro ⟨h, h8, h9, h10, h11⟩
  unfold fE left; rw [List.any_eq_false]; intro x hx; rw [List.mem_mapIdx] at hx; obtain ⟨j, hj, rfl⟩ := hx; rw [List.take_length]
  by_cases hm : (j : Int) ∈ l
  · rw [decide_eq_true hm]; simp
  rw [decide_eq_false hm]
  rw [dY] at hj; have hz : (hasB r)[j]'(by rw [dY]; exact hj) = false := by
    rcases (show j < 8 \/ j = 8 \/ j = 9 \/ j = 10 \/ j = 11 by omega) with hlt | rfl | rfl | rfl | rfl
    · have := h j hlt hm
      rcases Ug hlt with rfl | rfl | rfl | rfl | rfl | rfl | rfl | rfl <;> simpa [hasB, Rc.get, Rc.jN] using this
    · simpa [hasB] using h8 hm
    · simpa [hasB] using h9 hm
    · simpa [hasB] using h10 hm
    simpa [hasB] using h11 hm
  simp [hz]
theorem Zq {P : Nat -> Prop} : (∀ m : Nat, m < 8 -> P m) ↔ P 0 /\ P 1 /\ P 2 /\ P 3 /\ P 4 /\ P 5 /\ P 6 /\ P 7 := by
  constructor
  · intro h
    exact ⟨h 0 (by decide), h 1 (by decide), h 2 (by decide), h 3 (by decide), h 4 (by decide), h 5 (by decide), h 6 (by decide), h 7 (by decide)⟩
  rintro ⟨h0, h1, h2, h3, h4, h5, h6, h7⟩ m hm
  rcases Ug hm with rfl | rfl | rfl | rfl | rfl | rfl | rfl | rfl <;> assumption
set_option maxHeartbeats 4000000 in
theorem yB (r : Rc) (ok : r.ok) : kA r = right r := by
  have hv := ok.value; rw [Bool.eq_iff_iff]; clear ok; obtain ⟨k, t, its, tT, a0, a1, a2, a3, a4, a5, a6, a7, yes⟩ := r; simp only [lW] at hv; have hn : bn [] = true := rfl; have hl : its = [] ↔ its.length = 0 := List.length_eq_zero_iff.symm; unfold kA right
  by_cases hk : 1 <= k /\ k <= 12
  · rw [decide_eq_true hk]
    simp only [Bool.true_and, Bool.and_eq_true, Bool.not_eq_true', Hg, uE, Zq]; rcases (show k = 1 \/ k = 2 \/ k = 3 \/ k = 4 \/ k = 5 \/ k = 6 \/ k = 7 \/ k = 8 \/ k = 9 \/ k = 10 \/ k = 11 \/ k = 12 by omega) with rfl | rfl | rfl | rfl | rfl | rfl | rfl | rfl | rfl | rfl | rfl | rfl
    all_goals clear hk
    all_goals simp [rl, fl, rf, iP, fQ, named, p3, p4, p5, p6, p7, DZ, Rc.get, Rc.jN]
    all_goals grind
  rw [decide_eq_false hk]
  simp
end Go.Proofs.YtdkchpiinelmiaaGreat.Rec
namespace Go.Proofs.YtdkchpiinelmiaaGreat.Led
set_option maxRecDepth 100000
open Go.RowKit Go.Deep Mem fN Rec
theorem copied {B0 : Nat} {w0 wd w' wr : World} {g2 g6 : Nat} {s : St} {y z' : Sy} {gq : Nat} (h : fZ B0 gq w0 s y) (hg : w0.heap.size = g2) (wR : B0 <= g2) (hd : Below w0.heap.size w0 wd) (hdz : g2 + 3 <= wd.heap.size) (hl : fq (fun k => wd.heap.size <= k) wd.heap.size w' s z') (hps : z'.ps = y.ps) (hcs : z'.cs = y.cs) (hb : Below wd.heap.size wd w') (h6 : w'.heap.size = g6)
  (hb2 : Below w'.heap.size w' wr) (hc : Cells wr g6 41 (s.vals z')) (hres : Cells wr (g2 + 2) 41 tS) : Fi B0 w0 g2 g6 s z' wr := by
 have hz := hb.size; have hz2 := hb2.size; have hall : Below w0.heap.size w0 wr := hd.trans ((hb.mono (by omega)).trans (hb2.mono (by omega))); have hl2 := hl.later hb2; have hrow : ∀ k, rowsOf z' k -> wd.heap.size <= k /\ k < w'.heap.size := fun k e => hl.lt e
 have hfr : ∀ {x : List It} {n : List Int} {lay : Lay}, Fr (fun j => B0 <= j) w0 x n lay -> Fr (fun j => uM B0 g6 j \/ rowsOf z' j) wr x n lay := fun ht => ht.next (Only.of_below (S := fun j => B0 <= j) hall) fun j e => by
  rcases e with e | e
  ·exact Or.inl e
  exact Or.inl (by have := (hrow j e).1; omega)
 refine ⟨hall, ⟨hg, by omega, wR⟩, hres, ⟨by omega, hc, ⟨cS (by omega) hl2.rowP, cS (by omega) hl2.jk, cS (by omega) hl2.jv, cS (by omega) hl2.jw, hl2.ps, hl2.cs, fun k h1 h2 => ?_, fun k h1 h2 => ?_, hl2.PQ, hl2.PD, hl2.PC, hl2.QD, hl2.QC, hl2.DC⟩, fun e => by have := (hrow _ e).2; omega, by have := hc.lt; omega⟩, fun k hk => by have := (hrow k hk).1; omega⟩
 ·have h3 : k < y.ps.length := by rw [<- hps]; exact h2
  have e : z'.ps[k] = y.ps[k] := by simp [hps]
  rw [e]; exact hfr (h.pin k h1 h3)
 have h3 : k < y.cs.length := by rw [<- hcs]; exact h2
 have e : z'.cs[k] = y.cs[k] := by simp [hcs]
 rw [e]; exact hfr (h.cin k h1 h3)
theorem Hj {B0 : Nat} {w0 : World} {g2 g6 : Nat} {s : St} {y : Sy} {r : Rc} {z : Lay} (hr : right r = true) : je [1, 1, 1, 1, 1] B0 w0 g2 g6 s y r z :=
 Zb fun h1 => Za fun h12 => WV fun h2 => WU fun h3 => WT fun h4 => WS fun h6 => WR fun h11 => WQ fun h5 => WO fun h7 => by
  have hk := rz hr
  by_cases h8 : r.kind = 8
  ·exact J7 h8
  by_cases h9 : r.kind = 9
  ·exact J6 h9
  exact J8 (by omega)
theorem J5 {B0 : Nat} {w0 wr wq : World} {g2 : Nat} {s : St} {r : Rc} (hl : Below w0.heap.size w0 wr) (hg : w0.heap.size = g2) (ho : Only (fun k => k = g2 + 2) wr wq) (hr : right r = false) : jo B0 g2 s r (.returned (.tuple #[.agg ZA, iv 1])) wq /\ Below w0.heap.size w0 wq := by
 have e1 : ko s r = (vC, 1) := by
  have h1 : aC s r = (s, 1) := by unfold aC; rw [if_pos hr]
  unfold ko; rw [h1]
  rfl
 refine ⟨⟨⟨none, 0, none, 0, none, 0, none, 0, [], []⟩, ?_, ?_⟩, hl.trans (ho.below hl.size fun k e => by omega)⟩
 ·rw [e1]; rfl
 rw [e1]; exact qR B0 g2 wq
set_option maxHeartbeats 4000000 in
theorem Ks (B0 : Nat) {gq : Nat} (s : St) (y : Sy) (r : Rc) (z : Lay) (w0 : World) (h : fZ B0 gq w0 s y) (hr : Fr (fun j => B0 <= j) w0 r.items r.nodes z) (wR : B0 <= w0.heap.size) (ok : r.ok) (hs : Small s) (hg : Good s) (r7 : r.items.length <= 1000) (hl2 : r.nodes.length <= 1000) :
  Calls Tryz.prog 11 #[s.val y, r.val z] w0 fun e w' => jo B0 w0.heap.size s r e w' /\ Below w0.heap.size w0 w' := by
 obtain ⟨wa, cM⟩ := aj (w0.alloc (.cells #[iv s.node, iv s.nodes, iv s.cells, iv s.epoch, .slice y.P s.places.length y.p, .slice y.Q s.ay.length y.q, .slice y.D s.dec.length y.d, .slice y.C s.com.length y.c] 41)); have hba : Below w0.heap.size w0 wa := by rw [cM]; exact av _ _
 have hca : Cells wa w0.heap.size 41 (s.vals y) := by rw [cM]; exact aB w0 41 _ _ rfl
 have hsa : wa.heap.size = w0.heap.size + 1 := by rw [cM]; exact World.size_alloc _ _
 obtain ⟨wb, hwb⟩ := aj (wa.alloc (.cells #[iv r.kind, iv r.tid.node, iv r.tid.epoch, iv r.tid.seq, .slice z.A r.items.length z.c, .slice z.B r.nodes.length z.d, iv r.node, iv r.count, iv r.num, iv r.cell, iv r.status, iv r.hop, iv r.version, iv r.value, .bool r.yes] 55)); have hbb : Below wa.heap.size wa wb := by rw [hwb]; exact av _ _
 have hcb : Cells wb wa.heap.size 55 (r.vals z) := by rw [hwb]; exact aB wa 55 _ _ rfl
 have hsb : wb.heap.size = w0.heap.size + 2 := by rw [hwb, World.size_alloc, hsa]
 obtain ⟨wc, hwc⟩ := aj (wb.alloc (.cells #[iv 0, iv 0, iv 0, iv 0, .slice none 0 0, .slice none 0 0, .slice none 0 0, .slice none 0 0] 41)); have hbc : Below wb.heap.size wb wc := by rw [hwc]; exact av _ _
 have hcc : Cells wc wb.heap.size 41 tS := by rw [hwc]; exact aB wb 41 _ _ rfl
 have hsc : wc.heap.size = w0.heap.size + 3 := by rw [hwc, World.size_alloc, hsb]
 obtain ⟨g2, hg2⟩ := ah w0.heap.size; rw [hsa] at hcb; rw [hsb] at hcc; rw [hg2] at hca hcb hcc hsa hsb hsc wR; have mX := ak wR; rw [show (fun e w' => jo B0 w0.heap.size s r e w' /\ Below w0.heap.size w0 w') = (fun e w' => jo B0 g2 s r e w' /\ Below w0.heap.size w0 w') from by rw [hg2]]
 have wX : Hid (Below w0.heap.size w0 wc) := ak (hba.trans ((hbb.trans (hbc.mono hbb.size)).mono hba.size)); have tY := ak ((hca.later hbb).later hbc); have wO := ak (hcb.later hbc); have zw := ak hcc; have HG2 := ak hg2; have YC := ak hsc; have D_ := ak h; have aal := ak hr; have dU := ak hs; have FC := ak hg; have hrr := vZ r z wc ⟨(hr.two.later wX.o).1, (hr.two.later wX.o).2.1⟩ r7 hl2; rw [yB r ok] at hrr; unfold Rc.val at hrr; have Xx := ak hrr; unfold St.val Rc.val; clear h hr wR ok hs hg r7 hl2 hba hbb hbc hca hcb hcc hrr
 go_enter Tryz.func11, Tryz.ntmps11
 apply wp_seq_k
 intro K0 hK0; have zG := ak hK0; clear hK0
 go_wp2_with fail
 rw [<- cM, <- hwb, <- hwc]; clear cM hwb hwc hsa hsb hsc
 try rw [show g2 + 1 + 1 = g2 + 2 from rfl]
 refine zG.o _ _ ?_; clear zG
 apply wp_seq_k
 intro K1 U1; have zF := ak U1; clear U1
 go_upto_region 1 with (fail)
 apply wp_region_lit
 refine aD rfl 55 _ rfl (g2 + 1) (r.va z) rfl rfl wO.o Tryz.underlying55 rfl (by kernel_rfl) ?_
 go_wp2_with fail
 refine Xx.o.mono ?_; rintro e wd ⟨rfl, hbd⟩; have Y3 : Hid (Below w0.heap.size w0 wd) := ak (wX.o.trans (hbd.mono wX.o.size)); have WI := ak (tY.o.later hbd); have WH := ak (wO.o.later hbd); have Tz := ak (zw.o.later hbd); have HSD : Hid (g2 + 3 <= wd.heap.size) := ak (by rw [<- YC.o]; exact hbd.size); clear hbd Xx; obtain ⟨rt, hrt⟩ := ah (right r); have iG := ak hrt; rw [hrt]; clear hrt
 cases rt with
 | false =>
  go_upto_region 2 with (fail)
  apply wp_region_lit
  refine Go.Great.wpList_runTo rfl (some 28) rfl (.agg ZA) wd (by go_simp) ?_; refine aA rfl 41 _ _ rfl (g2 + 2) ZA ZL rfl rfl rfl Tz.o rfl (by kernel_rfl) (by simp [Value.oneCell']) fun w5 hpt hov => ?_
  have bU := ak hpt; have cj := ak hov; clear hpt hov
  go_wp2_with fail
  refine bodyPost_ret (v := .tuple #[.agg ZA, iv 1]) ((aI (p := 4) (q := 5) (ty := 41) (by rfl) _ bU.o _ (by rfl) Tryz.underlying41 rfl (by kernel_rfl)).trans (by rfl)) rfl ?_; exact J5 Y3.o HG2.o cj.o iG.o
 | true =>
  go_wp2_with fail
  refine zF.o _ _ ?_; clear zF
  apply wp_seq_k
  intro K3 hK3; have DR := ak hK3; clear hK3
  go_upto_region 3 with (fail)
  apply wp_region_lit
  refine aD rfl 41 _ rfl g2 (s.va y) rfl rfl WI.o Tryz.underlying41 rfl (by kernel_rfl) ?_
  go_wp2_with fail
  refine (IX s y wd (D_.o.now.later Y3.o) dU.o).mono ?_; rintro e we ⟨⟨z', rfl, hl, Bd, hps, hcs⟩, tV⟩; obtain ⟨g6, XW⟩ := ah we.heap.size; have HG6 := ak XW; obtain ⟨wf, hwf⟩ := aj (we.alloc (.cells #[iv 0, iv 0, iv 0, iv 0, .slice none 0 0, .slice none 0 0, .slice none 0 0, .slice none 0 0] 41)); have hbf : Below we.heap.size we wf := by rw [hwf]; exact av _ _
  have hcf : Cells wf g6 41 tS := by rw [hwf, <- XW]; exact aB we 41 _ _ rfl
  have Gf := ak tV; have jM := ak hbf; have lY := ak hcf; have HL := ak hl; have Fv := ak Bd; have Uw := ak hps; have zo := ak hcs; clear hl Bd hps hcs tV hbf hcf; rename_i zy; refine zy _ _ ?_; clear zy; refine Go.Great.wpList_runTo rfl (some 6) rfl ((au g6)) wf (by rw [hwf]; go_simp) ?_; simp only [Act.put, List.setIfInBounds_toArray, List.set_cons_succ, List.set_cons_zero]; clear hwf; refine aA rfl 41 _ _ rfl g6 (s.va z') (s.vl z') rfl rfl rfl lY.o rfl (by kernel_rfl) (by kernel_rfl) fun wg hpt hov => ?_
  have aN : Hid (On B0 w0 g2 g6 s z' r z wg) := ak (by
   have tV := Gf.o; have hz6 := HG6.o; have hzd := HSD.o; have hbz := tV.size; have hBE := (jM.o.trans (hov.below jM.o.size fun k e => by omega)); have hg : ¬ g2 + 2 = g6 := by omega
   have hres : Cells wg (g2 + 2) 41 tS := aJ ((Tz.o.later tV).later jM.o) hov (by omega); have Zi : Cells wg (g2 + 1) 55 (r.vals z) := aJ ((WH.o.later tV).later jM.o) hov (by omega); have hfi := copied D_.o HG2.o mX.o Y3.o hzd HL.o Uw.o zo.o tV hz6 hBE hpt hres; exact ⟨hfi, Zi, Fv.o, by
    have := aal.o.next (Only.of_below (S := fun k => B0 <= k) hfi.low) fun j e => Or.inl e
    exact this, dU.o, FC.o, iG.o⟩)
  clear hpt hov Gf jM lY HL Fv Uw zo WI WH Tz XW
  go_wp2_with fail
  refine DR.o _ _ ?_; simp only [Act.put]; clear DR
  apply wp_seq_k
  intro K4 hK4; have UC := ak hK4; clear hK4; have c0 := aN.o.fi.own.br.cell (j := 0) rfl; have c1 := aN.o.fi.own.br.cell (j := 1) rfl; have c2 := aN.o.fi.own.br.cell (j := 2) rfl; have c3 := aN.o.fi.own.br.cell (j := 3) rfl; have c4 := aN.o.fi.own.br.cell (j := 4) rfl; have c5 := aN.o.fi.own.br.cell (j := 5) rfl; have c6 := aN.o.fi.own.br.cell (j := 6) rfl; have c7 := aN.o.fi.own.br.cell (j := 7) rfl; have q1 := aN.o.dF.cell (j := 1) rfl; have q2 := aN.o.dF.cell (j := 2) rfl; have q3 := aN.o.dF.cell (j := 3) rfl
  go_upto_region 4 with (fail)
  go_cut [7] from 31 to 42 (fun v wx => v = .bool (known s r.tid) /\ Hid (Below wg.heap.size wg wx))
  case first =>
   go_wp2_with fail
   refine (gF s z' r.tid wg aN.o.fi.own.sees (aN.o.sm.kZ).1).mono ?_; rintro e wh ⟨rfl, X4⟩; have Y1 := ak X4; have rM := ak (aN.o.later X4); clear X4 c0 c1 c2 c3 c4 c5 c6 c7 q1 q2 q3; obtain ⟨f, hf⟩ := ah (bQ s r.tid); have wW := ak hf; rw [hf]; clear hf
   by_cases ud : 0 <= f
   ·have qX : Hid (known s r.tid = true) := ak (by unfold known; rw [wW.o, decide_eq_true ud]; rfl)
    go_wp2_with fail
    go_meet
    exact ⟨by rw [qX.o], Y1⟩
   have qX : Hid (known s r.tid = decide (0 <= dJ s r.tid)) := ak (by unfold known; rw [wW.o, decide_eq_false ud]; rfl)
   have c0 := rM.o.fi.own.br.cell (j := 0) rfl; have c1 := rM.o.fi.own.br.cell (j := 1) rfl; have c2 := rM.o.fi.own.br.cell (j := 2) rfl; have c3 := rM.o.fi.own.br.cell (j := 3) rfl; have c4 := rM.o.fi.own.br.cell (j := 4) rfl; have c5 := rM.o.fi.own.br.cell (j := 5) rfl; have c6 := rM.o.fi.own.br.cell (j := 6) rfl; have c7 := rM.o.fi.own.br.cell (j := 7) rfl; have q1 := rM.o.dF.cell (j := 1) rfl; have q2 := rM.o.dF.cell (j := 2) rfl; have q3 := rM.o.dF.cell (j := 3) rfl
   go_wp2_with fail
   refine (jK s z' r.tid wh rM.o.fi.own.sees (aN.o.sm.kZ).2.2.1).mono ?_; rintro e wi ⟨rfl, hbi⟩; have HBI := ak (Y1.o.trans (hbi.mono Y1.o.size)); clear hbi c0 c1 c2 c3 c4 c5 c6 c7 q1 q2 q3; obtain ⟨f2, hf2⟩ := ah (dJ s r.tid); rw [hf2] at qX ⊢; clear hf2
   by_cases hf3 : 0 <= f2
   ·have ju : Hid (known s r.tid = true) := ak (by rw [qX.o, decide_eq_true hf3])
    go_wp2_with fail
    go_meet
    exact ⟨by rw [ju.o], HBI⟩
   have ju : Hid (known s r.tid = false) := ak (by rw [qX.o, decide_eq_false hf3])
   go_wp2_with fail
   go_meet
   have a1 : ¬ 0 <= f := by omega
   have a2 : ¬ 0 <= f2 := by omega
   exact ⟨by rw [ju.o]; first | rfl | (rw [decide_eq_false a1, decide_eq_false a2]; rfl), HBI⟩
  obtain ⟨rfl, rR⟩ := hcut; have aN := ak (aN.o.later rR.o); clear c0 c1 c2 c3 c4 c5 c6 c7 q1 q2 q3 rR; refine UC.o _ _ ?_; clear UC
  apply wp_seq_k
  intro K5 hK5; have HK5 := ak hK5; clear hK5; have c4 := aN.o.fi.own.br.cell (j := 4) rfl; have q9 := aN.o.dF.cell (j := 9) rfl; obtain ⟨np, hnp⟩ := ah s.places.length; have j_ : Hid (bp s r.cell = (decide (0 <= r.cell) && decide (r.cell < (np : Int)))) := ak (by unfold bp; rw [hnp]); rw [hnp] at c4; clear hnp
  go_upto_region 5 with (fail)
  go_cut [8] from 43 to 53 (fun v wx => v = .bool (bp s r.cell) /\ wx = wc)
  case first =>
   by_cases h1 : 0 <= r.cell
   ·by_cases h2 : r.cell < (np : Int)
    ·have HV : Hid (bp s r.cell = true) := ak (by rw [j_.o, decide_eq_true h1, decide_eq_true h2]; rfl)
     go_wp2_with fail
     go_meet
     exact ⟨by rw [HV.o], rfl⟩
    have HV : Hid (bp s r.cell = false) := ak (by rw [j_.o, decide_eq_false h2, Bool.and_false])
    go_wp2_with fail
    go_meet
    exact ⟨by rw [HV.o], rfl⟩
   have HV : Hid (bp s r.cell = false) := ak (by rw [j_.o, decide_eq_false h1, Bool.false_and])
   go_wp2_with fail
   go_meet
   exact ⟨by rw [HV.o], rfl⟩
  obtain ⟨rfl, rfl⟩ := hcut; exact HK5.o _ _ (by apply Hj iG.o _ aN.o _ (by kernel_rfl))
end Go.Proofs.YtdkchpiinelmiaaGreat.Led
namespace Go.Proofs.YtdkchpiinelmiaaGreat.LedgerPlays
set_option maxRecDepth 100000
open Go.ChangeShapes Go.WideShapes Go.ChangeAt Go.RowKit Go.Deep Mem fN Rec Led
theorem Ab (r : Rc) (y : Lay) (w : World) : Calls Tryz.prog 12 #[r.val y] w fun e w' => e = .returned (r.val y) /\ Below w.heap.size w w' := by
 obtain ⟨k, ⟨t1, t2, t3⟩, its, tT, a0, a1, a2, a3, a4, a5, a6, a7, yes⟩ := r; obtain ⟨A, c, B, d⟩ := y
 generalize hL : its.length = L
 generalize hM : tT.length = M
 unfold Rc.val; simp only [hL, hM]; clear hL hM
 go_enter Tryz.func12, Tryz.ntmps12
 go_wp2
 go_returns
 exact ⟨rfl, Go.Joins.below_alloc2 _ _ _⟩
theorem rE {P : Program} {f : Nat} {args : Array Value} {w : World} {Q : Ending -> Prop} (h : Calls P f args w fun e w' => Q e /\ w = w') : Calls P f args w fun e w' => Q e /\ Below w.heap.size w w' :=
 h.mono fun e w' ⟨h1, h2⟩ => ⟨h1, by subst h2; exact Below.refl _ _⟩
theorem iX {B0 g2 : Nat} {w w' : World} {s : St} {z : Sy} (h : fZ B0 g2 w s z) (hb : Below w.heap.size w w') : fZ B0 g2 w' s z :=
 ⟨fun w2 h2 => h.sees w2 ((Only.of_below hb).trans h2 fun _ _ e => e), fun k h1 h2 => (h.pin k h1 h2).later hb, fun k h1 h2 => (h.cin k h1 h2).later hb⟩
structure Lp (B0 : Nat) (W wr : World) (t : St) (y z : Sy) (b5 b7 : Nat) : Prop where
 low : Below W.heap.size W wr
 sD : Cells wr b5 32 (t.vals y)
 vK : Cells wr b7 41 (t.vals z)
 DX : ∀ w', Only (fun k => k = b5 \/ k = b7) wr w' -> cL w' t y
 Jr : ∀ w', Only (fun k => k = b5 \/ k = b7) wr w' -> cL w' t z
 deep : fZ B0 0 wr t z
 gt : W.heap.size = B0 /\ B0 <= b5 /\ B0 <= b7 /\ b5 ≠ b7
theorem Lp.later {B0 : Nat} {W wr w' : World} {t : St} {y z : Sy} {b5 b7 : Nat} (h : Lp B0 W wr t y z b5 b7) (hb : Below wr.heap.size wr w') : Lp B0 W w' t y z b5 b7 :=
 ⟨h.low.trans (hb.mono h.low.size), h.sD.later hb, h.vK.later hb, fun w2 h2 => h.DX w2 ((Only.of_below hb).trans h2 fun _ _ e => e), fun w2 h2 => h.Jr w2 ((Only.of_below hb).trans h2 fun _ _ e => e), iX h.deep hb, h.gt⟩
theorem Lp.store {B0 G : Nat} {W wr w' : World} {t u : St} {y z zu zv : Sy} {b5 b7 : Nat} (h : Lp B0 W wr t y z b5 b7) (hp5 : Cells w' b5 32 (u.vals zu)) (hp7 : Cells w' b7 41 (u.vals zv)) (ho : Only (fun k => k = b5 \/ k = b7) wr w')
  (hs : ∀ w2, Only (fun k => k = b5 \/ k = b7) wr w2 -> cL w2 u zu) (hd : fZ B0 G wr u zv) (hG : b5 < G /\ b7 < G) : Lp B0 W w' u zu zv b5 b7 := by
 have hb : ∀ k, (k = b5 \/ k = b7) -> B0 <= k /\ k < G := fun k e => by
  have := h.gt; rcases e with e | e <;> omega
 have iH : Only (fun k => B0 <= k /\ k < G) wr w' := ho.mono fun k _ e => hb k e
 have ho3 : Only (fun k => B0 <= k) wr w' := ho.mono fun k _ e => (hb k e).1
 exact ⟨h.low.trans (ho.below h.low.size fun k e => by have := h.gt; have := (hb k e).1; omega), hp5, hp7, fun w2 h2 => hs w2 (ho.trans h2 fun _ _ e => e), fun w2 h2 => hd.sees w2 (iH.trans h2 fun k _ e => hb k e),
  ⟨fun w2 h2 => hd.sees w2 (iH.trans h2 fun k _ e => absurd e.2 (Nat.not_lt_zero _)), fun k h1 h2 => (hd.pin k h1 h2).next ho3 fun k e => Or.inl e, fun k h1 h2 => (hd.cin k h1 h2).next ho3 fun k e => Or.inl e⟩, h.gt⟩
structure Dv (B0 : Nat) (wr : World) (d7 : Bool) (v7 : Value) (W : World) (u : St) (zv : Sy) : Prop where
 sees : ∀ w', Only (fun k => (B0 <= k /\ k < wr.heap.size) \/ (d7 = true /\ v7 = (au k))) W w' -> cL w' u zv
 pin : ∀ k (h : k < u.ay.length) (h' : k < zv.ps.length), Fr (fun j => B0 <= j) W u.ay[k].items u.ay[k].nodes zv.ps[k]
 cin : ∀ k (h : k < u.com.length) (h' : k < zv.cs.length), Fr (fun j => B0 <= j) W u.com[k].items u.com[k].nodes zv.cs[k]
structure lV (B0 : Nat) (wr : World) (u : St) (fe : Int) (d3 d4 d5 d7 d8 : Bool) (v3 v4 v5 v7 : Value) (W : World) : Prop where
 low : Below wr.heap.size wr W
 bw : B0 <= wr.heap.size
 one : d3 = true -> ∃ zv, v3 = .tuple #[u.val zv, iv fe] /\ Dv B0 wr d7 v7 W u zv /\ (d4 = true -> v4 = .tuple #[u.val zv, iv fe]) /\ (d5 = true -> v5 = u.val zv) /\ (d8 = true -> ∃ g, v7 = (au g) /\ wr.heap.size <= g /\ Cells W g 41 (u.vals zv))
 D3 : d7 = true -> d8 = false -> ∃ g, v7 = (au g) /\ wr.heap.size <= g /\ Cells W g 41 tS
variable {B0 : Nat} {wr W W' : World} {u : St} {fe : Int} {d3 d4 d5 d7 d8 : Bool} {v3 v4 v5 v7 : Value}
theorem lV.init (hb : Below wr.heap.size wr W) (hB : B0 <= wr.heap.size) : lV B0 wr u fe false false false false false v3 v4 v5 v7 W := ⟨hb, hB, fun e => (by cases e), fun e => (by cases e)⟩
theorem Dv.later {zv : Sy} (h : Dv B0 wr d7 v7 W u zv) (hb : Below W.heap.size W W') : Dv B0 wr d7 v7 W' u zv :=
 ⟨fun w2 h2 => h.sees w2 ((Only.of_below hb).trans h2 fun _ _ e => e), fun k h1 h2 => (h.pin k h1 h2).later hb, fun k h1 h2 => (h.cin k h1 h2).later hb⟩
theorem lV.move (h : lV B0 wr u fe d3 d4 d5 d7 d8 v3 v4 v5 v7 W) (hb : Below W.heap.size W W') : lV B0 wr u fe d3 d4 d5 d7 d8 v3 v4 v5 v7 W' := by
 refine ⟨h.low.trans (hb.mono h.low.size), h.bw, fun e => ?_, fun e1 e2 => ?_⟩
 ·obtain ⟨zv, h1, h2, h3, h4, h5⟩ := h.one e
  exact ⟨zv, h1, h2.later hb, h3, h4, fun e => (h5 e).imp fun g hg => ⟨hg.1, hg.2.1, hg.2.2.later hb⟩⟩
 exact (h.D3 e1 e2).imp fun g hg => ⟨hg.1, hg.2.1, hg.2.2.later hb⟩
theorem lV.Y_ {zv : Sy} (h : lV B0 wr u fe false d4 d5 d7 d8 v3 v4 v5 v7 W) (h4 : d4 = false) (h5 : d5 = false) (h8 : d8 = false) (hd : fZ B0 W.heap.size W' u zv) (hb : Below W.heap.size W W') :
  lV B0 wr u fe true d4 d5 d7 d8 (.tuple #[u.val zv, iv fe]) v4 v5 v7 W' := by
 have h1 := h.move hb; refine ⟨h1.low, h.bw, fun _ => ⟨zv, rfl, ⟨fun w2 h2 => hd.sees w2 (h2.mono fun k _ e => ?_), hd.pin, hd.cin⟩, fun e => ?_, fun e => ?_, fun e => ?_⟩, h1.D3⟩
 ·rcases e with e | ⟨e1, e2⟩
  ·exact ⟨e.1, Nat.lt_of_lt_of_le e.2 h.low.size⟩
  obtain ⟨g, hg1, hg2, hg3⟩ := h.D3 e1 h8
  have hlt := hg3.lt; rw [e2] at hg1; have : k = g := by injection hg1 with x; injection x with x; injection x
  subst this; exact ⟨Nat.le_trans h.bw hg2, hlt⟩
 ·rw [h4] at e; cases e
 ·rw [h5] at e; cases e
 rw [h8] at e; cases e
theorem lV.four (h : lV B0 wr u fe true d4 d5 d7 d8 v3 v4 v5 v7 W) : lV B0 wr u fe true true d5 d7 d8 v3 v3 v5 v7 W := by
 refine ⟨h.low, h.bw, fun e => ?_, h.D3⟩; obtain ⟨zv, h1, h2, _, h4, h5⟩ := h.one e; exact ⟨zv, h1, h2, fun _ => h1, h4, h5⟩
theorem lV.get (h : lV B0 wr u fe true true d5 d7 d8 v3 v4 v5 v7 W) : ∃ zv, v4 = .tuple #[u.val zv, iv fe] /\ lV B0 wr u fe true true true d7 d8 v3 v4 (u.val zv) v7 W := by
 obtain ⟨zv, h1, h2, h3, h4, h5⟩ := h.one rfl; exact ⟨zv, h3 rfl, h.low, h.bw, fun _ => ⟨zv, h1, h2, h3, fun _ => rfl, h5⟩, h.D3⟩
theorem lV.new (h : lV B0 wr u fe d3 d4 d5 false false v3 v4 v5 v7 W) : lV B0 wr u fe d3 d4 d5 true false v3 v4 v5 ((au W.heap.size)) (W.alloc (.cells #[iv 0, iv 0, iv 0, iv 0, .slice none 0 0, .slice none 0 0, .slice none 0 0, .slice none 0 0] 41)) := by
 have hb := av W (.cells #[iv 0, iv 0, iv 0, iv 0, .slice none 0 0, .slice none 0 0, .slice none 0 0, .slice none 0 0] 41); refine ⟨h.low.trans (hb.mono h.low.size), h.bw, fun e => ?_, fun _ _ => ⟨_, rfl, h.low.size, aB W 41 _ _ rfl⟩⟩; obtain ⟨zv, h1, h2, h3, h4, _⟩ := h.one e; refine ⟨zv, h1, ⟨fun w2 hw2 => h2.sees w2 ((Only.of_below hb).trans hw2 fun k hk e => ?_), fun k a b => (h2.pin k a b).later hb, fun k a b => (h2.cin k a b).later hb⟩, h3, h4, fun e => (by cases e)⟩; rcases e with e | ⟨_, e⟩
 ·exact Or.inl e
 have : W.heap.size = k := by injection e with x; injection x with x; injection x
 omega
theorem lV.box (h : lV B0 wr u fe true d4 true true false v3 v4 v5 v7 W) : ∃ zv g, v5 = u.val zv /\ v7 = (au g) /\ Cells W g 41 tS /\ lV B0 wr u fe true d4 true true true v3 v4 v5 v7 (W.setCells g 0 (u.vals zv)) := by
 obtain ⟨g, hg1, hg2, hg3⟩ := h.D3 rfl rfl; obtain ⟨zv, h1, h2, h3, h4, _⟩ := h.one rfl; obtain ⟨hcs, hos⟩ := Cells.put (l := u.vals zv) hg3 rfl; refine ⟨zv, g, h4 rfl, hg1, hg3, h.low.trans (hos.below h.low.size fun k e => by omega), h.bw, fun _ => ⟨zv, h1, ⟨fun w2 hw2 => h2.sees w2 ((hos.mono fun k _ e => Or.inr ⟨rfl, by rw [hg1, show k = g from e]⟩).trans hw2 fun k _ e => e), fun k a b => (h2.pin k a b).next (hos.mono fun k _ e => by have := h.bw; show B0 <= k; rw [show k = g from e]; omega) fun k e => Or.inl e, fun k a b => (h2.cin k a b).next (hos.mono fun k _ e => by have := h.bw; show B0 <= k; rw [show k = g from e]; omega) fun k e => Or.inl e⟩, h3, h4, fun _ => ⟨g, hg1, hg2, hcs⟩⟩, fun _ e => (by cases e)⟩
theorem lV.fin (h : lV B0 wr u fe true true true true true v3 v4 v5 v7 W) : ∃ zv g, v7 = (au g) /\ wr.heap.size <= g /\ Below wr.heap.size wr W /\ Cells W g 41 (u.vals zv) /\ fZ B0 wr.heap.size W u zv := by
 obtain ⟨zv, h1, h2, h3, h4, h5⟩ := h.one rfl; obtain ⟨g, hg1, hg2, hg3⟩ := h5 rfl; exact ⟨zv, g, hg1, hg2, h.low, hg3, fun w2 hw2 => h2.sees w2 (hw2.mono fun _ _ e => Or.inl e), h2.pin, h2.cin⟩
def XL (va vb : Value) (sx : St) : Nat -> Value -> World -> Prop := N.tb [.inl (.int .i64 0), .inl (.bool false), .inl (.bool false), .inl (va), .inr fun v w => ∃ zz, v = sx.val zz /\ cL w sx zz, .inl (vb), .inl (.bool true), .inl (.bool false), .inl (.bool false)]
theorem uX {va vb : Value} {sx : St} {j : Nat} {v : Value} {w w' : World} (hb : Below w.heap.size w w') (h : XL va vb sx j v w) : XL va vb sx j v w' := by
 refine N.gA ?_ h; refine And.intro (fun v h => ?_) ?_
 ·obtain ⟨zz, h1, h2⟩ := h
  exact ⟨zz, h1, h2.later hb⟩
 exact trivial
def SI (fe : Int) (va vb vc vd : Value) (sx sy : St) : Nat -> Value -> World -> Prop := N.tb [.inl (.int .i64 fe), .inl (.int .i64 fe), .inl (.bool false), .inl (.bool false), .inl (va), .inr fun v w => ∃ zz, v = sx.val zz /\ cL w sx zz, .inl (vb), .inl (.bool true), .inl (.bool false), .inl (.bool false), .inl (.bool false), .inl (vc), .inr fun v w => ∃ zz, v = sy.val zz /\ cL w sy zz, .inl (vd), .inl (.bool true), .inl (.bool false), .inl (.bool false)]
theorem j3 {fe : Int} {va vb vc vd : Value} {sx sy : St} {j : Nat} {v : Value} {w w' : World} (hb : Below w.heap.size w w') (h : SI fe va vb vc vd sx sy j v w) : SI fe va vb vc vd sx sy j v w' := by
 refine N.gA ?_ h; refine And.intro (fun v h => ?_) ?_
 ·obtain ⟨zz, h1, h2⟩ := h
  exact ⟨zz, h1, h2.later hb⟩
 refine And.intro (fun v h => ?_) ?_
 ·obtain ⟨zz, h1, h2⟩ := h
  exact ⟨zz, h1, h2.later hb⟩
 exact trivial
def Ze (b5 b7 : Nat) (va vb : Value) (sx : St) (cc : Int) : Nat -> Value -> World -> Prop := N.tb [.inl (va), .inl (.int .i64 cc), .inl (.bool (owns sx cc)), .inl (vb), .inl (.int .i64 cc), .inl (.bool (owns sx cc)), .inl (.bool false), .inl (.bool false), .inl (va), .inl (.int .i64 cc), .inl (.bool (locked sx cc)), .inl (vb), .inl (.int .i64 cc), .inl (.bool (locked sx cc)), .inl (.bool false), .inl (.bool false), .inl (.bool false), .inl (.int .i64 cc), .inl (.pointer (some ⟨b5, 1, none⟩)), .inl (.int .i64 sx.nodes), .inl (.int .i64 (home cc sx.nodes)), .inl (.int .i64 cc), .inl (.pointer (some ⟨b7, 1, none⟩)), .inl (.int .i64 sx.nodes), .inl (.int .i64 (home cc sx.nodes)), .inl (.bool false), .inl (.bool false)]
def Zd (b10 : Nat) (va vb : Value) (sx : St) (tu : cT) : Nat -> Value -> World -> Prop := N.tb [.inl (va), .inl (.pointer (some ⟨b10, 1, none⟩)), .inl (.agg #[.int .i64 tu.node, .int .i64 tu.epoch, .int .i64 tu.seq]), .inl (.int .i64 (bQ sx tu)), .inl (vb), .inl (.pointer (some ⟨b10, 1, none⟩)), .inl (.agg #[.int .i64 tu.node, .int .i64 tu.epoch, .int .i64 tu.seq]), .inl (.int .i64 (bQ sx tu)), .inl (.bool false), .inl (.bool false), .inl (va), .inl (.pointer (some ⟨b10, 1, none⟩)), .inl (.agg #[.int .i64 tu.node, .int .i64 tu.epoch, .int .i64 tu.seq]), .inl (.int .i64 (dJ sx tu)), .inl (vb), .inl (.pointer (some ⟨b10, 1, none⟩)), .inl (.agg #[.int .i64 tu.node, .int .i64 tu.epoch, .int .i64 tu.seq]), .inl (.int .i64 (dJ sx tu)), .inl (.bool false), .inl (.bool false), .inl (.bool false), .inl (va), .inl (.pointer (some ⟨b10, 1, none⟩)), .inl (.agg #[.int .i64 tu.node, .int .i64 tu.epoch, .int .i64 tu.seq]), .inl (.int .i64 (cE sx tu)), .inl (vb), .inl (.pointer (some ⟨b10, 1, none⟩)), .inl (.agg #[.int .i64 tu.node, .int .i64 tu.epoch, .int .i64 tu.seq]), .inl (.int .i64 (cE sx tu)), .inl (.bool false), .inl (.bool false)]
set_option maxHeartbeats 4000000 in
theorem walk (b1 b2 b3 : Int) (A : Option Addr) (l : List Rc) (zs : List Lay) (cap : Nat) (W : World) (hr : zM W A l zs) (hl : l.length <= maxLen) (hs : ∀ r ∈ l, r.ok /\ r.items.length <= maxLen /\ r.nodes.length <= maxLen) :
  Calls Tryz.prog 3 #[.agg #[iv b1, iv b2, iv b3], .slice A l.length cap] W fun e W' => e = .returned (.bool true) /\ Below W.heap.size W W' := by
 obtain ⟨w1, hw1⟩ := aj (W.alloc (.cells #[iv b1, iv b2, iv b3] 23)); have hb1 : Below W.heap.size W w1 := by rw [hw1]; exact av _ _
 have hc1 : Cells w1 W.heap.size 23 [iv b1, iv b2, iv b3] := by rw [hw1]; exact aB _ _ _ _ rfl
 have HR := ak hr; have fW := ak hb1; have DV := ak hc1; have HOK := ak (fun r hr => (hs r hr).1); have HG := ak (fun w (h : Below W.heap.size W w) => EU A l zs cap 80 w (hr.later h) hl (fun r hr => (hs r hr).2) (by decide)); have XH := ak (fun (h : lH l 80 = false) => yU h); have eY := ak (fun w => vA b1 b2 b3 w); have JJ := ak (fun w (h : W.heap.size <= w.heap.size) => Ba W.heap.size b1 b2 b3 w h); have Vr := ak (fun (h : (cD b1 b2 b3).2 = 0) => Good.first h); have Ld := ak (Sz.first b1 b2 b3); have Vt : Hid ((cD b1 b2 b3).2 = 0 \/ ((cD b1 b2 b3).2 = 1 /\ (cD b1 b2 b3).1 = vC)) := ak (by unfold cD; split <;> simp); obtain ⟨G, hG⟩ := ah (lH l 80); obtain ⟨⟨t, fe⟩, hF⟩ : ∃ G, cD b1 b2 b3 = G := ⟨_, rfl⟩; rw [hG] at HG XH; rw [hF] at eY JJ Vr Ld Vt
 dsimp only at eY JJ Vr Ld Vt
 obtain ⟨n, hn⟩ := ah l.length; have HN := ak hn; rw [hn] at HG XH ⊢; obtain ⟨B0, wR⟩ := ah W.heap.size; have mX := ak wR; clear hr hl hs hb1 hc1 hG hn hF wR
 go_enter Tryz.func3, Tryz.ntmps3
 go_wp2_with fail
 rw [<- hw1]; clear hw1; refine (Fj w1).mono ?_; rintro e w2 ⟨rfl, hb2⟩; have bZ := ak (fW.o.trans (hb2.mono fW.o.size)); have l7 := ak (DV.o.later hb2); clear hb2 fW DV
 go_wp2_with fail
 refine (HG.o w2 bZ.o).mono ?_; rintro e w3 ⟨rfl, hb3⟩; have mW := ak (bZ.o.trans (hb3.mono bZ.o.size)); have Vx := ak (l7.o.later hb3); clear hb3 bZ l7 HG
 cases G with
 | true =>
  go_wp2_with fail
  go_returns
  exact ⟨rfl, mW.o⟩
 | false =>
  have uh := ak (XH.o (by trivial)); have hc3 := Vx.o; obtain ⟨q0, q1, q2⟩ := hc3.q3; clear XH hc3
  go_wp2_with fail
  clear q0 q1 q2; refine (eY.o w3).mono ?_; rintro e w4 ⟨⟨y, rfl, hst⟩, hb4⟩; have HST := ak hst; have Ls := ak (mW.o.trans (hb4.mono mW.o.size)); have Wi := ak hb4.size; obtain ⟨w5, IY⟩ := aj (w4.alloc (.cells #[iv t.node, iv t.nodes, iv t.cells, iv t.epoch, .slice y.P t.places.length y.p, .slice y.Q t.ay.length y.q, .slice y.D t.dec.length y.d, .slice y.C t.com.length y.c] 32)); have wJ : Below w4.heap.size w4 w5 := by rw [IY]; exact av _ _
  have gG := ak wJ; have DU : Hid (Cells w5 w4.heap.size 32 (t.vl y)) := ak (by rw [IY]; exact aB _ _ _ _ rfl); have KZ := Vx.o.later hb4; obtain ⟨q0, q1, q2⟩ := KZ.q3; have Zl := KZ.lt; simp only [St.val]; clear hst hb4 wJ KZ Vx eY mW
  go_wp2_with fail
  rw [<- IY]; clear IY q0 q1 q2 Zl; have Gh := ak (Ls.o.trans (gG.o.mono Ls.o.size)); refine (JJ.o w5 Gh.o.size).mono ?_; rintro e w6 ⟨⟨z, rfl, hst⟩, rI⟩; obtain ⟨w7, FK⟩ := aj (w6.alloc (.cells #[iv t.node, iv t.nodes, iv t.cells, iv t.epoch, .slice z.P t.places.length z.p, .slice z.Q t.ay.length z.q, .slice z.D t.dec.length z.d, .slice z.C t.com.length z.c] 41)); have vE : Below w6.heap.size w6 w7 := by rw [FK]; exact av _ _
  have Jw := rI.trans (vE.mono rI.size); have VI := gG.o.trans (Jw.mono gG.o.size); have sj : Hid (Lp W.heap.size W w7 t y z w4.heap.size w6.heap.size) := ak ⟨Gh.o.trans (Jw.mono Gh.o.size), DU.o.later Jw, by rw [FK]; exact aB _ _ _ _ rfl,
   fun w9 h9 => HST.o w9 ((Only.of_below VI).trans h9 fun k hk e => by have := rI.size; have := gG.o.size; have := Wi.o; omega),
   fun w9 h9 => hst.sees w9 ((Only.of_below vE).trans h9 fun k hk e => by
    have := DU.o.lt; have := Ls.o.size; have := rI.size; rcases e with e | e <;> omega),
   iX ⟨fun w9 h9 => hst.sees w9 (h9.mono fun k _ e => absurd e.2 (Nat.not_lt_zero _)), hst.pin, hst.cin⟩ vE, rfl, Ls.o.size, Nat.le_trans Gh.o.size rI.size, by have := DU.o.lt; have := rI.size; omega⟩
  simp only [St.val]; clear hst rI vE Jw VI HST gG DU Wi Ls Gh JJ; obtain ⟨b5, wJ⟩ := ah w4.heap.size; obtain ⟨b7, vE⟩ := ah w6.heap.size; rw [mX.o, wJ, vE] at sj; rcases Vt.o with h0 | ⟨h0, h1⟩
  ·have HGT := ak (Vr.o h0)
   subst h0; have KE := ak (Ld.o.small (by decide)); clear Vt Vr
   go_upto_region 9 with (fail)
   rw [<- FK]; rw [wJ]
   try rw [vE]
   clear FK wJ vE; obtain ⟨wr, hwr⟩ := aj w7; subst hwr; have zm : Hid (∀ wi, Below wr.heap.size wr wi -> Cells wi b5 32 (t.vl y)) := ak (fun wi hi => sj.o.sD.later hi); have wU : Hid (∀ wi, Below wr.heap.size wr wi -> Cells wi b7 41 (t.vl z)) := ak (fun wi hi => sj.o.vK.later hi); have DT : Hid (∀ wi, Below wr.heap.size wr wi -> cL wi t z) := ak (fun wi hi => (sj.o.later hi).Jr _ (Only.refl _ _)); have KF : Hid (∀ wi, Below wr.heap.size wr wi -> Calls Tryz.prog 9 #[.agg (t.va y)] wi fun e w' => (∃ z, e = .returned (t.val z) /\ cL w' t z) /\ Below wi.heap.size wi w') := ak (fun wi hi => jZ t y wi ((sj.o.later hi).DX _ (Only.refl _ _)) KE.o); have dU := KE; refine N.rb 8 [8] (XL (.agg (t.va y)) (.agg (t.va z)) t) wr (fun V => [(some 50, V 0), (some 51, V 1), (some 52, V 2), (some 53, V 3), (some 54, V 4), (some 55, V 5), (some 56, V 6), (some 57, V 7), (some 58, V 8)]) ?_ ?_
   ·intro i o ho
    have hi : i < 9 := (Array.getElem?_eq_some_iff.1 ho).1; rcases i with _ | _ | _ | _ | _ | _ | _ | _ | _ | i
    rotate_right
    ·omega
    all_goals obtain rfl := Option.some.inj ho
    all_goals intro ρ wi hE hI hs hd
    all_goals try dsimp only at hI
    all_goals (have hc := hE.const; have hf := hE.func)
    ·have e6 : ρ (.tmp 6) = iv 0 := hs 6; exact N.gw hI
    ·obtain ⟨_, rfl, e50⟩ := hd 0 50; exact N.gw hI
    ·obtain ⟨_, rfl, Xm⟩ := hd 1 51; exact N.gw hI
    ·have e5 : ρ (.tmp 5) = (au b5) := hs 5
     refine N.yes ?_; have dL := zm.o wi hI; obtain ⟨q0, q1, q2, q3, q4, q5, q6, q7⟩ := dL.q8; exact N.gw hI
    ·obtain ⟨_, rfl, Xl⟩ := hd 3 53
     refine N.yes ?_; refine N.Gives.call (f := 9) (args := #[.agg (t.va y)]) (w' := wi) (by go_simp) ?_; refine (KF.o wi hI).mono ?_; rintro e w'' ⟨⟨zz, rfl, hz⟩, hbb⟩; exact ⟨_, rfl, ⟨⟨zz, rfl, hz⟩, hI.trans (hbb.mono hI.size), fun j u _ _ h => uX hbb h⟩⟩
    ·have e7 : ρ (.tmp 7) = (au b7) := hs 7
     refine N.yes ?_; have dL := wU.o wi hI; obtain ⟨q0, q1, q2, q3, q4, q5, q6, q7⟩ := dL.q8; exact N.gw hI
    ·obtain ⟨u54, g54, Xk⟩ := hd 4 54; obtain ⟨_, rfl, e55⟩ := hd 5 55
     refine N.yes ?_; obtain ⟨z1, rfl, hz1⟩ := g54; refine N.Gives.call (f := 8) (args := #[t.val z1, .agg (t.va z)]) (w' := wi) (by go_simp) ?_; refine (kO t t z1 z wi hz1 (DT.o wi hI) dU.o).mono ?_; rintro e w'' ⟨⟨v', rfl, hv'⟩, hbb⟩; obtain rfl : v' = true := hv'.2 rfl; exact ⟨_, rfl, ⟨rfl, hI.trans (hbb.mono hI.size), fun j u _ _ h => uX hbb h⟩⟩
    ·obtain ⟨_, rfl, e56⟩ := hd 6 56
     refine N.yes ?_; exact N.gw hI
    obtain ⟨_, rfl, e52⟩ := hd 2 52; obtain ⟨_, rfl, e57⟩ := hd 7 57; exact N.gw hI
   intro V wf hV hI
   have UY : V 8 = .bool false := hV 8 (by decide) rfl; simp only [N.aP, List.foldl_cons, List.foldl_nil, Act.put, List.setIfInBounds_toArray, List.set_cons_succ, List.set_cons_zero, UY]; replace hI : (fun a => Below wr.heap.size wr a) wf := hI; clear hV UY; have Jj := ak (sj.o.later hI); clear hI sj zm wU DT KF dU KE; have hnb : n <= 80 := uh.o.1
   go_wp2_with fail
   go_loopw [10, 11, 12, 13, 14, 15, 61] (fun _ _ _ _ _ _ i wr => ∃ k : Nat, k <= n /\ i = iv (k : Int) /\ Hid (∃ t y z, Lp B0 W wr t y z b5 b7 /\ Sz k t /\ Led.Good t)) (fun _ _ _ _ _ _ i _ => n - (intOf i).toNat)
   case atStart => exact ⟨0, Nat.zero_le _, rfl, ak ⟨t, y, z, Jj.o, Ld.o, HGT.o⟩⟩
   case round =>
    clear Jj HGT Ld; obtain ⟨k, hk, rfl, HA⟩ := hrel; obtain ⟨t, y, z, DB, hzt, hgd⟩ := HA.o; have sj := ak DB; have zk := ak hzt; have FC := ak hgd; clear hzt hgd HA
    by_cases hlt : k < n
    ·have hlk : k < l.length := by have := HN.o; omega
     have Kt : k < zs.length := by have := HR.o.len; omega
     obtain ⟨ab, off, KA, bS⟩ := (HR.o.later DB.low).row k (by rw [List.length_zipWith]; omega); rw [List.getElem_zipWith] at bS; have Xd := HR.o.each k hlk Kt; have hsr := uh.o.2 l[k] (List.getElem_mem hlk); have hok := HOK.o l[k] (List.getElem_mem hlk); obtain ⟨r, hr⟩ := ah (l[k]); obtain ⟨z1, hz1⟩ := ah (zs[k]); rw [hr, hz1] at Xd bS; rw [hr] at hsr hok; have Xu := ak (Xd.later DB.low); have FD : Hid (Fr (fun j => W.heap.size <= j) W r.items r.nodes z1) := ak (fun w9 ho => Xd.later (ho.below (Nat.le_refl _) fun _ e => e)); have Fw := ak hsr; have Ti := ak hok; clear Xd hsr hok hr hz1 DB; have x0 : wr.cell? ⟨ab, off + k * 15, none⟩ = some (iv r.kind) := bS 0 _ rfl; have x1 : wr.cell? ⟨ab, off + k * 15 + 1, none⟩ = some (iv r.tid.node) := bS 1 _ rfl; have x2 : wr.cell? ⟨ab, off + k * 15 + 2, none⟩ = some (iv r.tid.epoch) := bS 2 _ rfl; have x3 : wr.cell? ⟨ab, off + k * 15 + 3, none⟩ = some (iv r.tid.seq) := bS 3 _ rfl; have x4 : wr.cell? ⟨ab, off + k * 15 + 4, none⟩ = some (.slice z1.A r.items.length z1.c) := bS 4 _ rfl; have x5 : wr.cell? ⟨ab, off + k * 15 + 5, none⟩ = some (.slice z1.B r.nodes.length z1.d) := bS 5 _ rfl; have x6 : wr.cell? ⟨ab, off + k * 15 + 6, none⟩ = some (iv r.node) := bS 6 _ rfl; have x7 : wr.cell? ⟨ab, off + k * 15 + 7, none⟩ = some (iv r.count) := bS 7 _ rfl; have x8 : wr.cell? ⟨ab, off + k * 15 + 8, none⟩ = some (iv r.num) := bS 8 _ rfl; have x9 : wr.cell? ⟨ab, off + k * 15 + 9, none⟩ = some (iv r.cell) := bS 9 _ rfl; have x10 : wr.cell? ⟨ab, off + k * 15 + 10, none⟩ = some (iv r.status) := bS 10 _ rfl; have eW : wr.cell? ⟨ab, off + k * 15 + 11, none⟩ = some (iv r.hop) := bS 11 _ rfl; have eV : wr.cell? ⟨ab, off + k * 15 + 12, none⟩ = some (iv r.version) := bS 12 _ rfl; have eU : wr.cell? ⟨ab, off + k * 15 + 13, none⟩ = some (iv r.value) := bS 13 _ rfl; have dZ : wr.cell? ⟨ab, off + k * 15 + 14, none⟩ = some (.bool r.yes) := bS 14 _ rfl; clear bS hlk Kt; subst KA; obtain ⟨wy, UH⟩ := aj (wr.alloc (.cells #[iv r.kind, iv r.tid.node, iv r.tid.epoch, iv r.tid.seq, .slice z1.A r.items.length z1.c, .slice z1.B r.nodes.length z1.d, iv r.node, iv r.count, iv r.num, iv r.cell, iv r.status, iv r.hop, iv r.version, iv r.value, .bool r.yes] 51)); obtain ⟨wx, hwx⟩ := aj (wy.alloc (.cells #[iv r.kind, iv r.tid.node, iv r.tid.epoch, iv r.tid.seq, .slice z1.A r.items.length z1.c, .slice z1.B r.nodes.length z1.d, iv r.node, iv r.count, iv r.num, iv r.cell, iv r.status, iv r.hop, iv r.version, iv r.value, .bool r.yes] 51)); have hby : Below wr.heap.size wr wy := by rw [UH]; exact av _ _
     have SR : Below wy.heap.size wy wx := by rw [hwx]; exact av _ _
     have Bf : Below wr.heap.size wr wx := hby.trans (SR.mono hby.size); have hgy : Cells wy wr.heap.size 51 (r.vl z1) := by rw [UH]; exact aB _ _ _ _ rfl
     have hgx : Cells wx wy.heap.size 51 (r.vals z1) := by rw [hwx]; exact aB _ _ _ _ rfl
     have hsy : wy.heap.size = wr.heap.size + 1 := by rw [UH, World.size_alloc]
     rw [hsy] at hgx; have DW := ak (vB t y [r] [z1] (some ⟨wr.heap.size + 1, 0, none⟩) 1 k wx ((sj.o.later Bf).DX _ (Only.refl _ _)) zk.o
      ⟨cW (sz := 15) (by simpa using hgx) (fun v hv => by rw [List.mem_singleton.1 hv]; rfl), rfl, fun j h1 h2 => by
       have : j = 0 := by simp at h1; omega
       subst this; exact Xu.o.later Bf⟩ (fun x hx => by rw [List.mem_singleton.1 hx]; exact ⟨Nat.le_trans Fw.o.1 (by decide), Nat.le_trans Fw.o.2 (by decide)⟩) (by simp only [List.length_singleton]; omega))
     have uj := ak Bf; have WB := ak (hgy.later SR); have hq := sj.o.sD; unfold St.vals at hq; obtain ⟨q0, q1, q2, q3, q4, q5, q6, q7⟩ := hq.q8; have Zk := hq.lt; unfold St.val at DW; clear hq hby SR hgx hgy Bf
     go_wp2_with fail
     rw [<- UH]; rw [<- hwx]; clear hwx UH hsy Zk q0 q1 q2 q3 q4 q5 q6 q7 x0 x1 x2 x3 x4 x5 x6 x7 x8 x9 x10 eW eV eU dZ; refine DW.o.mono ?_; rintro e wa ⟨⟨zu, rfl, wY⟩, hb4⟩; obtain ⟨⟨u, fe⟩, hu⟩ : ∃ p, iA t [r] = p := ⟨_, rfl⟩; have hone : ko t r = (u, fe) := hu; have hFO : ((aC t r).2 = 0 -> fe = 0 /\ (aC t r).1 = u) /\ ((aC t r).2 ≠ 0 -> fe ≠ 0 /\ u = vC) := by
      unfold ko at hone; refine ⟨fun e => ?_, fun e => ?_⟩
      ·rw [if_pos e] at hone
       exact ⟨(congrArg Prod.snd hone).symm, congrArg Prod.fst hone⟩
      rw [if_neg e] at hone
      exact ⟨fun e2 => e ((congrArg Prod.snd hone).trans e2), (congrArg Prod.fst hone).symm⟩
     rw [hu] at wY ⊢
     dsimp only at wY ⊢
     have kX := ak hFO; have Bu := ak hone; have HST := ak wY; obtain ⟨wb, hwb⟩ := aj (wa.alloc (.cells #[iv u.node, iv u.nodes, iv u.cells, iv u.epoch, .slice zu.P u.places.length zu.p, .slice zu.Q u.ay.length zu.q, .slice zu.D u.dec.length zu.d, .slice zu.C u.com.length zu.c] 32)); have hbb : Below wa.heap.size wa wb := by rw [hwb]; exact av _ _
     have SS := hb4.trans (hbb.mono hb4.size); have VH := uj.o.trans (SS.mono uj.o.size); have ux := ak (sj.o.later VH); have Vb : Hid (Small u) := ak (by
      by_cases h0 : (aC t r).2 = 0
      ·rw [<- (kX.o.1 h0).2]
       exact (zk.o.follow r ⟨Nat.le_trans Fw.o.1 (by decide), Nat.le_trans Fw.o.2 (by decide)⟩).small (by omega)
      rw [(kX.o.2 h0).2]
      exact ⟨by decide, by decide, by decide, by decide, fun p hp => (by cases hp), fun p hp => (by cases hp)⟩)
     have xA : Hid (Cells wb wa.heap.size 32 (u.vl zu)) := ak (by rw [hwb]; exact aB _ _ _ _ rfl); have mg := ak (WB.o.later SS); have Lb : Hid (∀ w2, Only (fun k => k = b5 \/ k = b7) wb w2 -> cL w2 u zu) := ak (fun w2 h2 => HST.o w2 ((Only.of_below hbb).trans h2 fun j _ e => by
      have h5 := sj.o.sD.lt; have h7 := sj.o.vK.lt; have := uj.o.size; rcases e with e | e <;> omega))
     have I9 : Hid (b5 < wb.heap.size /\ b7 < wb.heap.size) := ak ⟨ux.o.sD.lt, ux.o.vK.lt⟩; have TF : Hid (b5 < wr.heap.size /\ b7 < wr.heap.size /\ b5 < wa.heap.size /\ b7 < wa.heap.size) := ak (by
      have h5 := sj.o.sD.lt; have h7 := sj.o.vK.lt; have := uj.o.size; have := hb4.size
      omega)
     try simp only [St.val]
     clear hFO hone hu wY hb4 hbb SS VH sj Xu DW uj WB HST
     go_upto_region 15 with (fail)
     rw [<- hwb]; obtain ⟨b10, Jy⟩ := ah wr.heap.size; obtain ⟨uR, Jx⟩ := ah wa.heap.size; rw [Jx] at xA; rw [Jy] at mg; rw [Jy, Jx] at TF; rw [Jy]
     try rw [Jx]
     clear hwb Jy Jx; obtain ⟨wr, hwr⟩ := aj wb; subst hwr; have zm : Hid (∀ wi, Below wr.heap.size wr wi -> Cells wi b5 32 (t.vl y)) := ak (fun wi hi => ux.o.sD.later hi); have wU : Hid (∀ wi, Below wr.heap.size wr wi -> Cells wi b7 41 (t.vl z)) := ak (fun wi hi => ux.o.vK.later hi); have uw : Hid (∀ wi, Below wr.heap.size wr wi -> Cells wi b10 51 (r.vl z1)) := ak (fun wi hi => mg.o.later hi); have rR : Hid (B0 <= wr.heap.size) := ak (by have := ux.o.low.size; have := mX.o; omega)
     have qB := ak (zk.o.small (by omega)); have Wu : Hid (∀ wi, Below wr.heap.size wr wi -> Calls Tryz.prog 11 #[.agg (t.va z), .agg (r.va z1)] wi fun e w' => (∃ zv, e = .returned (.tuple #[u.val zv, iv fe]) /\ fZ B0 wi.heap.size w' u zv) /\ Below wi.heap.size wi w') := ak (fun wi hi => by
      have hfr : Fr (fun j => B0 <= j) wi r.items r.nodes z1 := by
       have h1 := FD.o; rw [mX.o] at h1; have h2 : Below W.heap.size W wi := ux.o.low.trans (hi.mono ux.o.low.size); exact h1.later h2
      have h := Ks B0 (gq := 0) t z r z1 wi (iX ux.o.deep hi) hfr (Nat.le_trans rR.o hi.size) Ti.o qB.o FC.o (Nat.le_trans Fw.o.1 (by decide)) (Nat.le_trans Fw.o.2 (by decide)); refine h.mono ?_; rintro e w' ⟨⟨z', h1, h2⟩, h3⟩; rw [Bu.o] at h1 h2; exact ⟨⟨z', h1, h2⟩, h3⟩)
     refine N.bk (by kernel_rfl) (fun i => ([some (.agg (t.va z)), some (.agg (r.va z1)), some (.agg (r.va z1)), none, none, none, some (iv fe), none, none, some (iv fe)] : List (Option Value)).getD i none) (fun D V W => lV B0 wr u fe (D 3) (D 4) (D 5) (D 7) (D 8) (V 3) (V 4) (V 5) (V 7) W) (fun V => [(some 73, V 0), (some 74, V 1), (some 75, V 2), (some 76, V 3), (some 72, V 4), (some 77, V 5), (some 78, V 6), (some 13, V 7), (none, V 8), (some 14, V 9)]) (by kernel_rfl) (by kernel_rfl) (fun V => rfl) ?_ ?_ ?_
     ·intro V
      exact lV.init (Below.refl _ _).drew rR.o
     ·intro i o ho
      have hi : i < 10 := (Array.getElem?_eq_some_iff.1 ho).1; rcases i with _ | _ | _ | _ | _ | _ | _ | _ | _ | _ | i
      rotate_right
      ·omega
      all_goals obtain rfl := Option.some.inj ho
      all_goals intro D V ρ wi hE hI cP hT hF hs hd hk
      all_goals (have hf := hE.func)
      ·have e7 : ρ (.tmp 7) = (au b7) := hs 7; clear hT hF; have dL := wU.o wi hI.low; obtain ⟨q0, q1, q2, q3, q4, q5, q6, q7⟩ := dL.q8
       exact N.gi _ ⟨fun _ => N.oi, hI⟩
      ·have e10 : ρ (.tmp 10) = (au b10) := hs 10; clear hT hF; have dL := uw.o wi hI.low
       exact N.Gives.value (v := .agg (r.va z1)) (w' := wi) (aQ 51 _ rfl b10 0 (by assumption) (dL.load (P := Tryz.prog) 51 _ Tryz.underlying51 rfl (by kernel_rfl))) ⟨fun x h => Option.some.inj h, hI⟩
      ·have e74 := (hd 1 74).trans (hk 1 _ rfl)
       clear hT hF; refine N.Gives.call (f := 12) (args := #[.agg (r.va z1)]) (w' := wi) (by go_simp) ?_; refine (Ab r z1 wi).mono ?_; rintro e w'' ⟨rfl, hbb⟩; exact ⟨_, rfl, fun x h => Option.some.inj h, hI.move hbb⟩
      ·have e73 := (hd 0 73).trans (hk 0 _ rfl)
       have e75 := (hd 2 75).trans (hk 2 _ rfl); have Bh : D 3 = false := cP; have Um : D 4 = false := hF 1 4; have dg : D 5 = false := hF 2 5; have rP : D 8 = false := hF 1 8; clear hT hF; rw [Bh] at hI; refine N.Gives.call (f := 11) (args := #[.agg (t.va z), .agg (r.va z1)]) (w' := wi) (by go_simp) ?_; refine (Wu.o wi hI.low).mono ?_; rintro e w'' ⟨⟨zv, rfl, hdp⟩, hbb⟩; exact ⟨_, rfl, fun x h => (by cases h), hI.Y_ Um dg rP hdp hbb⟩
      ·have e76 : ρ (.tmp 76) = V 3 := hd 3 76; have Bh : D 3 = true := hT 1 3; clear hT hF
       rw [Bh] at hI; exact N.Gives.value (v := V 3) (w' := wi) (by go_simp) ⟨fun x h => (by cases h), by show lV B0 wr u fe (D 3) true (D 5) (D 7) (D 8) (V 3) (V 3) (V 5) (V 7) wi; rw [Bh]; exact hI.four⟩
      ·have Un : ρ (.tmp 72) = V 4 := hd 4 72; have Bh : D 3 = true := hT 2 3; have Um : D 4 = true := hT 1 4; clear hT hF
       rw [Bh, Um] at hI; obtain ⟨zv, h4, h5⟩ := hI.get; rw [h4] at Un; replace Un : ρ (.tmp 72) = .tuple #[.agg (u.va zv), iv fe] := Un; exact N.Gives.value (v := .agg (u.va zv)) (w' := wi) (by go_simp) ⟨fun x h => (by cases h), by show lV B0 wr u fe (D 3) (D 4) true (D 7) (D 8) (V 3) (V 4) (.agg (u.va zv)) (V 7) wi; rw [Bh, Um]; exact h5⟩
      ·have Un : ρ (.tmp 72) = V 4 := hd 4 72; have Bh : D 3 = true := hT 2 3; have Um : D 4 = true := hT 1 4; clear hT hF; have hJ := hI
       rw [Bh, Um] at hJ; obtain ⟨zv, h4, h5⟩ := hJ.get; rw [h4] at Un; exact N.gi _ ⟨fun _ => N.oi, hI⟩
      ·have dN : D 7 = false := cP; have rP : D 8 = false := hF 1 8; clear hT hF
       rw [dN, rP] at hI; exact N.Gives.value (v := (au wi.heap.size)) (w' := wi.alloc (.cells #[iv 0, iv 0, iv 0, iv 0, .slice none 0 0, .slice none 0 0, .slice none 0 0, .slice none 0 0] 41)) (by go_simp) ⟨fun x h => (by cases h), by show lV B0 wr u fe (D 3) (D 4) (D 5) true (D 8) (V 3) (V 4) (V 5) ((au wi.heap.size)) _; rw [rP]; exact hI.new⟩
      ·have l5 : ρ (.tmp 13) = V 7 := hd 7 13; have Yj : ρ (.tmp 77) = V 5 := hd 5 77; have Bh : D 3 = true := hT 1 3; have dg : D 5 = true := hT 1 5; have dN : D 7 = true := hT 1 7; have rP : D 8 = false := cP; clear hT hF
       rw [Bh, dg, dN, rP] at hI; obtain ⟨zv, g, h5, h7, hgc, hnx⟩ := hI.box; rw [h7] at l5; rw [h5] at Yj; exact N.Gives.skip (w' := wi.setCells g 0 (u.vl zv)) (eH 41 _ _ rfl g 0 (u.va zv) (by assumption) (by assumption) (run_storeVar_mid _ g 0 41 (u.va zv) (Cells.there hgc (by show 8 <= 8; decide)) (by kernel_rfl) (by simp [Value.oneCell']))) ⟨fun x h => (by cases h), by show lV B0 wr u fe (D 3) (D 4) (D 5) (D 7) true (V 3) (V 4) (V 5) (V 7) _; rw [Bh, dg, dN]; exact hnx⟩
      have e78 := (hd 6 78).trans (hk 6 _ rfl); clear hT hF hk
      exact N.gi _ ⟨fun _ => N.oi, hI⟩
     intro V wf hk hI
     have Kz := hk 9 (by show _ < 10; decide) _ rfl
     simp only [N.aP, List.foldl_cons, List.foldl_nil, Act.put, List.setIfInBounds_toArray, List.set_cons_succ, List.set_cons_zero, Kz]; replace hI : lV B0 wr u fe true true true true true (V 3) (V 4) (V 5) (V 7) wf := hI; clear hk Kz; obtain ⟨zv, K_, hv7, Zm, fO, VG, VF⟩ := lV.fin hI; rw [hv7]; have Ec := ak (ux.o.later fO); have xC := ak (mg.o.later fO); have GP := ak (xA.o.later fO); have TA := ak VG; have JM := ak VF; have Te : Hid (∀ w2, Only (fun k => k = b5 \/ k = b7) wf w2 -> cL w2 u zu) := ak (fun w2 h2 => Lb.o w2 ((Only.of_below fO).trans h2 fun _ _ e => e)); have Ed : Hid (b5 < K_ /\ b7 < K_ /\ b5 < wr.heap.size /\ b7 < wr.heap.size) := ak (by have := I9.o; omega)
     obtain ⟨G3, hG3⟩ := ah wr.heap.size; rw [hG3] at JM Ed; clear hI hv7 Zm fO VG VF hG3 ux zm wU uw mg xA Lb Wu rR I9; obtain ⟨wr, hwr⟩ := aj wf; subst hwr; have zm : Hid (∀ wi, Below wr.heap.size wr wi -> Cells wi b5 32 (t.vl y)) := ak (fun wi hi => Ec.o.sD.later hi); have wU : Hid (∀ wi, Below wr.heap.size wr wi -> Cells wi b7 41 (t.vl z)) := ak (fun wi hi => Ec.o.vK.later hi); have Gt : Hid (∀ wi, Below wr.heap.size wr wi -> Cells wi uR 32 (u.vl zu)) := ak (fun wi hi => GP.o.later hi); have Gs : Hid (∀ wi, Below wr.heap.size wr wi -> Cells wi K_ 41 (u.vl zv)) := ak (fun wi hi => TA.o.later hi); have DT : Hid (∀ wi, Below wr.heap.size wr wi -> cL wi t z) := ak (fun wi hi => (Ec.o.later hi).Jr _ (Only.refl _ _)); have WE : Hid (∀ wi, Below wr.heap.size wr wi -> cL wi u zv) := ak (fun wi hi => (iX JM.o hi).now); have KF : Hid (∀ wi, Below wr.heap.size wr wi -> Calls Tryz.prog 9 #[.agg (t.va y)] wi fun e w' => (∃ z, e = .returned (t.val z) /\ cL w' t z) /\ Below wi.heap.size wi w') := ak (fun wi hi => jZ t y wi ((Ec.o.later hi).DX _ (Only.refl _ _)) qB.o); have Wp : Hid (∀ wi, Below wr.heap.size wr wi -> Calls Tryz.prog 9 #[.agg (u.va zu)] wi fun e w' => (∃ z, e = .returned (u.val z) /\ cL w' u z) /\ Below wi.heap.size wi w') := ak (fun wi hi => jZ u zu wi (Te.o wi (Only.of_below hi)) Vb.o); have dU := qB; have Wm := Vb
     go_upto_region 16 with (fail)
     refine N.rb 16 [16] (SI fe (.agg (u.va zu)) (.agg (u.va zv)) (.agg (t.va y)) (.agg (t.va z)) u t) wr (fun V => [(some 79, V 0), (some 80, V 1), (some 81, V 2), (some 82, V 3), (some 83, V 4), (some 84, V 5), (some 85, V 6), (some 86, V 7), (some 87, V 8), (some 88, V 9), (some 89, V 10), (some 90, V 11), (some 91, V 12), (some 92, V 13), (some 93, V 14), (some 94, V 15), (some 95, V 16)]) ?_ ?_
     ·intro i o ho
      have hi : i < 17 := (Array.getElem?_eq_some_iff.1 ho).1; rcases i with _ | _ | _ | _ | _ | _ | _ | _ | _ | _ | _ | _ | _ | _ | _ | _ | _ | i
      rotate_right
      ·omega
      all_goals obtain rfl := Option.some.inj ho
      all_goals intro ρ wi hE hI hs hd
      all_goals try dsimp only at hI
      all_goals (have hc := hE.const; have hf := hE.func)
      ·have e12 : ρ (.tmp 12) = iv fe := hs 12; exact N.gw hI
      ·have mZ : ρ (.tmp 14) = iv fe := hs 14; exact N.gw hI
      ·obtain ⟨_, rfl, e79⟩ := hd 0 79; obtain ⟨_, rfl, Yi⟩ := hd 1 80; exact N.gw hI
      ·obtain ⟨_, rfl, e81⟩ := hd 2 81; exact N.gw hI
      ·have e11 : ρ (.tmp 11) = (au uR) := hs 11
       refine N.yes ?_; have dL := Gt.o wi hI; obtain ⟨q0, q1, q2, q3, q4, q5, q6, q7⟩ := dL.q8; exact N.gw hI
      ·obtain ⟨_, rfl, Xi⟩ := hd 4 83
       refine N.yes ?_; refine N.Gives.call (f := 9) (args := #[.agg (u.va zu)]) (w' := wi) (by go_simp) ?_; refine (Wp.o wi hI).mono ?_; rintro e w'' ⟨⟨zz, rfl, hz⟩, hbb⟩; exact ⟨_, rfl, ⟨⟨zz, rfl, hz⟩, hI.trans (hbb.mono hI.size), fun j u _ _ h => j3 hbb h⟩⟩
      ·have l5 : ρ (.tmp 13) = (au K_) := hs 13
       refine N.yes ?_; have dL := Gs.o wi hI; obtain ⟨q0, q1, q2, q3, q4, q5, q6, q7⟩ := dL.q8; exact N.gw hI
      ·obtain ⟨u84, g84, Yh⟩ := hd 5 84; obtain ⟨_, rfl, e85⟩ := hd 6 85
       refine N.yes ?_; obtain ⟨z1, rfl, hz1⟩ := g84; refine N.Gives.call (f := 8) (args := #[u.val z1, .agg (u.va zv)]) (w' := wi) (by go_simp) ?_; refine (kO u u z1 zv wi hz1 (WE.o wi hI) Wm.o).mono ?_; rintro e w'' ⟨⟨v', rfl, hv'⟩, hbb⟩; obtain rfl : v' = true := hv'.2 rfl; exact ⟨_, rfl, ⟨rfl, hI.trans (hbb.mono hI.size), fun j u _ _ h => j3 hbb h⟩⟩
      ·obtain ⟨_, rfl, e86⟩ := hd 7 86
       refine N.yes ?_; exact N.gw hI
      ·obtain ⟨_, rfl, Xj⟩ := hd 3 82; obtain ⟨_, rfl, e87⟩ := hd 8 87; exact N.gw hI
      ·obtain ⟨_, rfl, e88⟩ := hd 9 88; exact N.gw hI
      ·have e5 : ρ (.tmp 5) = (au b5) := hs 5
       refine N.yes ?_; have dL := zm.o wi hI; obtain ⟨q0, q1, q2, q3, q4, q5, q6, q7⟩ := dL.q8; exact N.gw hI
      ·obtain ⟨_, rfl, e90⟩ := hd 11 90
       refine N.yes ?_; refine N.Gives.call (f := 9) (args := #[.agg (t.va y)]) (w' := wi) (by go_simp) ?_; refine (KF.o wi hI).mono ?_; rintro e w'' ⟨⟨zz, rfl, hz⟩, hbb⟩; exact ⟨_, rfl, ⟨⟨zz, rfl, hz⟩, hI.trans (hbb.mono hI.size), fun j u _ _ h => j3 hbb h⟩⟩
      ·have e7 : ρ (.tmp 7) = (au b7) := hs 7
       refine N.yes ?_; have dL := wU.o wi hI; obtain ⟨q0, q1, q2, q3, q4, q5, q6, q7⟩ := dL.q8; exact N.gw hI
      ·obtain ⟨u91, g91, e91⟩ := hd 12 91; obtain ⟨_, rfl, e92⟩ := hd 13 92
       refine N.yes ?_; obtain ⟨z1, rfl, hz1⟩ := g91; refine N.Gives.call (f := 8) (args := #[t.val z1, .agg (t.va z)]) (w' := wi) (by go_simp) ?_; refine (kO t t z1 z wi hz1 (DT.o wi hI) dU.o).mono ?_; rintro e w'' ⟨⟨v', rfl, hv'⟩, hbb⟩; obtain rfl : v' = true := hv'.2 rfl; exact ⟨_, rfl, ⟨rfl, hI.trans (hbb.mono hI.size), fun j u _ _ h => j3 hbb h⟩⟩
      ·obtain ⟨_, rfl, e93⟩ := hd 14 93
       refine N.yes ?_; exact N.gw hI
      obtain ⟨_, rfl, e89⟩ := hd 10 89; obtain ⟨_, rfl, e94⟩ := hd 15 94; exact N.gw hI
     intro V wf hV hI
     have jz : V 16 = .bool false := hV 16 (by decide) rfl; simp only [N.aP, List.foldl_cons, List.foldl_nil, Act.put, List.setIfInBounds_toArray, List.set_cons_succ, List.set_cons_zero, jz]; replace hI : (fun a => Below wr.heap.size wr a) wf := hI; clear hV jz; have xu := ak (Ec.o.later hI); have mg := ak (xC.o.later hI); have xA := ak (GP.o.later hI); have Bw := ak (TA.o.later hI); have Bv := ak (iX JM.o hI); have Lb : Hid (∀ w2, Only (fun k => k = b5 \/ k = b7) wf w2 -> cL w2 u zu) := ak (fun w2 h2 => Te.o w2 ((Only.of_below hI).trans h2 fun _ _ e => e)); clear hI Ec xC GP TA JM Te zm wU Gt Gs DT WE KF Wp dU Wm; obtain ⟨wr, hwr⟩ := aj wf; subst hwr
     go_upto_region 18 with (fail)
     go_cut [96, 97] from 98 to 99 (fun _ v wx => v = .bool (fe == 0) /\ wx = wr)
     case first =>
      go_wp2_with fail
      go_meet
      exact ⟨rfl, rfl⟩
     obtain ⟨rfl, rfl⟩ := hcut; apply_assumption; obtain ⟨wr, hwr⟩ := aj wc; subst hwr
     go_cut [97] from 98 to 99 (fun _ wx => Hid (∃ t y z, Lp B0 W wx t y z b5 b7 /\ Cells wx b10 51 (r.vl z1) /\ Sz (k + 1) t /\ Led.Good t))
     case first =>
      by_cases h0 : fe = 0
      ·have h2 : (aC t r).2 = 0 := Decidable.byContradiction fun e => (kX.o.2 e).1 h0
       have hut := (kX.o.1 h2).2; have hz2 := zk.o.follow r ⟨Nat.le_trans Fw.o.1 (by decide), Nat.le_trans Fw.o.2 (by decide)⟩; have hg2 := FC.o.follow r ⟨Ti.o.value, fun x hx => (Ti.o.items x hx).2.2.2⟩ h2; rw [hut] at hz2 hg2; have Gq := ak hz2; have WA := ak hg2; subst h0; clear h2 hut hz2 hg2 kX zk FC Bu
       go_upto_region 19 with (fail)
       have DU : Hid (Cells wr b5 32 (t.vl y)) := ak xu.o.sD; have HC7 : Hid (Cells wr b7 41 (t.vl z)) := ak xu.o.vK; have r_ : Hid (b5 ≠ b7) := ak xu.o.gt.2.2.2; have Gt : Hid (∀ wi, Only (fun k => k = b5 \/ k = b7) wr wi -> Cells wi uR 32 (u.vl zu)) := ak (fun wi hi => aJ xA.o hi (fun e => by have := TF.o; rcases e with e | e <;> omega))
       have Gs : Hid (∀ wi, Only (fun k => k = b5 \/ k = b7) wr wi -> Cells wi K_ 41 (u.vl zv)) := ak (fun wi hi => aJ Bw.o hi (fun e => by have := Ed.o; rcases e with e | e <;> omega))
       refine N.bk (by kernel_rfl) (fun i => ([some (.agg (u.va zu)), some (.agg (u.va zv)), none, none] : List (Option Value)).getD i none) (fun D V W => Only (fun k => k = b5 \/ k = b7) wr W /\ Cells W b5 32 (cond (D 2) (u.vl zu) (t.vl y)) /\ Cells W b7 41 (cond (D 3) (u.vl zv) (t.vl z))) (fun V => [(some 98, V 0), (some 99, V 1), (none, V 2), (none, V 3)]) (by kernel_rfl) (by kernel_rfl) (fun V => rfl) ?_ ?_ ?_
       ·intro V
        exact ⟨Only.of_below (Below.refl _ _).drew, DU.o.later (Below.refl _ _).drew, HC7.o.later (Below.refl _ _).drew⟩
       ·intro i o ho
        have hi : i < 4 := (Array.getElem?_eq_some_iff.1 ho).1; rcases i with _ | _ | _ | _ | i
        rotate_right
        ·omega
        all_goals obtain rfl := Option.some.inj ho
        all_goals intro D V ρ wi hE hI cP hT hF hs hd hk
        ·have e11 : ρ (.tmp 11) = (au uR) := hs 11; clear hT hF; have dL := Gt.o wi hI.1
         exact N.Gives.value (v := .agg (u.va zu)) (w' := wi) (aQ _ _ rfl uR 0 (by assumption) (dL.load (P := Tryz.prog) 32 _ Tryz.underlying32 rfl (by kernel_rfl))) ⟨fun x h => Option.some.inj h, hI⟩
        ·have l5 : ρ (.tmp 13) = (au K_) := hs 13; clear hT hF; have dL := Gs.o wi hI.1
         exact N.Gives.value (v := .agg (u.va zv)) (w' := wi) (aQ _ _ rfl K_ 0 (by assumption) (dL.load (P := Tryz.prog) 41 _ Tryz.underlying41 rfl (by kernel_rfl))) ⟨fun x h => Option.some.inj h, hI⟩
        ·have e5 : ρ (.tmp 5) = (au b5) := hs 5; have Yg := (hd 0 98).trans (hk 0 _ rfl); have jc : D 2 = false := cP; clear hT hF
         have h4 := hI.2.1; rw [jc] at h4; obtain ⟨hcs, hos⟩ := Cells.put (l := (u.vl zu)) h4 rfl; exact N.Gives.skip (w' := wi.setCells b5 0 (u.vl zu)) (eH 32 _ _ rfl b5 0 (u.va zu) (by assumption) (by assumption) (run_storeVar_mid _ b5 0 32 (u.va zu) (Cells.there h4 (by show 8 <= 8; decide)) (by kernel_rfl) (by simp [Value.oneCell']))) ⟨fun x h => (by cases h), by show Only (fun k => k = b5 \/ k = b7) wr (wi.setCells b5 0 (u.vl zu)) /\ Cells (wi.setCells b5 0 (u.vl zu)) b5 32 (cond true (u.vl zu) (t.vl y)) /\ Cells (wi.setCells b5 0 (u.vl zu)) b7 41 (cond (D 3) (u.vl zv) (t.vl z)); exact ⟨hI.1.trans hos fun _ _ e => Or.inl e, hcs, aJ hI.2.2 hos (fun e => r_.o e.symm)⟩⟩
        have e7 : ρ (.tmp 7) = (au b7) := hs 7; have Yf := (hd 1 99).trans (hk 1 _ rfl); have Bh : D 3 = false := cP; clear hT hF
        have h4 := hI.2.2; rw [Bh] at h4; obtain ⟨hcs, hos⟩ := Cells.put (l := (u.vl zv)) h4 rfl; exact N.Gives.skip (w' := wi.setCells b7 0 (u.vl zv)) (eH 41 _ _ rfl b7 0 (u.va zv) (by assumption) (by assumption) (run_storeVar_mid _ b7 0 41 (u.va zv) (Cells.there h4 (by show 8 <= 8; decide)) (by kernel_rfl) (by simp [Value.oneCell']))) ⟨fun x h => (by cases h), by show Only (fun k => k = b5 \/ k = b7) wr (wi.setCells b7 0 (u.vl zv)) /\ Cells (wi.setCells b7 0 (u.vl zv)) b5 32 (cond (D 2) (u.vl zu) (t.vl y)) /\ Cells (wi.setCells b7 0 (u.vl zv)) b7 41 (cond true (u.vl zv) (t.vl z)); exact ⟨hI.1.trans hos fun _ _ e => Or.inr e, aJ hI.2.1 hos (fun e => r_.o e), hcs⟩⟩
       intro V wf hk hI
       simp only [N.aP, List.foldl_cons, List.foldl_nil, Act.put, List.setIfInBounds_toArray, List.set_cons_succ, List.set_cons_zero]; replace hI : Only (fun k => k = b5 \/ k = b7) wr wf /\ Cells wf b5 32 (cond true (u.vl zu) (t.vl y)) /\ Cells wf b7 41 (cond true (u.vl zv) (t.vl z)) := hI; clear hk; simp only [cond_true] at hI; have DB := xu.o.store hI.2.1 hI.2.2 hI.1 Lb.o Bv.o Ed.o.2.2; have Jj := ak DB; have xC : Hid (Cells wf b10 51 (r.vl z1)) := ak (aJ mg.o hI.1 (fun e => by have := TF.o; rcases e with e | e <;> omega))
       clear hI DB DU HC7 r_ Gt Gs mg xA Bw Bv Lb xu Ed Vb qB; have mg := xC; have zk := Gq; have FC := WA; clear xC Gq WA; obtain ⟨wr, hwr⟩ := aj wf; subst hwr; obtain ⟨t, ht⟩ := aj u; subst ht; obtain ⟨y, hy⟩ := aj zu; subst hy; obtain ⟨z, hz⟩ := aj zv; subst hz
       go_wp2_with fail
       go_meet
       exact ak ⟨t, y, z, Jj.o, mg.o, zk.o, FC.o⟩
      have Jj := xu
      have Gq := ak (zk.o.mono (Nat.le_succ k)); have ad8 : (fe == 0) = false := by simpa using h0
      clear xA Bw Bv Lb xu Ed Vb qB kX Bu zk; have zk := Gq; clear Gq
      go_wp2_with fail
      go_meet
      exact ak ⟨t, y, z, Jj.o, mg.o, zk.o, FC.o⟩
     obtain ⟨t, y, z, Kv, hcx, hzn, hgn⟩ := hcut.o; have Jj := ak Kv; have I8 := ak hcx; clear mg zk FC xA Bw Bv Lb xu Ed Vb qB kX Bu Kv hcx hcut; have mg := I8; have zk := ak hzn; have FC := ak hgn; clear hzn hgn I8; apply_assumption
     go_wp2_with fail
     go_loopw [15] (fun c wr => ∃ cc : Int, -1 <= cc /\ cc <= 17 /\ c = iv cc /\ Hid (Lp B0 W wr t y z b5 b7 /\ Cells wr b10 51 (r.vl z1))) (fun c _ => (17 - intOf c).toNat)
     case atStart => exact ⟨-1, by decide, by decide, rfl, ak ⟨Jj.o, mg.o⟩⟩
     case round =>
      clear Jj mg; obtain ⟨cc, hcl, hcu, rfl, HA⟩ := hrel; have qB := ak (zk.o.small (by omega)); have zm : Hid (∀ wi, Below wr.heap.size wr wi -> Cells wi b5 32 (t.vl y)) := ak (fun wi hi => HA.o.1.sD.later hi); have wU : Hid (∀ wi, Below wr.heap.size wr wi -> Cells wi b7 41 (t.vl z)) := ak (fun wi hi => HA.o.1.vK.later hi); have Lq : Hid (∀ wi, Below wr.heap.size wr wi -> cL wi t y) := ak (fun wi hi => (HA.o.1.later hi).DX _ (Only.refl _ _)); have DT : Hid (∀ wi, Below wr.heap.size wr wi -> cL wi t z) := ak (fun wi hi => (HA.o.1.later hi).Jr _ (Only.refl _ _))
      by_cases hle : cc <= 16
      ·have YB : Hid (t.ay.length <= 1000000 /\ ∀ p ∈ t.ay, p.items.length <= 1000000) := ak ⟨Nat.le_trans qB.o.ay (by decide), fun p hp => Nat.le_trans (zk.o.pin p hp).1 (by decide)⟩
       have tW : Hid (t.nodes <= 1000000000 /\ cc <= 1000000000) := ak (by have := FC.o.nn; omega)
       go_upto_region 23 with (fail)
       refine N.rb 26 [26] (Ze b5 b7 (.agg (t.va y)) (.agg (t.va z)) t cc) wr (fun V => [(some 104, V 0), (some 105, V 1), (some 106, V 2), (some 107, V 3), (some 108, V 4), (some 109, V 5), (some 110, V 6), (some 111, V 7), (some 112, V 8), (some 113, V 9), (some 114, V 10), (some 115, V 11), (some 116, V 12), (some 117, V 13), (some 118, V 14), (some 119, V 15), (some 120, V 16), (some 121, V 17), (some 122, V 18), (some 123, V 19), (some 124, V 20), (some 125, V 21), (some 126, V 22), (some 127, V 23), (some 128, V 24), (some 129, V 25), (some 130, V 26)]) ?_ ?_
       ·intro i o ho
        have hi : i < 27 := (Array.getElem?_eq_some_iff.1 ho).1; rcases i with _ | _ | _ | _ | _ | _ | _ | _ | _ | _ | _ | _ | _ | _ | _ | _ | _ | _ | _ | _ | _ | _ | _ | _ | _ | _ | _ | i
        rotate_right
        ·omega
        all_goals obtain rfl := Option.some.inj ho
        all_goals intro ρ wi hE hI hs hd
        all_goals try dsimp only at hI
        all_goals (have e5 : ρ (.tmp 5) = (au b5) := hs 5; have mY : ρ (.tmp 15) = iv cc := hs 15; have e7 : ρ (.tmp 7) = (au b7) := hs 7; have hc := hE.const; have hf := hE.func)
        ·have dL := zm.o wi hI; obtain ⟨q0, q1, q2, q3, q4, q5, q6, q7⟩ := dL.q8; exact N.gw hI
        ·exact N.gw hI
        ·obtain ⟨_, rfl, Tc⟩ := hd 0 104; obtain ⟨_, rfl, Tb⟩ := hd 1 105
         refine N.Gives.call (f := 13) (args := #[.agg (t.va y), iv cc]) (w' := wi) (by go_simp) ?_; refine (jG t y cc wi (Lq.o wi hI)).mono ?_; rintro e w'' ⟨rfl, hbb⟩; exact ⟨_, rfl, ⟨rfl, hI.trans (hbb.mono hI.size), fun j u _ _ h => N.tz h⟩⟩
        ·have dL := wU.o wi hI; obtain ⟨q0, q1, q2, q3, q4, q5, q6, q7⟩ := dL.q8; exact N.gw hI
        ·exact N.gw hI
        ·obtain ⟨_, rfl, S_⟩ := hd 3 107; obtain ⟨_, rfl, S9⟩ := hd 4 108
         refine N.Gives.call (f := 14) (args := #[.agg (t.va z), iv cc]) (w' := wi) (by go_simp) ?_; refine (vr t z cc wi (DT.o wi hI)).mono ?_; rintro e w'' ⟨rfl, hbb⟩; exact ⟨_, rfl, ⟨rfl, hI.trans (hbb.mono hI.size), fun j u _ _ h => N.tz h⟩⟩
        ·obtain ⟨_, rfl, Ta⟩ := hd 2 106; obtain ⟨_, rfl, D9⟩ := hd 5 109; exact N.gw hI
        ·obtain ⟨_, rfl, S8⟩ := hd 6 110; exact N.gw hI
        ·refine N.yes ?_
         have dL := zm.o wi hI; obtain ⟨q0, q1, q2, q3, q4, q5, q6, q7⟩ := dL.q8; exact N.gw hI
        ·refine N.yes ?_
         exact N.gw hI
        ·obtain ⟨_, rfl, Wb⟩ := hd 8 112; obtain ⟨_, rfl, Wa⟩ := hd 9 113
         refine N.yes ?_; refine N.Gives.call (f := 15) (args := #[.agg (t.va y), iv cc]) (w' := wi) (by go_simp) ?_; refine (j6 t y cc wi (Lq.o wi hI) YB.o).mono ?_; rintro e w'' ⟨rfl, hbb⟩; exact ⟨_, rfl, ⟨rfl, hI.trans (hbb.mono hI.size), fun j u _ _ h => N.tz h⟩⟩
        ·refine N.yes ?_
         have dL := wU.o wi hI; obtain ⟨q0, q1, q2, q3, q4, q5, q6, q7⟩ := dL.q8; exact N.gw hI
        ·refine N.yes ?_
         exact N.gw hI
        ·obtain ⟨_, rfl, V9⟩ := hd 11 115; obtain ⟨_, rfl, V8⟩ := hd 12 116
         refine N.yes ?_; refine N.Gives.call (f := 16) (args := #[.agg (t.va z), iv cc]) (w' := wi) (by go_simp) ?_; refine (ji t z cc wi (DT.o wi hI) YB.o).mono ?_; rintro e w'' ⟨rfl, hbb⟩; exact ⟨_, rfl, ⟨rfl, hI.trans (hbb.mono hI.size), fun j u _ _ h => N.tz h⟩⟩
        ·obtain ⟨_, rfl, V_⟩ := hd 10 114; obtain ⟨_, rfl, V7⟩ := hd 13 117
         refine N.yes ?_; exact N.gw hI
        ·obtain ⟨_, rfl, S7⟩ := hd 7 111; obtain ⟨_, rfl, V6⟩ := hd 14 118; exact N.gw hI
        ·obtain ⟨_, rfl, V5⟩ := hd 15 119; exact N.gw hI
        ·refine N.yes ?_
         exact N.gw hI
        ·refine N.yes ?_
         exact N.gw hI
        ·obtain ⟨_, rfl, VX⟩ := hd 18 122
         refine N.yes ?_; have dL := zm.o wi hI; obtain ⟨q0, q1, q2, q3, q4, q5, q6, q7⟩ := dL.q8; exact N.gw hI
        ·obtain ⟨_, rfl, VY⟩ := hd 17 121; obtain ⟨_, rfl, VW⟩ := hd 19 123
         refine N.yes ?_; refine N.Gives.call (f := 17) (args := #[iv cc, iv t.nodes]) (w' := wi) (by go_simp) ?_; refine (rE (yj cc t.nodes wi tW.o.1)).mono ?_; rintro e w'' ⟨rfl, hbb⟩; exact ⟨_, rfl, ⟨rfl, hI.trans (hbb.mono hI.size), fun j u _ _ h => N.tz h⟩⟩
        ·refine N.yes ?_
         exact N.gw hI
        ·refine N.yes ?_
         exact N.gw hI
        ·obtain ⟨_, rfl, S5⟩ := hd 22 126
         refine N.yes ?_; have dL := wU.o wi hI; obtain ⟨q0, q1, q2, q3, q4, q5, q6, q7⟩ := dL.q8; exact N.gw hI
        ·obtain ⟨_, rfl, S6⟩ := hd 21 125; obtain ⟨_, rfl, S4⟩ := hd 23 127
         refine N.yes ?_; refine N.Gives.call (f := 18) (args := #[iv cc, iv t.nodes]) (w' := wi) (by go_simp) ?_; refine (rE (vw cc t.nodes wi tW.o.1 tW.o.2)).mono ?_; rintro e w'' ⟨rfl, hbb⟩; exact ⟨_, rfl, ⟨rfl, hI.trans (hbb.mono hI.size), fun j u _ _ h => N.tz h⟩⟩
        ·obtain ⟨_, rfl, VU⟩ := hd 20 124; obtain ⟨_, rfl, aad⟩ := hd 24 128
         refine N.yes ?_; exact N.gw hI
        obtain ⟨_, rfl, VZ⟩ := hd 16 120; obtain ⟨_, rfl, aac⟩ := hd 25 129; exact N.gw hI
       intro V wf hV hI
       have VK : V 26 = .bool false := hV 26 (by decide) rfl; simp only [N.aP, List.foldl_cons, List.foldl_nil, Act.put, List.setIfInBounds_toArray, List.set_cons_succ, List.set_cons_zero, VK]; replace hI : (fun a => Below wr.heap.size wr a) wf := hI; clear hV VK; have YP : Hid (Lp B0 W wf t y z b5 b7 /\ Cells wf b10 51 (r.vl z1)) := ak ⟨HA.o.1.later hI, HA.o.2.later hI⟩; clear hI HA zm wU Lq DT YB tW qB
       go_wp2_with fail
       go_roundw
       case rel => exact ⟨cc + 1, by omega, by omega, by go_num, YP⟩
       case measure => simp [intOf]; omega
      have uw : Hid (∀ wi, Below wr.heap.size wr wi -> Cells wi b10 51 (r.vl z1)) := ak (fun wi hi => HA.o.2.later hi)
      obtain ⟨tu, htu⟩ := ah r.tid; have wM := ak htu; have zO : Hid (t.ay.length <= 1000000 /\ t.dec.length <= 1000000 /\ t.com.length <= 1000000) := ak ⟨Nat.le_trans qB.o.ay (by decide), Nat.le_trans qB.o.dec (by decide), Nat.le_trans qB.o.com (by decide)⟩; clear htu
      go_upto_region 25 with (fail)
      refine N.rb 30 [30] (Zd b10 (.agg (t.va y)) (.agg (t.va z)) t tu) wr (fun V => [(some 131, V 0), (some 132, V 1), (some 133, V 2), (some 134, V 3), (some 135, V 4), (some 136, V 5), (some 137, V 6), (some 138, V 7), (some 139, V 8), (some 140, V 9), (some 141, V 10), (some 142, V 11), (some 143, V 12), (some 144, V 13), (some 145, V 14), (some 146, V 15), (some 147, V 16), (some 148, V 17), (some 149, V 18), (some 150, V 19), (some 151, V 20), (some 152, V 21), (some 153, V 22), (some 154, V 23), (some 155, V 24), (some 156, V 25), (some 157, V 26), (some 158, V 27), (some 159, V 28), (some 160, V 29), (some 161, V 30)]) ?_ ?_
      ·intro i o ho
       have hi : i < 31 := (Array.getElem?_eq_some_iff.1 ho).1; rcases i with _ | _ | _ | _ | _ | _ | _ | _ | _ | _ | _ | _ | _ | _ | _ | _ | _ | _ | _ | _ | _ | _ | _ | _ | _ | _ | _ | _ | _ | _ | _ | i
       rotate_right
       ·omega
       all_goals obtain rfl := Option.some.inj ho
       all_goals intro ρ wi hE hI hs hd
       all_goals try dsimp only at hI
       all_goals (have e5 : ρ (.tmp 5) = (au b5) := hs 5; have e10 : ρ (.tmp 10) = (au b10) := hs 10; have e7 : ρ (.tmp 7) = (au b7) := hs 7; have hc := hE.const; have hf := hE.func)
       ·have dL := zm.o wi hI; obtain ⟨q0, q1, q2, q3, q4, q5, q6, q7⟩ := dL.q8; exact N.gw hI
       ·exact N.gw hI
       ·obtain ⟨_, rfl, Z9⟩ := hd 1 132; have dL := uw.o wi hI; have q0 := dL.cell (j := 1) rfl; have q1 := dL.cell (j := 2) rfl; have q2 := dL.cell (j := 3) rfl
        rw [show r.tid.node = tu.node from by rw [wM.o]] at q0
        rw [show r.tid.epoch = tu.epoch from by rw [wM.o]] at q1
        rw [show r.tid.seq = tu.seq from by rw [wM.o]] at q2
        exact N.gw hI
       ·obtain ⟨_, rfl, Z_⟩ := hd 0 131; obtain ⟨_, rfl, Z8⟩ := hd 2 133
        refine N.Gives.call (f := 19) (args := #[.agg (t.va y), .agg #[iv tu.node, iv tu.epoch, iv tu.seq]]) (w' := wi) (by go_simp) ?_; refine (qT t y tu wi (Lq.o wi hI) zO.o.1).mono ?_; rintro e w'' ⟨rfl, hbb⟩; exact ⟨_, rfl, ⟨rfl, hI.trans (hbb.mono hI.size), fun j u _ _ h => N.tz h⟩⟩
       ·have dL := wU.o wi hI; obtain ⟨q0, q1, q2, q3, q4, q5, q6, q7⟩ := dL.q8; exact N.gw hI
       ·exact N.gw hI
       ·obtain ⟨_, rfl, Z5⟩ := hd 5 136; have dL := uw.o wi hI; have q0 := dL.cell (j := 1) rfl; have q1 := dL.cell (j := 2) rfl; have q2 := dL.cell (j := 3) rfl
        rw [show r.tid.node = tu.node from by rw [wM.o]] at q0
        rw [show r.tid.epoch = tu.epoch from by rw [wM.o]] at q1
        rw [show r.tid.seq = tu.seq from by rw [wM.o]] at q2
        exact N.gw hI
       ·obtain ⟨_, rfl, Z6⟩ := hd 4 135; obtain ⟨_, rfl, Z4⟩ := hd 6 137
        refine N.Gives.call (f := 20) (args := #[.agg (t.va z), .agg #[iv tu.node, iv tu.epoch, iv tu.seq]]) (w' := wi) (by go_simp) ?_; refine (gF t z tu wi (DT.o wi hI) zO.o.1).mono ?_; rintro e w'' ⟨rfl, hbb⟩; exact ⟨_, rfl, ⟨rfl, hI.trans (hbb.mono hI.size), fun j u _ _ h => N.tz h⟩⟩
       ·obtain ⟨_, rfl, Z7⟩ := hd 3 134; obtain ⟨_, rfl, Z2⟩ := hd 7 138; exact N.gw hI
       ·obtain ⟨_, rfl, Z1⟩ := hd 8 139; exact N.gw hI
       ·refine N.yes ?_
        have dL := zm.o wi hI; obtain ⟨q0, q1, q2, q3, q4, q5, q6, q7⟩ := dL.q8; exact N.gw hI
       ·refine N.yes ?_
        exact N.gw hI
       ·obtain ⟨_, rfl, afE⟩ := hd 11 142
        refine N.yes ?_; have dL := uw.o wi hI; have q0 := dL.cell (j := 1) rfl; have q1 := dL.cell (j := 2) rfl; have q2 := dL.cell (j := 3) rfl; rw [show r.tid.node = tu.node from by rw [wM.o]] at q0
        rw [show r.tid.epoch = tu.epoch from by rw [wM.o]] at q1
        rw [show r.tid.seq = tu.seq from by rw [wM.o]] at q2
        exact N.gw hI
       ·obtain ⟨_, rfl, S0⟩ := hd 10 141; obtain ⟨_, rfl, afD⟩ := hd 12 143
        refine N.yes ?_; refine N.Gives.call (f := 21) (args := #[.agg (t.va y), .agg #[iv tu.node, iv tu.epoch, iv tu.seq]]) (w' := wi) (by go_simp) ?_; refine (sZ t y tu wi (Lq.o wi hI) zO.o.2.1).mono ?_; rintro e w'' ⟨rfl, hbb⟩; exact ⟨_, rfl, ⟨rfl, hI.trans (hbb.mono hI.size), fun j u _ _ h => N.tz h⟩⟩
       ·refine N.yes ?_
        have dL := wU.o wi hI; obtain ⟨q0, q1, q2, q3, q4, q5, q6, q7⟩ := dL.q8; exact N.gw hI
       ·refine N.yes ?_
        exact N.gw hI
       ·obtain ⟨_, rfl, afA⟩ := hd 15 146
        refine N.yes ?_; have dL := uw.o wi hI; have q0 := dL.cell (j := 1) rfl; have q1 := dL.cell (j := 2) rfl; have q2 := dL.cell (j := 3) rfl; rw [show r.tid.node = tu.node from by rw [wM.o]] at q0
        rw [show r.tid.epoch = tu.epoch from by rw [wM.o]] at q1
        rw [show r.tid.seq = tu.seq from by rw [wM.o]] at q2
        exact N.gw hI
       ·obtain ⟨_, rfl, afB⟩ := hd 14 145; obtain ⟨_, rfl, afz⟩ := hd 16 147
        refine N.yes ?_; refine N.Gives.call (f := 22) (args := #[.agg (t.va z), .agg #[iv tu.node, iv tu.epoch, iv tu.seq]]) (w' := wi) (by go_simp) ?_; refine (jK t z tu wi (DT.o wi hI) zO.o.2.1).mono ?_; rintro e w'' ⟨rfl, hbb⟩; exact ⟨_, rfl, ⟨rfl, hI.trans (hbb.mono hI.size), fun j u _ _ h => N.tz h⟩⟩
       ·obtain ⟨_, rfl, afC⟩ := hd 13 144; obtain ⟨_, rfl, afy⟩ := hd 17 148
        refine N.yes ?_; exact N.gw hI
       ·obtain ⟨_, rfl, Z0⟩ := hd 9 140; obtain ⟨_, rfl, afx⟩ := hd 18 149; exact N.gw hI
       ·obtain ⟨_, rfl, ZY⟩ := hd 19 150; exact N.gw hI
       ·refine N.yes ?_
        have dL := zm.o wi hI; obtain ⟨q0, q1, q2, q3, q4, q5, q6, q7⟩ := dL.q8; exact N.gw hI
       ·refine N.yes ?_
        exact N.gw hI
       ·obtain ⟨_, rfl, ZV⟩ := hd 22 153
        refine N.yes ?_; have dL := uw.o wi hI; have q0 := dL.cell (j := 1) rfl; have q1 := dL.cell (j := 2) rfl; have q2 := dL.cell (j := 3) rfl; rw [show r.tid.node = tu.node from by rw [wM.o]] at q0
        rw [show r.tid.epoch = tu.epoch from by rw [wM.o]] at q1
        rw [show r.tid.seq = tu.seq from by rw [wM.o]] at q2
        exact N.gw hI
       ·obtain ⟨_, rfl, ZW⟩ := hd 21 152; obtain ⟨_, rfl, VT⟩ := hd 23 154
        refine N.yes ?_; refine N.Gives.call (f := 23) (args := #[.agg (t.va y), .agg #[iv tu.node, iv tu.epoch, iv tu.seq]]) (w' := wi) (by go_simp) ?_; refine (tj t y tu wi (Lq.o wi hI) zO.o.2.2).mono ?_; rintro e w'' ⟨rfl, hbb⟩; exact ⟨_, rfl, ⟨rfl, hI.trans (hbb.mono hI.size), fun j u _ _ h => N.tz h⟩⟩
       ·refine N.yes ?_
        have dL := wU.o wi hI; obtain ⟨q0, q1, q2, q3, q4, q5, q6, q7⟩ := dL.q8; exact N.gw hI
       ·refine N.yes ?_
        exact N.gw hI
       ·obtain ⟨_, rfl, ZR⟩ := hd 26 157
        refine N.yes ?_; have dL := uw.o wi hI; have q0 := dL.cell (j := 1) rfl; have q1 := dL.cell (j := 2) rfl; have q2 := dL.cell (j := 3) rfl; rw [show r.tid.node = tu.node from by rw [wM.o]] at q0
        rw [show r.tid.epoch = tu.epoch from by rw [wM.o]] at q1
        rw [show r.tid.seq = tu.seq from by rw [wM.o]] at q2
        exact N.gw hI
       ·obtain ⟨_, rfl, ZT⟩ := hd 25 156; obtain ⟨_, rfl, ZQ⟩ := hd 27 158
        refine N.yes ?_; refine N.Gives.call (f := 24) (args := #[.agg (t.va z), .agg #[iv tu.node, iv tu.epoch, iv tu.seq]]) (w' := wi) (by go_simp) ?_; refine (iE t z tu wi (DT.o wi hI) zO.o.2.2).mono ?_; rintro e w'' ⟨rfl, hbb⟩; exact ⟨_, rfl, ⟨rfl, hI.trans (hbb.mono hI.size), fun j u _ _ h => N.tz h⟩⟩
       ·obtain ⟨_, rfl, ZU⟩ := hd 24 155; obtain ⟨_, rfl, VR⟩ := hd 28 159
        refine N.yes ?_; exact N.gw hI
       obtain ⟨_, rfl, ZX⟩ := hd 20 151; obtain ⟨_, rfl, afv⟩ := hd 29 160; exact N.gw hI
      intro V wf hV hI
      have VJ : V 30 = .bool false := hV 30 (by decide) rfl; simp only [N.aP, List.foldl_cons, List.foldl_nil, Act.put, List.setIfInBounds_toArray, List.set_cons_succ, List.set_cons_zero, VJ]; replace hI : (fun a => Below wr.heap.size wr a) wf := hI; clear hV VJ; have YP : Hid (Lp B0 W wf t y z b5 b7) := ak (HA.o.1.later hI); clear hI HA zm wU Lq DT uw zO qB
      go_wp2_with fail
      go_roundw
      case rel => exact ⟨k + 1, by omega, by go_num, ak ⟨t, y, z, YP.o, zk.o, FC.o⟩⟩
      case measure => simp [intOf]; omega
    go_wp2_with fail
    go_returns
    exact ⟨rfl, sj.o.low⟩
  have HSE := ak h1
  have KE := ak (Ld.o.small (by decide)); have hq := sj.o.sD; unfold St.vals at hq; have KF := ak (jZ t y w7 (sj.o.DX _ (Only.refl _ _)) KE.o); unfold St.val at KF; subst h0; clear h1 Vt Vr Ld; have XA := ak hq; clear hq
  go_upto_region 8 with (fail)
  rw [<- FK]; rw [wJ]
  try rw [vE]
  clear FK wJ vE; have hq := XA.o; obtain ⟨q0, q1, q2, q3, q4, q5, q6, q7⟩ := hq.q8; clear hq
  go_wp2_with fail
  clear q0 q1 q2 q3 q4 q5 q6 q7; refine KF.o.mono ?_; rintro e wc ⟨⟨zz, rfl, hz⟩, hbc⟩; have Ur := ak (sj.o.low.trans (hbc.mono sj.o.low.size)); have HSA := ak (kO t vC zz _ wc hz (kN _) KE.o); unfold St.val at HSA; clear hbc hz
  go_wp2_with fail
  refine HSA.o.mono ?_; rintro e wd ⟨⟨v', rfl, hv'⟩, hbd⟩; obtain rfl : v' = true := hv'.2 HSE.o; have HWD := ak (Ur.o.trans (hbd.mono Ur.o.size)); clear hbd hv'
  go_wp2_with fail
  go_returns
  exact ⟨rfl, HWD.o⟩
theorem opened {H : Type} {enc : TypeId × Value -> H} {W : World} {base : Nat} {gs : List (DataW H)} (v0 : Value) (d0 : DataW H) (p0 : List MemPlace) (v1 : Value) (d1 : DataW H) (p1 : List MemPlace)
  (o0 : Value.okWide Tryz.prog W .any base 23 v0) (t0 : DataW.Trod enc Tryz.prog W 0 (fun _ => true) true 23 v0 d0 p0)
  (o1 : Value.okWide Tryz.prog W .any base 24 v1) (t1 : DataW.Trod enc Tryz.prog W 0 (fun _ => true) true 24 v1 d1 p1)
  (_hsz : (DataW.weightsEach Tryz.prog ([23, 24] ++ []) ([d0, d1] ++ gs)).all (· <= reachBytes) = true) :
  Calls Tryz.prog 3 #[v0, v1] W fun e W' => e = .returned (.bool true) /\ Below W.heap.size W W' := by
 obtain ⟨b1, b2, b3, rfl, _, _, _⟩ := Aj o0 t0; obtain ⟨A, l, zs, cap, rfl, hr, hl, hs, _⟩ := Eo o1 t1; exact walk b1 b2 b3 A l zs cap W hr hl hs
theorem contract (H : Type) (enc : TypeId × Value -> H) (W : World) (base : Nat) (args : Array Value) (ds gs : List (DataW H)) (before : List MemPlace)
  (hval : ∀ (j : Nat) t v, Tryz.f3.params[j]? = some t -> args[j]? = some v -> Value.okWide Tryz.prog W .any base t v)
  (hW : DataW.Whole enc Tryz.prog Tryz.f3.params.toList Rows.ledgerPlaysSpec.vars false W args.toList ds gs before)
  (hsz : (DataW.weightsEach Tryz.prog (Tryz.f3.params.toList ++ []) (ds ++ gs)).all (· <= reachBytes) = true) :
  Calls Tryz.prog 3 args W fun e W' => ∃ v, e = .returned v /\ Rows.ledgerPlaysSpec.post enc Tryz.prog Tryz.f3 false true false false W args v W' := by
 have hW0 := hW; obtain ⟨p, q, hA0, hV, rfl, _, _⟩ := hW; have hA : DataW.TrodAll enc Tryz.prog W 0 (fun _ => true) true Tryz.f3.params.toList args.toList ds p := hA0; rw [Tryz.params3] at hA hval hsz; obtain ⟨v0, vs0, d0, ds0, p0, q0, hargs, rfl, rfl, h0, r0⟩ := trodAll_cons hA; obtain ⟨v1, vs1, d1, ds1, p1, q1, rfl, rfl, rfl, h1, r1⟩ := trodAll_cons r0; obtain ⟨rfl, rfl, rfl⟩ := trodAll_nil r1; obtain rfl : args = #[v0, v1] := by cases args; simp_all
 refine (opened v0 d0 p0 v1 d1 p1 (hval 0 23 v0 rfl rfl) h0 (hval 1 24 v1 rfl rfl) h1 hsz).mono fun e W' ⟨he, hb⟩ => ⟨_, he, ?_⟩
 exact Base.Ij (tb := 4) Base.laidOut (by kernel_rfl) rfl Tryz.underlying4 rfl (fun l hl => by
  rw [Tryz.params3] at hl
  match l, hl with
  | [_, _], _ => rfl) (by rw [Tryz.params3]; rfl) hW0 hb
theorem Im (os : Os) : laidMet Tryz.prog Rows.ledgerPlaysRow.laid ((Base.lN os).forCall (fun _ _ => 0) ⟨#[], #[.agg #[iv 0, iv 0, iv 0], .slice none 0 0], []⟩).memory := laidMet_nil _ _
theorem reads (os : Os) {H : Type} (enc : TypeId × Value -> H) : ∃ places, DataW.whole enc Tryz.prog ((Base.lN os).forCall (fun _ _ => 0) ⟨#[], #[.agg #[iv 0, iv 0, iv 0], .slice none 0 0], []⟩).memory Tryz.f3.params.toList Rows.ledgerPlaysSpec.vars false (#[.agg #[iv 0, iv 0, iv 0], .slice none 0 0] : Array Value).toList 8 = some ([.agg [.lit (.int .i64 0), .lit (.int .i64 0), .lit (.int .i64 0)], .nil], [], places) :=
 ⟨[], by kernel_rfl⟩
set_option maxRecDepth 100000 in
theorem lifted (os : Os) (started : os.Started) (H : Type) (enc : TypeId × Value -> H) (F : Stop.Interp) :
  ReturnsInHanded {} Tryz.checked os 3 .any ((OpenSpec.ofChange Rows.ledgerPlaysSpec).preRow enc Tryz.prog Tryz.f3 Rows.ledgerPlaysRow.domain false Rows.ledgerPlaysRow.laid) (((OpenSpec.ofChange Rows.ledgerPlaysSpec).at F).post enc Tryz.prog Tryz.f3 false true false false) := by
 obtain ⟨places, hx⟩ := reads os enc; refine returnsInHanded_of_row (C := Tryz.checked) (s := OpenSpec.ofChange Rows.ledgerPlaysSpec) Base.own started (by kernel_rfl) Tryz.func3
  (witness_row_at (enc := enc) (C := Tryz.checked) false (Base.lN os) #[.agg #[iv 0, iv 0, iv 0], .slice none 0 0] rfl (by kernel_rfl) (by kernel_rfl) (by kernel_rfl)
   (OpenSpec.preRow_of_cond 8 hx (by kernel_rfl) (fun k hk => by cases hk) (by kernel_rfl) (Im os))) ?_
 intro W base args ds gs before hval hW _ _ hsz _ _ _; exact contract H enc W base args ds gs before hval hW hsz
theorem said : Rows.LedgerPlaysSaid :=
 OpenClaim.holds_of_cond 3 Tryz.f3 rfl rfl rfl rfl rfl rfl rfl ⟨rfl, rfl, rfl, rfl, rfl⟩ rfl rfl rfl rfl rfl (by kernel_rfl) Tryz.func3 (by kernel_rfl)
  (of_decide_eq_true (by kernel_rfl)) (by unfold Func.isWrapper; rw [if_neg (of_decide_eq_false (by kernel_rfl))]; exact ⟨rfl, rfl⟩)
  (fun os started H enc _ F => by rw [OpenClaim.pre_eq_preRow]; exact lifted os started H enc F)
#print axioms said
