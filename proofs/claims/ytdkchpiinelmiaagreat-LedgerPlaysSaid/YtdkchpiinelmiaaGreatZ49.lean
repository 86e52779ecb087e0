/- Part 49 of the proof. Conditions: none. -/
import Derived.Test.YtdkchpiinelmiaaGreatZ45
namespace Go.Proofs.YtdkchpiinelmiaaGreat.Led
set_option maxRecDepth 100000
open Go.RowKit Go.Deep Mem fN Rec
theorem sY {s : St} (h : Good s) (u : cT) : ∀ a b : Nat, a <= b -> ((s.dec.map fun x => ord x.tid u)[b]?).getD 0 < 0 -> ((s.dec.map fun x => ord x.tid u)[a]?).getD 0 < 0 := by
 intro a b hab hb; rcases Nat.lt_or_ge b s.dec.length with hlt | hge
 ·have hla : a < s.dec.length := by omega
  rw [List.getElem?_map, List.getElem?_eq_getElem hlt] at hb; rw [List.getElem?_map, List.getElem?_eq_getElem hla]; have hb' : ord s.dec[b].tid u < 0 := hb; show ord s.dec[a].tid u < 0
  by_cases e : a = b
  ·subst e; exact hb'
  have h1 := List.pairwise_iff_getElem.1 h.ds a b hla hlt (by omega)
  exact (bT _ _).2 (jY ((bT _ _).1 h1) ((bT _ _).1 hb'))
 rw [List.getElem?_eq_none (by rw [List.length_map]; exact hge)] at hb
 exact absurd hb (by decide)
theorem tG {s : St} {r : Rc} (h : known s r.tid = false) : ((dK s r).2 = lI s r.tid) /\ (lI s r.tid = 0 -> dK s r = (eX s r, 0)) := by
 unfold dK lI; rw [if_neg (by rw [h]; decide)]
 by_cases h1 : r.tid.node > s.nodes
 ·rw [if_pos (by unfold above; simpa using h1), if_pos h1]
  exact ⟨rfl, fun e => absurd e (by decide)⟩
 rw [if_neg (by unfold above; simpa using Int.not_lt.1 h1), if_neg h1]
 by_cases h2 : (s.ay.length : Int) + (s.dec.length : Int) >= 512
 ·rw [if_pos (by unfold room; exact decide_eq_false (by omega)), if_pos h2]
  exact ⟨rfl, fun e => absurd e (by decide)⟩
 rw [if_neg (by unfold room; rw [decide_eq_true (by omega)]; decide), if_neg h2]
 exact ⟨rfl, fun _ => rfl⟩
set_option maxHeartbeats 4000000 in
theorem WR {B0 : Nat} {w0 : World} {g2 g6 : Nat} {s : St} {y : Sy} {r : Rc} {z : Lay} (hn : r.kind ≠ 11 -> je [1, 1, 1, 1, 1, 1, 1, 1, 1, 1, 1, 1] B0 w0 g2 g6 s y r z) : je [1, 1, 1, 1, 1, 1, 1, 1, 1, 1, 1] B0 w0 g2 g6 s y r z := by
 intro wr h cc hc; iterate 546 intro _
 conv at hc => rhs; whnf
 subst hc
 apply wp_seq_k
 intro K hK; have ju := ak hK; clear hK; have aN := ak h; have iu := ak hn; have q0 := h.dF.cell (j := 0) rfl; clear h hn
 go_upto_region 76 with (fail)
 by_cases hk : r.kind = 11
 ·have HK := ak hk
  have HB : Hid (aC s r = aV s r) := ak (bN aN.o.rt); rw [hk] at q0; clear hk iu; have HF : Hid (aC s r = dK s r) := ak (by rw [HB.o]; unfold aV; rw [HK.o]; rfl); obtain ⟨kn, hkn⟩ := ah (known s r.tid); have qX := ak hkn; rw [hkn]; clear hkn
  cases kn with
  | true =>
   have fJ : Hid ((aC s r).2 = 9) := ak (by rw [HF.o]; unfold dK; rw [if_pos qX.o])
   go_upto_region 78 with (fail)
   apply wp_region_lit
   refine Go.Great.wpList_runTo rfl (some 364) rfl (.agg ZA) wr (by go_simp) ?_; refine aA rfl 41 _ _ rfl (g2 + 2) ZA ZL rfl rfl rfl (aN.o.fi).res rfl (by kernel_rfl) (by simp [Value.oneCell']) fun w5 hpt hov => ?_
   have bU := ak hpt; have cj := ak hov; clear hpt hov
   go_wp2_with fail
   refine bodyPost_ret (v := .tuple #[.agg ZA, iv 9]) ((aI (p := 4) (q := 5) (ty := 41) (by rfl) _ bU.o _ (by rfl) Tryz.underlying41 rfl (by kernel_rfl)).trans (by rfl)) rfl ?_; exact bC (aN.o.fi) cj.o (fJ.o) (by decide)
  | false =>
   have Lm := ak (tG qX.o); have q1 := aN.o.dF.cell (j := 1) rfl; have q2 := aN.o.dF.cell (j := 2) rfl; have q3 := aN.o.dF.cell (j := 3) rfl
   go_upto_region 79 with (fail)
   apply wp_region_lit
   refine aD rfl 41 _ rfl g6 (s.va y) rfl rfl (aN.o.fi.own.br) Tryz.underlying41 rfl (by kernel_rfl) ?_
   go_wp2_with fail
   refine (u_ s y r.tid wr (aN.o.sm.kZ).1 (aN.o.sm.kZ).2.2.1).mono ?_; rintro e wl ⟨rfl, hbl⟩; have aN := ak (aN.o.later hbl); clear q0 q1 q2 q3 hbl; obtain ⟨f, hf⟩ := ah (lI s r.tid); rw [hf] at Lm ⊢; clear hf
   by_cases ud : f = 0
   ·subst ud
    have kX : Hid (aC s r = (eX s r, 0)) := ak (HF.o.trans (Lm.o.2 rfl)); have q1 := aN.o.dF.cell (j := 1) rfl; have q2 := aN.o.dF.cell (j := 2) rfl; have q3 := aN.o.dF.cell (j := 3) rfl; have wI := aN.o.dF.cell (j := 14) rfl; obtain ⟨_, _, ⟨gl, hD, hcd⟩, _⟩ := aN.o.there; have HD := ak hD; have Vw := ak hcd; clear hD hcd
    go_upto_region 82 with (fail)
    apply wp_region_lit
    refine aD rfl 41 _ rfl g6 (s.va y) rfl rfl (aN.o.fi.own.br) Tryz.underlying41 rfl (by kernel_rfl) ?_
    go_wp2_with fail
    refine (kF s y r.tid r.yes wl aN.o.fi.own.sees gl HD.o Vw.o (by have := aN.o.gd.room; omega) (sY aN.o.gd r.tid)).mono ?_
    rintro e w1 ⟨⟨A9, c9, rfl, hrow⟩, hb1⟩; have dW := ak hrow; have fW := ak hb1; have Tp := ak (aN.o.later hb1); clear hrow hb1; rename_i zy; refine zy _ _ ?_; clear zy; refine aA rfl 41 _ _ rfl (g2 + 2) #[iv s.node, iv s.nodes, iv s.cells, iv s.epoch, .slice y.P s.places.length y.p, .slice y.Q s.ay.length y.q, .slice A9 (gI s.dec (De.mk r.tid r.yes)).length c9, .slice y.C s.com.length y.c] [iv s.node, iv s.nodes, iv s.cells, iv s.epoch, .slice y.P s.places.length y.p, .slice y.Q s.ay.length y.q, .slice A9 (gI s.dec (De.mk r.tid r.yes)).length c9, .slice y.C s.com.length y.c] rfl rfl rfl Tp.o.fi.res rfl (by kernel_rfl) (by kernel_rfl) fun w5 hpt hov => ?_
    have bU := ak hpt; have cj := ak hov; clear hpt hov
    go_wp2_with fail
    refine bodyPost_ret (v := .tuple #[.agg #[iv s.node, iv s.nodes, iv s.cells, iv s.epoch, .slice y.P s.places.length y.p, .slice y.Q s.ay.length y.q, .slice A9 (gI s.dec (De.mk r.tid r.yes)).length c9, .slice y.C s.com.length y.c], iv 0]) ((aI (p := 4) (q := 5) (ty := 41) (by rfl) _ bU.o _ (by rfl) Tryz.underlying41 rfl (by kernel_rfl)).trans (by rfl)) rfl ?_; exact BH (s' := s) aN.o.fi fW.o dW.o cj.o (kX.o) rfl
   have fJ : Hid ((aC s r).2 = f) := ak (by rw [HF.o]; exact Lm.o.1)
   have UE := ak ud
   go_upto_region 81 with (fail)
   apply wp_region_lit
   refine Go.Great.wpList_runTo rfl (some 371) rfl (.agg ZA) wl (by go_simp) ?_; refine Go.Great.wpList_runTo rfl (some 372) rfl (iv f) wl (by rfl) ?_; refine aA rfl 41 _ _ rfl (g2 + 2) ZA ZL rfl rfl rfl (aN.o.fi).res rfl (by kernel_rfl) (by simp [Value.oneCell']) fun w5 hpt hov => ?_
   have bU := ak hpt; have cj := ak hov; clear hpt hov
   go_wp2_with fail
   refine bodyPost_ret (v := .tuple #[.agg ZA, iv f]) ((aI (p := 4) (q := 5) (ty := 41) (by rfl) _ bU.o _ (by rfl) Tryz.underlying41 rfl (by kernel_rfl)).trans (by rfl)) rfl ?_; exact bC (aN.o.fi) cj.o (fJ.o) (UE.o)
 have fL := ak (iu.o hk)
 go_wp2_with fail
 exact ju.o _ _ (by apply fL.o _ aN.o _ (by kernel_rfl))
