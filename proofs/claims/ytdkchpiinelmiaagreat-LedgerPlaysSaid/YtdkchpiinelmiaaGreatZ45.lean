/- Part 45 of the proof. Conditions: none. -/
import Derived.Test.YtdkchpiinelmiaaGreatZ44
namespace Go.Proofs.YtdkchpiinelmiaaGreat.Led
set_option maxRecDepth 100000
open Go.RowKit Go.Deep Mem fN Rec
section
variable {B0 : Nat} {w0 wr wq : World} {g2 g6 : Nat} {s s' : St} {y : Sy} {r : Rc} {z : Lay}
theorem Fi.place (h : Fi B0 w0 g2 g6 s y wr) {pb k : Nat} (hP : y.P = some ⟨pb, 0, none⟩) (pl : Pl) (hk : k < s.places.length) (l : List Value) (o : Nat) (h1 : ∀ v ∈ l, v.oneCell' = true) (ho : o + l.length <= 5) (he : ∀ q, s.places[k]? = some q -> over q.vals o l = pl.vals) :
  Fi B0 w0 g2 g6 (bJ s (k : Int) pl) y (wr.setCells pb (k * 5 + o) l) /\ wr.there pb (k * 5 + o) l.length := by
 obtain ⟨a1, a2, a3⟩ := h.own.putCells hP pl hk l o h1 ho he; have hg := h.gt; have hpb : g2 + 3 <= pb := h.far pb (Or.inl (by rw [hP]; rfl)); refine ⟨⟨h.low.trans (a2.below h.low.size fun j e => ?_), h.gt, aJ h.res a2 fun e => ?_, a1, h.far⟩, a3⟩
 ·rw [hP] at e
  have e2 : j = pb := Option.some.inj e
  omega
 rw [hP] at e
 have e2 : g2 + 2 = pb := Option.some.inj e
 omega
theorem Small.kZ (h : Small s) : s.ay.length <= 1000000 /\ (∀ p ∈ s.ay, p.items.length <= 1000000) /\ s.dec.length <= 1000000 /\ s.com.length <= 1000000 := ⟨Nat.le_trans h.ay (by decide), fun p hp => Nat.le_trans (h.pin p hp).1 (by decide), Nat.le_trans h.dec (by decide), Nat.le_trans h.com (by decide)⟩
theorem BH {A : Option Addr} {c : Nat} {l : List De} {w1 w5 : World} (h : Fi B0 w0 g2 g6 s y wr) (hb : Below wr.heap.size wr w1) (hr : w1.ownsRow wr.heap.size 75 4 (.slice A l.length c) l.length (l.map De.vals).flatten) (ho : Only (fun k => k = g2 + 2) w1 w5)
  (hf : aC s r = ({ s' with dec := l }, 0)) (hs : s' = s) : jo B0 g2 s r (.returned (.tuple #[St.val { s with dec := l } { y with D := A, d := c }, iv 0])) w5 /\ Below w0.heap.size w0 w5 := by
 subst hs; have e1 : ko s' r = ({ s' with dec := l }, 0) := by unfold ko; rw [hf]; rfl
 obtain ⟨h1, h2⟩ := (h.later hb).o ho; have hlt := h.res.lt; have hr1 := aF hr ho fun i hi e => by have := (hr.lt i hi).1; have e2 : i = g2 + 2 := e; omega
 refine ⟨⟨{ y with D := A, d := c }, ?_, ?_⟩, h2⟩
 ·rw [e1]
 rw [e1]
 exact h1.dec hr1 (by omega)
end
set_option maxHeartbeats 4000000 in
theorem WU {B0 : Nat} {w0 : World} {g2 g6 : Nat} {s : St} {y : Sy} {r : Rc} {z : Lay} (hn : r.kind ≠ 3 -> je [1, 1, 1, 1, 1, 1, 1, 1, 1] B0 w0 g2 g6 s y r z) : je [1, 1, 1, 1, 1, 1, 1, 1] B0 w0 g2 g6 s y r z := by
 intro wr h cc hc; iterate 546 intro _
 conv at hc => rhs; whnf
 subst hc
 apply wp_seq_k
 intro K hK; have ju := ak hK; clear hK; have aN := ak h; have iu := ak hn; have q0 := h.dF.cell (j := 0) rfl; clear h hn
 go_upto_region 15 with (fail)
 by_cases hk : r.kind = 3
 ·have HK := ak hk
  have HB : Hid (aC s r = aV s r) := ak (bN aN.o.rt); rw [hk] at q0; clear hk iu; have HF : Hid (aC s r = eB s r) := ak (by rw [HB.o]; unfold aV; rw [HK.o]; rfl); have q1 := aN.o.fi.own.br.cell (j := 1) rfl; have q6 := aN.o.dF.cell (j := 6) rfl; have q9 := aN.o.dF.cell (j := 9) rfl; obtain ⟨hc, vD⟩ := ah (bp s r.cell); have j_ := ak vD; rw [vD]; clear vD
  cases hc with
  | false =>
   have fJ : Hid ((aC s r).2 = 1) := ak (by rw [HF.o]; unfold eB; rw [if_pos j_.o])
   go_upto_region 17 with (fail)
   apply wp_region_lit
   refine Go.Great.wpList_runTo rfl (some 96) rfl (.agg ZA) wr (by go_simp) ?_; refine aA rfl 41 _ _ rfl (g2 + 2) ZA ZL rfl rfl rfl (aN.o.fi).res rfl (by kernel_rfl) (by simp [Value.oneCell']) fun w5 hpt hov => ?_
   have bU := ak hpt; have cj := ak hov; clear hpt hov
   go_wp2_with fail
   refine bodyPost_ret (v := .tuple #[.agg ZA, iv 1]) ((aI (p := 4) (q := 5) (ty := 41) (by rfl) _ bU.o _ (by rfl) Tryz.underlying41 rfl (by kernel_rfl)).trans (by rfl)) rfl ?_; exact bC (aN.o.fi) cj.o (fJ.o) (by decide)
  | true =>
   by_cases hab : r.node > s.nodes
   ·have fJ : Hid ((aC s r).2 = 1) := ak (by
     rw [HF.o]; unfold eB; rw [if_neg (by rw [j_.o]; decide), if_pos (by unfold above; simpa using hab)])
    go_upto_region 17 with (fail)
    apply wp_region_lit
    refine Go.Great.wpList_runTo rfl (some 96) rfl (.agg ZA) wr (by go_simp) ?_; refine aA rfl 41 _ _ rfl (g2 + 2) ZA ZL rfl rfl rfl (aN.o.fi).res rfl (by kernel_rfl) (by simp [Value.oneCell']) fun w5 hpt hov => ?_
    have bU := ak hpt; have cj := ak hov; clear hpt hov
    go_wp2_with fail
    refine bodyPost_ret (v := .tuple #[.agg ZA, iv 1]) ((aI (p := 4) (q := 5) (ty := 41) (by rfl) _ bU.o _ (by rfl) Tryz.underlying41 rfl (by kernel_rfl)).trans (by rfl)) rfl ?_; exact bC (aN.o.fi) cj.o (fJ.o) (by decide)
   have FI : Hid (¬ above s [r.node] = true) := ak (by unfold above; simpa using Int.not_lt.1 hab)
   go_upto_region 18 with (fail)
   apply wp_region_lit
   refine aD rfl 41 _ rfl g6 (s.va y) rfl rfl (aN.o.fi.own.br) Tryz.underlying41 rfl (by kernel_rfl) ?_
   go_wp2_with fail
   refine (ji s y r.cell wr aN.o.fi.own.sees ⟨(aN.o.sm.kZ).1, (aN.o.sm.kZ).2.1⟩).mono ?_; rintro e wl ⟨rfl, hbl⟩; have aN := ak (aN.o.later hbl); clear q0 q1 q6 q9 hbl; obtain ⟨lk, hlk⟩ := ah (locked s r.cell); have Jk := ak hlk; rw [hlk]; clear hlk
   cases lk with
   | true =>
    have fJ : Hid ((aC s r).2 = 12) := ak (by
     rw [HF.o]; unfold eB; rw [if_neg (by rw [j_.o]; decide), if_neg FI.o, if_pos Jk.o])
    go_upto_region 19 with (fail)
    apply wp_region_lit
    refine Go.Great.wpList_runTo rfl (some 101) rfl (.agg ZA) wl (by go_simp) ?_; refine aA rfl 41 _ _ rfl (g2 + 2) ZA ZL rfl rfl rfl (aN.o.fi).res rfl (by kernel_rfl) (by simp [Value.oneCell']) fun w5 hpt hov => ?_
    have bU := ak hpt; have cj := ak hov; clear hpt hov
    go_wp2_with fail
    refine bodyPost_ret (v := .tuple #[.agg ZA, iv 12]) ((aI (p := 4) (q := 5) (ty := 41) (by rfl) _ bU.o _ (by rfl) Tryz.underlying41 rfl (by kernel_rfl)).trans (by rfl)) rfl ?_; exact bC (aN.o.fi) cj.o (fJ.o) (by decide)
   | false =>
    obtain ⟨pb, k, pl, hP, gH, hkl, hpl, _⟩ := aN.o.fi.own.place j_.o; have hcs := aN.o.fi.own.br.cell (j := 4) rfl; rw [hP] at hcs; have q9 := aN.o.dF.cell (j := 9) rfl; have Fl := aN.o.dF.cell (j := 10) rfl; have uN := aN.o.dF.cell (j := 11) rfl; have q6 := aN.o.dF.cell (j := 6) rfl; have wP := aN.o.dF.cell (j := 12) rfl; have Bc := aN.o.dF.cell (j := 13) rfl; rw [gH] at q9; obtain ⟨n, hn⟩ := ah s.places.length; have HN := ak hn; rw [hn] at hcs hkl; have z1 : (0 : Int) <= (k : Int) := by omega
    have z2 : (k : Int) < (n : Int) := by omega
    obtain ⟨hfi, Bd⟩ := aN.o.fi.place hP ⟨r.status, r.hop, r.node, r.version, r.value⟩ (k := k) (by rw [hn]; exact hkl) [iv r.status, iv r.hop, iv r.node, iv r.version, iv r.value] 0 (by simp [Value.oneCell']) (by show 0 + 5 <= 5; decide) (fun q _ => by rfl)
    have Fv := ak Bd; obtain ⟨s', hs'⟩ : ∃ x, bJ s (k : Int) ⟨r.status, r.hop, r.node, r.version, r.value⟩ = x := ⟨_, rfl⟩; have kX : Hid (aC s r = (s', 0)) := ak (by
     rw [HF.o]; unfold eB; rw [if_neg (by rw [j_.o]; decide), if_neg FI.o, if_neg (by rw [Jk.o]; decide), gH, hs'])
    rw [hs'] at hfi; have eY := ak hfi; clear hfi Bd hs' hn hpl gH hP
    go_upto_region 20 with (fail)
    apply wp_region_lit
    refine Go.Great.wpList_runTo rfl (some 102) rfl (.pointer (some ⟨g6, 4, none⟩)) wl (by go_simp) ?_; simp only [Act.put, List.setIfInBounds_toArray, List.set_cons_succ, List.set_cons_zero]; refine Go.Great.wpList_runTo rfl (some 103) rfl (.slice (some ⟨pb, 0, none⟩) n y.p) wl (by go_simp) ?_; simp only [Act.put, List.setIfInBounds_toArray, List.set_cons_succ, List.set_cons_zero]; refine Go.Great.wpList_runTo rfl (some 104) rfl (.pointer (some ⟨g2 + 1, 9, none⟩)) wl (by go_simp) ?_; simp only [Act.put, List.setIfInBounds_toArray, List.set_cons_succ, List.set_cons_zero]; refine Go.Great.wpList_runTo rfl (some 105) rfl (iv (k : Int)) wl (by go_simp) ?_; simp only [Act.put, List.setIfInBounds_toArray, List.set_cons_succ, List.set_cons_zero]; refine Go.Great.wpList_runTo rfl (some 106) rfl (.pointer (some ⟨g2 + 1, 10, none⟩)) wl (by go_simp) ?_; simp only [Act.put, List.setIfInBounds_toArray, List.set_cons_succ, List.set_cons_zero]; refine Go.Great.wpList_runTo rfl (some 107) rfl (iv r.status) wl (by go_simp) ?_; simp only [Act.put, List.setIfInBounds_toArray, List.set_cons_succ, List.set_cons_zero]; refine Go.Great.wpList_runTo rfl (some 108) rfl (.pointer (some ⟨g2 + 1, 11, none⟩)) wl (by go_simp) ?_; simp only [Act.put, List.setIfInBounds_toArray, List.set_cons_succ, List.set_cons_zero]; refine Go.Great.wpList_runTo rfl (some 109) rfl (iv r.hop) wl (by go_simp) ?_; simp only [Act.put, List.setIfInBounds_toArray, List.set_cons_succ, List.set_cons_zero]; refine Go.Great.wpList_runTo rfl (some 110) rfl (.pointer (some ⟨g2 + 1, 6, none⟩)) wl (by go_simp) ?_; simp only [Act.put, List.setIfInBounds_toArray, List.set_cons_succ, List.set_cons_zero]; refine Go.Great.wpList_runTo rfl (some 111) rfl (iv r.node) wl (by go_simp) ?_; simp only [Act.put, List.setIfInBounds_toArray, List.set_cons_succ, List.set_cons_zero]; refine Go.Great.wpList_runTo rfl (some 112) rfl (.pointer (some ⟨g2 + 1, 12, none⟩)) wl (by go_simp) ?_; simp only [Act.put, List.setIfInBounds_toArray, List.set_cons_succ, List.set_cons_zero]; refine Go.Great.wpList_runTo rfl (some 113) rfl (iv r.version) wl (by go_simp) ?_; simp only [Act.put, List.setIfInBounds_toArray, List.set_cons_succ, List.set_cons_zero]; refine Go.Great.wpList_runTo rfl (some 114) rfl (.pointer (some ⟨g2 + 1, 13, none⟩)) wl (by go_simp) ?_; simp only [Act.put, List.setIfInBounds_toArray, List.set_cons_succ, List.set_cons_zero]; refine Go.Great.wpList_runTo rfl (some 115) rfl (iv r.value) wl (by go_simp) ?_; simp only [Act.put, List.setIfInBounds_toArray, List.set_cons_succ, List.set_cons_zero]; refine Go.Great.wpList_runTo rfl (some 116) rfl (.agg #[iv r.status, iv r.hop, iv r.node, iv r.version, iv r.value]) wl (by go_simp) ?_; simp only [Act.put, List.setIfInBounds_toArray, List.set_cons_succ, List.set_cons_zero]; refine Go.Great.wpList_runTo rfl (some 117) rfl (.pointer (some ⟨pb, k * 5, none⟩)) wl (by go_simp) ?_; simp only [Act.put, List.setIfInBounds_toArray, List.set_cons_succ, List.set_cons_zero]; refine wpList_store_mid rfl 69 _ _ rfl pb (k * 5 + 0) #[iv r.status, iv r.hop, iv r.node, iv r.version, iv r.value] rfl rfl Fv.o (by kernel_rfl) (by kernel_rfl) ?_; obtain ⟨wq, lU⟩ := aj (wl.setCells pb (k * 5 + 0) [iv r.status, iv r.hop, iv r.node, iv r.version, iv r.value]); rw [<- lU] at eY; rw [show (#[Value.int .i64 r.status, iv r.hop, iv r.node, iv r.version, iv r.value] : Array Value).toList = [iv r.status, iv r.hop, iv r.node, iv r.version, iv r.value] from rfl, <- lU]
    clear lU hcs q9 Fl uN q6 wP Bc z1 z2 hkl
    go_upto_region 21 with (fail)
    apply wp_region_lit
    refine aD rfl 41 _ rfl g6 (s'.va y) rfl rfl (eY.o.own.br) Tryz.underlying41 rfl (by kernel_rfl) ?_; refine aA rfl 41 _ _ rfl (g2 + 2) (s'.va y) (s'.vl y) rfl rfl rfl (eY.o).res rfl (by kernel_rfl) (by kernel_rfl) fun w5 hpt hov => ?_
    have bU := ak hpt; have cj := ak hov; clear hpt hov
    go_wp2_with fail
    refine bodyPost_ret (v := .tuple #[.agg (s'.va y), iv 0]) ((aI (p := 4) (q := 5) (ty := 41) (by rfl) _ bU.o _ (by rfl) Tryz.underlying41 rfl (by kernel_rfl)).trans (by rfl)) rfl ?_; exact jS (eY.o) cj.o (kX.o) rfl
 have fL := ak (iu.o hk)
 go_wp2_with fail
 exact ju.o _ _ (by apply fL.o _ aN.o _ (by kernel_rfl))
theorem On.aaj {B0 : Nat} {w0 wr we : World} {g2 g6 g : Nat} {s : St} {y : Sy} {r : Rc} {z : Lay} (h : On B0 w0 g2 g6 s y r z wr) (hb : Below wr.heap.size wr we) (hg : Cells we g 77 ((dw r).vals z)) :
  ∃ A n c w2, (Builtin.append_ #[39, 39] 39 #[.slice y.C s.com.length y.c, .slice (some ⟨g, 0, none⟩) 1 1]).run Tryz.prog we = .ok (.slice A n c) w2 /\ w2.cell? ⟨g6, 7, none⟩ = some (.slice y.C s.com.length y.c) /\ w2.frozen? ⟨g6, 7, none⟩ = false /\
   Fi B0 w0 g2 g6 { s with com := s.com ++ [dw r] } { y with C := A, c := c, cs := y.cs ++ [z] } (w2.setCell ⟨g6, 7, none⟩ (.slice A n c)) := by
 have ho := h.fi.own.later hb; have hgt := h.fi.gt; have hcs := ho.lists.cs; have hzl := cY Co.vals hcs; have hbase : B0 <= we.heap.size := by have := h.fi.low.size; have := hb.size; omega
 have hsm := h.sm.com; have hfx : Fit 6 [(dw r).vals z] := ⟨fun u hu => by rw [List.mem_singleton.1 hu]; rfl, fun u hu => by rw [List.mem_singleton.1 hu]; exact vQ (dw r) z⟩; obtain ⟨v', w2, hrun, hr2, hgr, hnew⟩ := aZ (fM 3) we 39 B0 (.slice y.C s.com.length y.c) (List.zipWith Co.vals s.com y.cs) [(dw r).vals z] (some ⟨g, 0, none⟩) 1 (iI _ _) hfx (by rw [hzl]; exact ho.lists.jw) (cW (by simpa using hg) hfx.len) (fun e => by cases e) (by rw [hzl, List.length_singleton]; omega) hbase; have e1 : List.zipWith Co.vals s.com y.cs ++ [(dw r).vals z] = List.zipWith Co.vals (s.com ++ [dw r]) (y.cs ++ [z]) := by rw [List.zipWith_append hcs.symm]; rfl
 have hlen : (y.cs ++ [z]).length = (s.com ++ [dw r]).length := by rw [List.length_append, List.length_append, hcs]; rfl
 rw [e1, cY Co.vals hlen] at hr2; obtain ⟨A, c, rfl⟩ := bD hr2; have hgo := Only.fP hgr; rw [aK, aK] at hnew; have vI : Only (fun k => some k = blk y.C) we w2 := hgo.mono fun k _ e => by rw [aK] at e; exact e
 have DA : ∀ j, blk A = some j -> blk y.C = some j \/ we.heap.size <= j := fun j e => by
  rcases hnew with e2 | e2
  ·exact Or.inl (e2.symm.trans e)
  have : j = we.heap.size := Option.some.inj (e.symm.trans e2)
  exact Or.inr (by omega)
 have cV := aJ ho.br vI (fun e => ho.off (Or.inr (Or.inr (Or.inr e)))); have hrows : ∀ j, rowsOf { y with C := A, c := c, cs := y.cs ++ [z] } j -> rowsOf y j \/ we.heap.size <= j := fun j e => GD DA e
 have eZ := Only.b_ w2 ⟨g6, 7, none⟩ (.slice A (s.com ++ [dw r]).length c); have hbz := hb.size; have hrl := h.fi.own.room; have hfc : ∀ j, blk y.C = some j -> g2 + 3 <= j := fun j e => h.fi.far j (Or.inr (Or.inr (Or.inr e.symm)))
 have hall : Only (fun j => some j = blk y.C \/ j = g6) we (w2.setCell ⟨g6, 7, none⟩ (.slice A (s.com ++ [dw r]).length c)) := (vI.mono fun _ _ e => Or.inl e).trans eZ fun _ _ e => Or.inr e
 refine ⟨A, _, c, w2, hrun, cV.cell (j := 7) rfl, cV.frozen (j := 7) (by unfold St.vals; simp), ⟨?_, hgt, ?_, ?_, fun k hk => ?_⟩⟩
 ·refine (h.fi.low.trans (hb.mono h.fi.low.size)).trans (hall.below (Nat.le_trans h.fi.low.size hb.size) fun j e => ?_)
  rcases e with e | e
  ·have := hfc j e.symm; omega
  omega
 ·refine aJ (h.fi.res.later hb) hall fun e => ?_
  rcases e with e | e
  ·have := hfc _ e.symm; omega
  omega
 ·refine ho.newC (l' := s.com ++ [dw r]) vI hr2 hlen DA (fun j h1 h2 => ?_) eZ (cV.fB 7 _)
  have hT : ∀ i, (uM B0 g6 i \/ rowsOf { y with C := A, c := c, cs := y.cs ++ [z] } i) -> (uM B0 g6 i \/ rowsOf y i) \/ we.heap.size <= i := fun i e => by
   rcases e with e | e
   ·exact Or.inl (Or.inl e)
   exact (hrows i e).imp_left Or.inr
  by_cases hlt : j < s.com.length
  ·rw [List.getElem_append_left hlt, List.getElem_append_left (by omega)]
   exact (ho.lists.cin j hlt (by omega)).next (vI.mono fun _ _ e => Or.inr (Or.inr (Or.inr (Or.inr e)))) hT
  have hj : j = s.com.length := by simp at h1; omega
  subst hj; rw [List.getElem_append_right (Nat.le_refl _), List.getElem_append_right (by omega)]; simp only [Nat.sub_self, hcs, List.getElem_singleton]; refine (h.fr.later hb).next (vI.mono fun j _ e => by have := hfc j e.symm; omega) fun i e => ?_
  rcases hT i e with e | e
  ·rcases e with e | e
   ·exact Or.inl e
   exact Or.inl (Nat.le_trans (by omega) (h.fi.far i e))
  exact Or.inr e
 rcases hrows k hk with e | e
 ·exact h.fi.far k e
 omega
theorem tK (s : St) {l : List Int} {k : Nat} (h : k < l.length) : above s (l.take (k + 1)) = (above s (l.take k) || decide (s.nodes < l[k])) := by
 unfold above; rw [List.take_succ_eq_append_getElem h, List.any_append]
 simp
theorem Er {l : List Int} : ∀ {a : Int}, dS a l = true -> l = [] \/ (l.length : Int) + a <= 16 := by
 induction l with
 | nil => intro _ _; exact Or.inl rfl
 | cons n l ih =>
  intro a h; unfold dS at h; simp only [Bool.and_eq_true, decide_eq_true_eq] at h; refine Or.inr ?_; rw [List.length_cons]; rcases ih h.2 with e | e
  ·rw [e]; simp only [List.length_nil]; omega
  omega
theorem xL {r : Rc} (h : right r = true) (hf : (10 : Int) ∈ fl r.kind) : r.nodes.length <= 16 := by
 rcases Er (jq h hf) with e | e
 ·rw [e]; simp
 omega
set_option maxHeartbeats 4000000 in
theorem WQ {B0 : Nat} {w0 : World} {g2 g6 : Nat} {s : St} {y : Sy} {r : Rc} {z : Lay} (hn : r.kind ≠ 5 -> je [1, 1, 1, 1, 1, 1, 1, 1, 1, 1, 1, 1, 1] B0 w0 g2 g6 s y r z) : je [1, 1, 1, 1, 1, 1, 1, 1, 1, 1, 1, 1] B0 w0 g2 g6 s y r z := by
 intro wr h cc hc; iterate 546 intro _
 conv at hc => rhs; whnf
 subst hc
 apply wp_seq_k
 intro K hK; have ju := ak hK; clear hK; have aN := ak h; have iu := ak hn; have q0 := h.dF.cell (j := 0) rfl; clear h hn
 go_upto_region 83 with (fail)
 by_cases hk : r.kind = 5
 ·have HK := ak hk
  have HB : Hid (aC s r = aV s r) := ak (bN aN.o.rt); rw [hk] at q0; clear hk iu; have HF : Hid (aC s r = cQ s r) := ak (by rw [HB.o]; unfold aV; rw [HK.o]; rfl); have q1 := aN.o.dF.cell (j := 1) rfl; have m0 := aN.o.fi.own.br.cell (j := 0) rfl; obtain ⟨d, hd⟩ := ah (decide (r.tid.node ≠ s.node)); have rK := ak hd; clear hd
  go_upto_region 84 with (fail)
  go_cut [21] from 382 to 387 (fun v wx => v = .bool d /\ wx = wr)
  case first =>
   by_cases hne : r.tid.node = s.node
   ·obtain rfl : d = false := by rw [<- rK.o]; exact decide_eq_false fun e => e hne
    go_wp2_with fail
    go_meet
    exact ⟨rfl, rfl⟩
   obtain rfl : d = true := by rw [<- rK.o]; exact decide_eq_true hne
   go_wp2_with fail
   go_meet
   exact ⟨by simp [hne], rfl⟩
  obtain ⟨rfl, rfl⟩ := hcut; clear q0 q1 m0; obtain ⟨n, hn⟩ := ah r.nodes.length; have HN := ak hn; have Gz : Hid (n <= 1000) := ak (by have := xL aN.o.rt (by rw [HK.o]; decide); omega)
  have aaF := Gz.o; clear hn
  go_wp2_with fail
  go_loopw [21, 22] (fun v i wq => ∃ k : Nat, k <= n /\ i = iv (k : Int) /\ v = .bool (d || above s (r.nodes.take k)) /\ Hid (Below wc.heap.size wc wq)) (fun _ i _ => n - (intOf i).toNat)
  case atStart => exact ⟨0, Nat.zero_le _, rfl, by simp [above], ak (Below.refl _ _)⟩
  case round =>
   obtain ⟨k, hkn, rfl, rfl, mV⟩ := hrel; have jP := ak (aN.o.later mV.o); have q5 := jP.o.dF.cell (j := 5) rfl; rw [HN.o] at q5
   by_cases hlt : k < n
   ·have hkl : k < r.nodes.length := by rw [HN.o]; exact hlt
    obtain ⟨nb, off, hB, x0⟩ := jP.o.fr.two.2.1 k hkl; rw [hB] at q5; obtain ⟨p, hp⟩ := ah (r.nodes[k]); rw [hp] at x0; have m1 := jP.o.fi.own.br.cell (j := 1) rfl; have hat := tK s hkl; rw [hp] at hat; obtain ⟨bv, wQ⟩ := ah (d || above s (r.nodes.take k)); have lD : Hid ((d || above s (r.nodes.take (k + 1))) = (bv || decide (s.nodes < p))) := ak (by rw [hat, <- wQ, Bool.or_assoc]); rw [wQ]; have z1 : (0 : Int) <= (k : Int) := by omega
    have z2 : (k : Int) < (n : Int) := by omega
    clear hkl hB hp hat wQ
    cases bv with
    | true =>
     go_upto_region 88 with (fail)
     go_quiet (fail)
     go_wp2_with fail
     go_roundw
     case rel => exact ⟨k + 1, by omega, by go_num, by rw [lD.o]; rfl, ak (mV.o.trans ⟨rfl, rfl, rfl, Nat.le_refl _, fun _ _ => rfl⟩)⟩
     case measure => simp [intOf]; omega
    | false =>
     go_upto_region 88 with (fail)
     go_quiet (fail)
     go_wp2_with fail
     go_roundw
     case rel => exact ⟨k + 1, by omega, by go_num, by rw [lD.o]; rfl, ak (mV.o.trans ⟨rfl, rfl, rfl, Nat.le_refl _, fun _ _ => rfl⟩)⟩
     case measure => simp [intOf]; omega
   obtain rfl : k = n := by omega
   have hall : r.nodes.take k = r.nodes := List.take_of_length_le (by rw [HN.o]; exact Nat.le_refl _); rw [hall]; clear hall; have aN := jP; obtain ⟨bv, wQ⟩ := ah (d || above s r.nodes); have XI := ak wQ; rw [wQ]; clear wQ
   cases bv with
   | true =>
    have fJ : Hid ((aC s r).2 = 1) := ak (by
     rw [HF.o]; unfold cQ
     by_cases e : r.tid.node ≠ s.node
     ·rw [if_pos e]
     rw [if_neg e, if_pos (by have := XI.o; rw [<- rK.o, decide_eq_false e, Bool.false_or] at this; exact this)])
    go_upto_region 90 with (fail)
    apply wp_region_lit
    refine Go.Great.wpList_runTo rfl (some 407) rfl (.agg ZA) wr (by go_simp) ?_; refine aA rfl 41 _ _ rfl (g2 + 2) ZA ZL rfl rfl rfl (aN.o.fi).res rfl (by kernel_rfl) (by simp [Value.oneCell']) fun w5 hpt hov => ?_
    have bU := ak hpt; have cj := ak hov; clear hpt hov
    go_wp2_with fail
    refine bodyPost_ret (v := .tuple #[.agg ZA, iv 1]) ((aI (p := 4) (q := 5) (ty := 41) (by rfl) _ bU.o _ (by rfl) Tryz.underlying41 rfl (by kernel_rfl)).trans (by rfl)) rfl ?_; exact bC (aN.o.fi) cj.o (fJ.o) (by decide)
   | false =>
    have JO : Hid (d = false /\ above s r.nodes = false) := ak (by
     have := XI.o; rw [Bool.or_eq_false_iff] at this; exact this)
    have r_ : Hid (¬ r.tid.node ≠ s.node) := ak (of_decide_eq_false (rK.o.trans JO.o.1)); have q1 := aN.o.dF.cell (j := 1) rfl; have q2 := aN.o.dF.cell (j := 2) rfl; have q3 := aN.o.dF.cell (j := 3) rfl
    go_upto_region 91 with (fail)
    clear q5
    apply wp_region_lit
    refine aD rfl 41 _ rfl g6 (s.va y) rfl rfl (aN.o.fi.own.br) Tryz.underlying41 rfl (by kernel_rfl) ?_
    go_wp2_with fail
    refine (iE s y r.tid wr aN.o.fi.own.sees (aN.o.sm.kZ).2.2.2).mono ?_; rintro e wl ⟨rfl, hbl⟩; have aN := ak (aN.o.later hbl); clear q1 q2 q3 hbl; obtain ⟨f, hf⟩ := ah (cE s r.tid); have wW := ak hf; rw [hf]; clear hf
    by_cases ud : 0 <= f
    ·have fJ : Hid ((aC s r).2 = 9) := ak (by rw [HF.o]; unfold cQ; rw [if_neg r_.o, if_neg (by rw [JO.o.2]; decide), wW.o, if_pos ud])
     go_upto_region 92 with (fail)
     apply wp_region_lit
     refine Go.Great.wpList_runTo rfl (some 413) rfl (.agg ZA) wl (by go_simp) ?_; refine aA rfl 41 _ _ rfl (g2 + 2) ZA ZL rfl rfl rfl (aN.o.fi).res rfl (by kernel_rfl) (by simp [Value.oneCell']) fun w5 hpt hov => ?_
     have bU := ak hpt; have cj := ak hov; clear hpt hov
     go_wp2_with fail
     refine bodyPost_ret (v := .tuple #[.agg ZA, iv 9]) ((aI (p := 4) (q := 5) (ty := 41) (by rfl) _ bU.o _ (by rfl) Tryz.underlying41 rfl (by kernel_rfl)).trans (by rfl)) rfl ?_; exact bC (aN.o.fi) cj.o (fJ.o) (by decide)
    have Jm := ak ud
    have c7 := aN.o.fi.own.br.cell (j := 7) rfl; obtain ⟨nc, hnc⟩ := ah s.com.length; have YK := ak hnc; rw [hnc] at c7; clear hnc
    by_cases SX : 512 <= nc
    ·have fJ : Hid ((aC s r).2 = 6) := ak (by rw [HF.o]; unfold cQ; rw [if_neg r_.o, if_neg (by rw [JO.o.2]; decide), wW.o, if_neg Jm.o, YK.o, if_pos SX])
     have h3 : (512 : Int) <= (nc : Int) := by omega
     go_upto_region 94 with (fail)
     apply wp_region_lit
     refine Go.Great.wpList_runTo rfl (some 418) rfl (.agg ZA) wl (by go_simp) ?_; refine aA rfl 41 _ _ rfl (g2 + 2) ZA ZL rfl rfl rfl (aN.o.fi).res rfl (by kernel_rfl) (by simp [Value.oneCell']) fun w5 hpt hov => ?_
     have bU := ak hpt; have cj := ak hov; clear hpt hov
     go_wp2_with fail
     refine bodyPost_ret (v := .tuple #[.agg ZA, iv 6]) ((aI (p := 4) (q := 5) (ty := 41) (by rfl) _ bU.o _ (by rfl) Tryz.underlying41 rfl (by kernel_rfl)).trans (by rfl)) rfl ?_; exact bC (aN.o.fi) cj.o (fJ.o) (by decide)
    have h3 : ¬ (512 : Int) <= (nc : Int) := by omega
    have kX : Hid (aC s r = ({ s with com := s.com ++ [dw r] }, 0)) := ak (by rw [HF.o]; unfold cQ; rw [if_neg r_.o, if_neg (by rw [JO.o.2]; decide), wW.o, if_neg Jm.o, YK.o, if_neg SX]); have q1 := aN.o.dF.cell (j := 1) rfl; have q2 := aN.o.dF.cell (j := 2) rfl; have q3 := aN.o.dF.cell (j := 3) rfl; have q4 := aN.o.dF.cell (j := 4) rfl; have q5 := aN.o.dF.cell (j := 5) rfl; obtain ⟨we, jf⟩ := aj (wl.alloc (.cells #[iv r.tid.node, iv r.tid.epoch, iv r.tid.seq, .slice z.A r.items.length z.c, .slice z.B r.nodes.length z.d, .bool false] 77)); have tV : Below wl.heap.size wl we := by rw [jf]; exact av _ _
    have hce : Cells we wl.heap.size 77 ((dw r).vals z) := by rw [jf]; exact aB _ _ _ _ rfl
    obtain ⟨A9, n9, c9, w2, hrun, x7, hf7, hfi⟩ := aN.o.aaj tV hce; rw [YK.o] at hrun x7; have dQ := ak hrun; obtain ⟨s', hs'⟩ : ∃ x, ({ s with com := s.com ++ [dw r] } : St) = x := ⟨_, rfl⟩; obtain ⟨y', hy'⟩ : ∃ x, ({ y with C := A9, c := c9, cs := y.cs ++ [z] } : Sy) = x := ⟨_, rfl⟩; rw [hs', hy'] at hfi; rw [hs'] at kX; have eY := ak hfi; obtain ⟨wq, lU⟩ := aj (w2.setCell ⟨g6, 7, none⟩ (.slice A9 n9 c9)); rw [<- lU] at eY; clear hrun hfi hs' hy' tV hce
    go_upto_region 95 with (fail)
    go_upto_region 96 with (at_builtin; rw [<- jf]; refine Lib.wpList_append_run we rfl (.tmp 420) (.tmp 428) 39 39 rfl (.slice y.C nc y.c) (.slice (some ⟨wl.heap.size, 0, none⟩) 1 1) rfl rfl _ _ dQ.o ?_)
    rw [<- lU]; clear lU jf q1 q2 q3 q4 q5 x7 hf7 c7
    apply wp_region_lit
    refine aD rfl 41 _ rfl g6 (s'.va y') rfl rfl (eY.o.own.br) Tryz.underlying41 rfl (by kernel_rfl) ?_; refine aA rfl 41 _ _ rfl (g2 + 2) (s'.va y') (s'.vl y') rfl rfl rfl (eY.o).res rfl (by kernel_rfl) (by kernel_rfl) fun w5 hpt hov => ?_
    have bU := ak hpt; have cj := ak hov; clear hpt hov
    go_wp2_with fail
    refine bodyPost_ret (v := .tuple #[.agg (s'.va y'), iv 0]) ((aI (p := 4) (q := 5) (ty := 41) (by rfl) _ bU.o _ (by rfl) Tryz.underlying41 rfl (by kernel_rfl)).trans (by rfl)) rfl ?_; exact jS (eY.o) cj.o (kX.o) rfl
 have fL := ak (iu.o hk)
 go_wp2_with fail
 exact ju.o _ _ (by apply fL.o _ aN.o _ (by kernel_rfl))
