/- Part 42 of the proof. Conditions: none. -/
import Derived.Test.YtdkchpiinelmiaaGreatZ41
import Derived.Test.YtdkchpiinelmiaaGreatZ11
namespace Go.Proofs.YtdkchpiinelmiaaGreat.Led
set_option maxRecDepth 100000
open Go.RowKit Mem fN Rec
theorem lS (os : List Int) (h : ∀ a b : Nat, a <= b -> (os[b]?).getD 0 < 0 -> (os[a]?).getD 0 < 0) : ∀ (m i j : Nat), j - i <= m -> i <= j -> j <= os.length -> (∀ a : Nat, a < i -> (os[a]?).getD 0 < 0) -> (∀ a : Nat, j <= a -> ¬ (os[a]?).getD 0 < 0) ->
  (∀ a : Nat, a < jd m os i j -> (os[a]?).getD 0 < 0) /\ ∀ a : Nat, jd m os i j <= a -> ¬ (os[a]?).getD 0 < 0
 | 0, i, j, hm, hij, _, h1, h2 => by
  have : i = j := by omega
  subst this; exact ⟨h1, h2⟩
 | m + 1, i, j, hm, hij, hj, h1, h2 => by
  unfold jd
  split
  ·rename_i hlt
   split
   ·rename_i ho
    exact lS os h m _ _ (by omega) (by omega) hj (fun a ha => h a _ (by omega) ho) h2
   rename_i ho
   exact lS os h m _ _ (by omega) (by omega) (by omega) h1 (fun a ha hn => ho (h _ a ha hn))
  have : i = j := by omega
  subst this; exact ⟨h1, h2⟩
theorem lT (os : List Int) (h : ∀ a b : Nat, a <= b -> (os[b]?).getD 0 < 0 -> (os[a]?).getD 0 < 0) : (∀ a : Nat, a < fC os -> (os[a]?).getD 0 < 0) /\ ∀ a : Nat, fC os <= a -> ¬ (os[a]?).getD 0 < 0 :=
 lS os h os.length 0 os.length (by omega) (Nat.zero_le _) (Nat.le_refl _) (fun a ha => absurd ha (by omega)) (fun a ha => by
  rw [List.getElem?_eq_none ha]
  decide)
theorem mK {α : Type} (R : α -> α -> Prop) (o : α -> Int) (l : List α) (x : α) (hl : l.Pairwise R) (fO : ∀ y ∈ l, o y < 0 -> R y x) (WX : ∀ y ∈ l, ¬ o y < 0 -> R x y) (hmono : ∀ y ∈ l, ∀ z ∈ l, R y z -> o z < 0 -> o y < 0) :
  (fU l (fC (l.map o)) x).Pairwise R := by
 have hget : ∀ (a : Nat) (ha : a < l.length), ((l.map o)[a]?).getD 0 = o l[a] := fun a ha => by
  rw [List.getElem?_map, List.getElem?_eq_getElem ha]
  rfl
 have hm : ∀ a b : Nat, a <= b -> ((l.map o)[b]?).getD 0 < 0 -> ((l.map o)[a]?).getD 0 < 0 := fun a b hab hb => by
  by_cases hbl : b < l.length
  ·rw [hget b hbl] at hb
   rw [hget a (by omega)]
   by_cases e : a = b
   ·subst e; exact hb
   exact hmono _ (List.getElem_mem _) _ (List.getElem_mem _) (List.pairwise_iff_getElem.1 hl a b (by omega) hbl (by omega)) hb
  rw [List.getElem?_eq_none (by rw [List.length_map]; omega)] at hb
  exact absurd hb (by decide)
 obtain ⟨s1, s2⟩ := lT (l.map o) hm; unfold fU; rw [List.pairwise_append, List.pairwise_cons]; refine ⟨hl.sublist (List.take_sublist _ _), ⟨fun y hy => ?_, hl.sublist (List.drop_sublist _ _)⟩, fun y hy z hz => ?_⟩
 ·obtain ⟨i, hi, rfl⟩ := List.mem_iff_getElem.1 hy
  rw [List.getElem_drop]; rw [List.length_drop] at hi; have := s2 (fC (l.map o) + i) (by omega); rw [hget _ (by omega)] at this; exact WX _ (List.getElem_mem _) this
 obtain ⟨i, hi, rfl⟩ := List.mem_iff_getElem.1 hy
 rw [List.length_take] at hi; rcases List.mem_cons.1 hz with rfl | hz
 ·rw [List.getElem_take]
  have := s1 i (by omega); rw [hget _ (by omega)] at this; exact fO _ (List.getElem_mem _) this
 obtain ⟨j, hj, rfl⟩ := List.mem_iff_getElem.1 hz
 rw [List.length_drop] at hj; rw [List.getElem_take, List.getElem_drop]; exact List.pairwise_iff_getElem.1 hl _ _ (by omega) (by omega) (by omega)
def m5 (a b : cT) : Prop := a.node < b.node \/ a.node = b.node /\ (a.epoch < b.epoch \/ a.epoch = b.epoch /\ a.seq < b.seq)
theorem tC (a b : cT) : (ord a b = -1 /\ m5 a b) \/ (ord a b = 0 /\ a = b) \/ (ord a b = 1 /\ m5 b a) := by
 obtain ⟨a1, a2, a3⟩ := a; obtain ⟨b1, b2, b3⟩ := b; simp only [ord, gy, eK, m5, cT.mk.injEq]
 by_cases x1 : a1 < b1
 ·exact Or.inl ⟨by rw [if_pos x1]; rfl, Or.inl x1⟩
 by_cases y1 : b1 < a1
 ·exact Or.inr (Or.inr ⟨by rw [if_neg x1, if_pos y1]; rfl, Or.inl y1⟩)
 have e1 : a1 = b1 := by omega
 rw [if_neg x1, if_neg y1, if_pos rfl]
 by_cases x2 : a2 < b2
 ·exact Or.inl ⟨by rw [if_pos x2]; rfl, Or.inr ⟨e1, Or.inl x2⟩⟩
 by_cases y2 : b2 < a2
 ·exact Or.inr (Or.inr ⟨by rw [if_neg x2, if_pos y2]; rfl, Or.inr ⟨e1.symm, Or.inl y2⟩⟩)
 have e2 : a2 = b2 := by omega
 rw [if_neg x2, if_neg y2, if_pos rfl]
 by_cases x3 : a3 < b3
 ·exact Or.inl ⟨by rw [if_pos x3]; rfl, Or.inr ⟨e1, Or.inr ⟨e2, x3⟩⟩⟩
 by_cases y3 : b3 < a3
 ·exact Or.inr (Or.inr ⟨by rw [if_neg x3, if_pos y3]; rfl, Or.inr ⟨e1.symm, Or.inr ⟨e2.symm, y3⟩⟩⟩)
 have e3 : a3 = b3 := by omega
 rw [if_neg x3, if_neg y3, if_pos rfl]; exact Or.inr (Or.inl ⟨rfl, e1, e2, e3⟩)
theorem yt (a : cT) : ¬ m5 a a := by unfold m5; omega
theorem z_ {a b : cT} (h : m5 a b) : ¬ m5 b a := by unfold m5 at *; omega
theorem jY {a b c : cT} (h : m5 a b) (k : m5 b c) : m5 a c := by unfold m5 at *; omega
theorem bT (a b : cT) : ord a b < 0 ↔ m5 a b := by
 rcases tC a b with ⟨h, k⟩ | ⟨h, k⟩ | ⟨h, k⟩
 ·exact ⟨fun _ => k, fun _ => by omega⟩
 ·subst k
  exact ⟨fun h2 => by omega, fun h2 => absurd h2 (yt _)⟩
 exact ⟨fun h2 => by omega, fun h2 => absurd k (z_ h2)⟩
theorem xK {a b : cT} (h : ¬ ord a b < 0) (hne : a ≠ b) : ord b a < 0 := by
 rcases tC a b with ⟨h1, k⟩ | ⟨h1, k⟩ | ⟨h1, k⟩
 ·omega
 ·exact absurd k hne
 exact (bT _ _).2 k
structure Gp (m : Int) (q : Pl) : Prop where
 st : 0 <= q.status /\ q.status <= 2
 hop : 0 <= q.hop /\ q.hop <= 1099511627776
 ver : 0 <= q.version /\ q.version <= 1099511627776
 val : lW q.value
 to2 : q.status = 2 -> 1 <= q.to /\ q.to <= 16 /\ q.to <= m
 to0 : q.status ≠ 2 -> q.to = 0
structure Good (s : St) : Prop where
 inv : Inv s
 nn : 1 <= s.nodes /\ s.nodes <= 16 /\ 1 <= s.node /\ s.node <= s.nodes
 cells : s.cells = (s.places.length : Int) /\ 1 <= s.places.length /\ s.places.length <= 16
 ep : 0 <= s.epoch /\ s.epoch <= 1099511627776
 pl : ∀ c, bp s c = true -> Gp s.nodes (cw s c)
 ds : s.dec.Pairwise fun a b => ord a.tid b.tid < 0
 ps : s.ay.Pairwise fun a b => ord a.tid b.tid < 0
 dr : ∀ d ∈ s.dec, cF d.tid = true /\ d.tid.node <= s.nodes
 pr : ∀ p ∈ s.ay, p.tid.node <= s.nodes /\ aY p.items = true /\ bn p.nodes = true /\ above s p.nodes = false /\ cX s p.nodes = true /\ ∀ x ∈ p.items, lW x.new
 room : s.ay.length + s.dec.length <= 512
 cr : ∀ c ∈ s.com, cF c.tid = true /\ c.tid.node = s.node /\ (c.items = [] \/ aY c.items = true) /\ bn c.nodes = true /\ above s c.nodes = false
 ct : (s.com.map Co.tid).Nodup
 cl : s.com.length <= 512
theorem j5 {s : St} {m : Int} (h : ¬ above s [m] = true) : m <= s.nodes := by
 unfold above at h
 simp at h
 exact h
theorem yh {s t : St} (h : t.nodes = s.nodes) (l : List Int) : above t l = above s l := by unfold above; rw [h]
theorem EI {s t : St} (h : t.node = s.node) (l : List Int) : cX t l = cX s l := by unfold cX; rw [h]
theorem Good.bJ {s : St} (h : Good s) {c : Int} {q : Pl} (hi : Inv (bJ s c q)) (hc : bp s c = true) (hq : Gp s.nodes q) : Good (bJ s c q) := by
 refine ⟨hi, h.nn, ⟨by show s.cells = _; rw [h.cells.1]; unfold Led.bJ; simp, by unfold Led.bJ; simp only [List.length_set]; exact h.cells.2.1, by unfold Led.bJ; simp only [List.length_set]; exact h.cells.2.2⟩, h.ep, fun c' hc' => ?_, h.ds, h.ps, h.dr, h.pr, h.room, h.cr, h.ct, h.cl⟩
 rw [qE] at hc'; rw [mE q hc (eF hc')]
 split
 ·exact hq
 exact h.pl c' hc'
theorem rC {l : List De} {t : cT} {y : Bool} (hl : l.Pairwise fun a b => ord a.tid b.tid < 0) (hn : ∀ d ∈ l, d.tid ≠ t) : (gI l ⟨t, y⟩).Pairwise fun a b => ord a.tid b.tid < 0 :=
 mK (fun a b : De => ord a.tid b.tid < 0) (fun d => ord d.tid t) l ⟨t, y⟩ hl (fun _ _ h => h) (fun z hz h => xK h (hn z hz)) (fun _ _ _ _ h1 h2 => (bT _ _).2 (jY ((bT _ _).1 h1) ((bT _ _).1 h2)))
theorem yS {l : List Pr} {p : Pr} (hl : l.Pairwise fun a b => ord a.tid b.tid < 0) (hn : ∀ d ∈ l, d.tid ≠ p.tid) : (fU l (jO l p) p).Pairwise fun a b => ord a.tid b.tid < 0 :=
 mK (fun a b : Pr => ord a.tid b.tid < 0) (fun d => ord d.tid p.tid) l p hl (fun _ _ h => h) (fun z hz h => xK h (hn z hz)) (fun _ _ _ _ h1 h2 => (bT _ _).2 (jY ((bT _ _).1 h1) ((bT _ _).1 h2)))
theorem Good.eX {s : St} (h : Good s) (r : Rc) (hi : Inv (eX s r)) (h2 : ∀ d ∈ s.dec, d.tid ≠ r.tid) (hr : cF r.tid = true) (hn : r.tid.node <= s.nodes) (hroom : s.ay.length + s.dec.length < 512) : Good (eX s r) := by
 refine ⟨hi, h.nn, h.cells, h.ep, h.pl, rC h.ds h2, h.ps, fun d hd => ?_, h.pr, ?_, h.cr, h.ct, h.cl⟩
 ·rcases List.mem_cons.1 ((iO s.dec ⟨r.tid, r.yes⟩).mem_iff.1 hd) with e | e
  ·rw [e]; exact ⟨hr, hn⟩
  exact h.dr d e
 have := (iO s.dec ⟨r.tid, r.yes⟩).length_eq
 show s.ay.length + (gI s.dec ⟨r.tid, r.yes⟩).length <= 512; rw [this, List.length_cons]
 omega
theorem Good.past {s : St} (h : Good s) (r : Rc) (hr : cF r.tid = true) (h0 : (dK s r).2 = 0) : Good (dK s r).1 := by
 have hi := h.inv.past r h0; unfold dK at h0 hi ⊢
 split
 ·rename_i e; rw [if_pos e] at h0; cases h0
 rename_i e; rw [if_neg e] at h0 hi
 split
 ·rename_i e2; rw [if_pos e2] at h0; cases h0
 rename_i e2; rw [if_neg e2] at h0 hi
 split
 ·rename_i e3; rw [if_pos e3] at h0; cases h0
 rename_i e3; rw [if_neg e3] at hi; refine h.eX r hi (kC e).2 hr (j5 e2) ?_; unfold Led.room at e3
 simp at e3
 omega
theorem Good.done {s : St} (h : Good s) {k : Nat} (hk : k < s.ay.length) (r : Rc) (he : s.ay[k].tid = r.tid) : Good (done s k r) := by
 have hi := h.inv.done hk r he; obtain ⟨c1, c2, c3⟩ := h.inv.parts hk; have hpk := h.pr _ (List.getElem_mem hk); have GI : (Led.done s k r).node = s.node := by
  show (if r.yes = true then aO s (bV s k) else s).node = _
  split
  ·exact (cg s _).2.2.2.2.2.1
  rfl
 have qC : (Led.done s k r).nodes = s.nodes := by
  show (if r.yes = true then aO s (bV s k) else s).nodes = _
  split
  ·exact (cg s _).2.2.2.2.2.2.1
  rfl
 have hcells : (Led.done s k r).cells = s.cells := by
  show (if r.yes = true then aO s (bV s k) else s).cells = _
  split
  ·exact (cg s _).2.2.2.2.2.2.2
  rfl
 refine ⟨hi, by rw [GI, qC]; exact h.nn, by rw [hcells, sV]; exact h.cells, by rw [AV]; exact h.ep, fun c hc => ?_, ?_, ?_, fun d hd => ?_, fun p hp => ?_, ?_, fun c hc => ?_, ?_, ?_⟩
 ·rw [rX (sV s k r)] at hc
  rw [qC]; have hc0 := eF hc
  by_cases hm : c ∈ s.ay[k].items.map It.cell
  ·obtain ⟨x, hx, rfl⟩ := List.mem_map.1 hm
   obtain ⟨v1, v2, v3, v4⟩ := h.inv.lk _ (List.getElem_mem hk) x hx; have hp := h.pl x.cell hc; rw [vV]
   split
   ·rw [lM hk, Ef s _ c1 hx hc]
    unfold Led.wrote
    split
    ·rw [v2, IntWalk.i64_in _ (by omega)]
     exact ⟨hp.st, hp.hop, ⟨by show 0 <= x.version + 1; omega, by show x.version + 1 <= _; omega⟩, hpk.2.2.2.2.2 x hx, hp.to2, hp.to0⟩
    exact hp
   exact hp
  rw [xY s k r hc0 (by rw [lM hk]; exact hm)]
  exact h.pl c hc
 ·rw [sW]
  exact rC h.ds fun d hd e => h.inv.pd _ (List.getElem_mem hk) d hd (by rw [he, e])
 ·show (cut s.ay k).Pairwise _
  unfold cut; rw [List.pairwise_append]; refine ⟨h.ps.sublist (List.take_sublist _ _), h.ps.sublist (List.drop_sublist _ _), fun a ha b hb => ?_⟩; obtain ⟨i, hi2, rfl⟩ := List.mem_iff_getElem.1 ha; obtain ⟨j, hj, rfl⟩ := List.mem_iff_getElem.1 hb; rw [List.length_take] at hi2; rw [List.length_drop] at hj; rw [List.getElem_take, List.getElem_drop]; exact List.pairwise_iff_getElem.1 h.ps _ _ (by omega) (by omega) (by omega)
 ·rw [sW] at hd
  rw [qC]; rcases List.mem_cons.1 ((iO s.dec ⟨r.tid, r.yes⟩).mem_iff.1 hd) with e | e
  ·rw [e]
   exact ⟨by rw [<- he]; exact h.inv.rt _ (List.getElem_mem hk), by rw [<- he]; exact hpk.1⟩
  exact h.dr d e
 ·have hp2 := h.pr p (rY hk hp)
  rw [qC, yh qC, EI GI]; exact hp2
 ·have h1 := (iO s.dec ⟨r.tid, r.yes⟩).length_eq
  have h2 := (mG s.ay k hk).length_eq; rw [List.length_cons] at h1 h2; rw [sW, h1]; show (cut s.ay k).length + _ <= 512
  have := h.room
  omega
 ·rw [sX] at hc
  rw [GI, yh qC]; exact h.cr c hc
 ·rw [sX]; exact h.ct
 rw [sX]; exact h.cl
theorem bF {r : Rc} (h : right r = true) (f : Nat) (hf : (f : Int) ∈ fl r.kind) (h8 : f < 8) : (iP r f).1 <= r.get f /\ r.get f <= (iP r f).2 := by
 have := kM h f hf; unfold rf at this; rw [if_neg (by omega), if_neg (by omega), if_neg (by omega), if_neg (by omega)] at this; simp only [Bool.and_eq_true, decide_eq_true_eq] at this; exact this
theorem jq {r : Rc} (h : right r = true) (hf : (10 : Int) ∈ fl r.kind) : bn r.nodes = true := by
 have := kM h 10 hf; unfold rf at this; rw [if_neg (by decide), if_neg (by decide), if_pos rfl] at this; exact this
theorem Good.empty {r : Rc} (hr : right r = true) (hk : r.kind = 1) : Good (cJ r.node r.count r.num.toNat) := by
 have f0 := bF hr 0 (by rw [hk]; decide) (by decide); have f1 := bF hr 1 (by rw [hk]; decide) (by decide); have f2 := bF hr 2 (by rw [hk]; decide) (by decide)
 simp [iP, fQ, hk, Rc.get, Rc.jN] at f0 f1 f2
 refine ⟨Inv.empty _ _ _, ⟨f1.1, f1.2, f0.1, f0.2⟩, ⟨?_, ?_, ?_⟩, ⟨Int.le_refl _, by show (0 : Int) <= 1099511627776; decide⟩, fun c hc => ?_, List.Pairwise.nil, List.Pairwise.nil, fun d hd => (by cases hd), fun p hp => (by cases hp), Nat.zero_le _, fun c hc => (by cases hc), List.nodup_nil, Nat.zero_le _⟩
 ·show (r.num.toNat : Int) = ((List.replicate r.num.toNat rH).length : Int)
  rw [List.length_replicate]
 ·show 1 <= (List.replicate r.num.toNat rH).length
  rw [List.length_replicate]; omega
 ·show (List.replicate r.num.toNat rH).length <= 16
  rw [List.length_replicate]; omega
 have e : cw (cJ r.node r.count r.num.toNat) c = rH := by
  unfold cw cJ; simp only [List.getElem?_replicate]
  split <;> rfl
 rw [e]; exact ⟨by decide, by decide, by decide, ⟨by decide, by decide⟩, fun h => (by cases h), fun _ => rfl⟩
theorem Good.aV {s : St} (h : Good s) (r : Rc) (hr : right r = true) (hok : lW r.value /\ ∀ x ∈ r.items, lW x.new) (h0 : (aV s r).2 = 0) : Good (aV s r).1 := by
 have hi := h.inv.aV r hr h0; unfold Led.aV at h0 hi ⊢
 split
 ·rename_i k
  exact Good.empty hr k
 rename_i k1; rw [if_neg k1] at h0 hi
 split
 ·rename_i k; rw [if_pos k] at h0 hi
  unfold gj at h0 hi ⊢
  split
  ·rename_i e; rw [if_pos e] at h0; cases h0
  rename_i e; rw [if_neg e] at hi
  have f2 := bF hr 2 (by rw [k]; decide) (by decide)
  simp [iP, k, Rc.get, Rc.jN] at f2
  exact ⟨hi, h.nn, h.cells, ⟨by show 0 <= r.num; omega, f2.2⟩, h.pl, h.ds, h.ps, h.dr, h.pr, h.room, h.cr, h.ct, h.cl⟩
 rename_i k2; rw [if_neg k2] at h0 hi
 split
 ·rename_i k; rw [if_pos k] at h0 hi
  unfold eB at h0 hi ⊢
  split
  ·rename_i e; rw [if_pos e] at h0; cases h0
  rename_i e1; rw [if_neg e1] at h0 hi
  split
  ·rename_i e; rw [if_pos e] at h0; cases h0
  rename_i e2; rw [if_neg e2] at h0 hi
  split
  ·rename_i e; rw [if_pos e] at h0; cases h0
  rename_i e3; rw [if_neg e3] at hi; have f4 := bF hr 4 (by rw [k]; decide) (by decide); have f5 := bF hr 5 (by rw [k]; decide) (by decide); have f0 := bF hr 0 (by rw [k]; decide) (by decide); have f6 := bF hr 6 (by rw [k]; decide) (by decide); have ha := j5 e2
  simp [iP, k, Rc.get, Rc.jN, fQ] at f4 f5 f0 f6
  refine h.bJ hi (by simpa using e1) ⟨f4, f5, f6, hok.1, fun h2 => ?_, fun h2 => ?_⟩
  ·have h3 : r.status = 2 := h2
   rw [if_pos h3] at f0; exact ⟨f0.1, f0.2, ha⟩
  have h3 : ¬ r.status = 2 := h2
  rw [if_neg h3] at f0; have f1 : (0 : Int) <= r.node /\ r.node <= 0 := f0; show r.node = 0
  omega
 rename_i k3; rw [if_neg k3] at h0 hi
 split
 ·rename_i k; rw [if_pos k] at h0 hi
  unfold bq at h0 hi ⊢
  split
  ·rename_i e; rw [if_pos e] at h0; cases h0
  rename_i e1; rw [if_neg e1] at h0 hi
  split
  ·rename_i e; rw [if_pos e] at h0; cases h0
  rename_i e2; rw [if_neg e2] at h0 hi
  split
  ·rename_i e; rw [if_pos e] at h0; cases h0
  rename_i e3; rw [if_neg e3] at h0 hi
  split
  ·rename_i e; rw [if_pos e] at h0; cases h0
  rename_i e4; rw [if_neg e4] at h0 hi
  split
  ·rename_i e; rw [if_pos e] at h0; cases h0
  rename_i e5; rw [if_neg e5] at h0 hi
  split
  ·rename_i e6; rw [if_pos e6] at h0 hi
   split
   ·rename_i e; rw [if_pos e] at h0; cases h0
   rename_i e7; rw [if_neg e7] at hi
   have Ku := lQ s.ay (jO s.ay (jy r)) (jy r); refine ⟨hi, h.nn, h.cells, h.ep, h.pl, h.ds, yS h.ps (kC e1).1, h.dr, fun p hp => ?_, ?_, h.cr, h.ct, h.cl⟩
   ·rcases List.mem_cons.1 (Ku.mem_iff.1 hp) with e | e
    ·rw [e]
     exact ⟨j5 e3, kE hr k, jq hr (by rw [k]; decide), by cases e9 : above s r.nodes with | true => exact absurd e9 e4 | false => exact e9, by cases e9 : cX s r.nodes with | false => exact absurd e9 e5 | true => exact e9, hok.2⟩
    exact h.pr p e
   have h1 := Ku.length_eq
   rw [List.length_cons] at h1; show (fU s.ay (jO s.ay (jy r)) (jy r)).length + s.dec.length <= 512
   unfold Led.room at e7
   simp at e7
   omega
  rename_i e6; rw [if_neg e6] at h0
  exact absurd h0 e6
 rename_i k4; rw [if_neg k4] at h0 hi
 split
 ·rename_i k; rw [if_pos k] at h0 hi
  have ht := kP hr (by rw [k]; decide)
  by_cases hd : bQ s r.tid < 0
  ·have e : cK s r = dH s r := by unfold cK; rw [if_pos hd]
   rw [e] at h0 ⊢; unfold dH at h0 ⊢
   split
   ·rename_i e1; rw [if_pos e1] at h0; cases h0
   rename_i e1; rw [if_neg e1] at h0
   split
   ·rename_i e2; rw [if_pos e2] at h0; cases h0
   rename_i e2; rw [if_neg e2] at h0; exact h.past r ht h0
  obtain ⟨m, hm, e, he⟩ := GW hd
  rw [mM e]; exact h.done hm r he
 rename_i k6; rw [if_neg k6] at h0 hi
 split
 ·rename_i k; rw [if_pos k] at h0
  exact h.past r (kP hr (by rw [k]; decide)) h0
 rename_i k11; rw [if_neg k11] at h0 hi
 split
 ·rename_i k; rw [if_pos k] at h0 hi
  unfold cQ at h0 hi ⊢
  split
  ·rename_i e; rw [if_pos e] at h0; cases h0
  rename_i e1; rw [if_neg e1] at h0 hi
  split
  ·rename_i e; rw [if_pos e] at h0; cases h0
  rename_i e2; rw [if_neg e2] at h0 hi
  split
  ·rename_i e; rw [if_pos e] at h0; cases h0
  rename_i e3; rw [if_neg e3] at h0 hi
  split
  ·rename_i e; rw [if_pos e] at h0; cases h0
  rename_i e4; rw [if_neg e4] at hi; have hnew : ∀ c ∈ s.com, c.tid ≠ r.tid := fun c hc e => by
   have := (vU s.com (fun p => decide (p.tid = r.tid))).1 (by unfold cE at e3; omega) c hc; exact of_decide_eq_false this e
  have h9 := kM hr 9 (by rw [k]; decide); unfold rf at h9; rw [if_neg (by decide), if_pos rfl, k] at h9; refine ⟨hi, h.nn, h.cells, h.ep, h.pl, h.ds, h.ps, h.dr, h.pr, h.room, fun c hc => ?_, ?_, ?_⟩
  ·rcases List.mem_append.1 hc with hc | hc
   ·exact h.cr c hc
   rw [List.mem_singleton.1 hc]
   refine ⟨kP hr (by rw [k]; decide), by show r.tid.node = s.node; simpa using e1, ?_, jq hr (by rw [k]; decide), by show above s r.nodes = false; cases e9 : above s r.nodes with | true => exact absurd e9 e2 | false => rfl⟩
   rw [Bool.or_eq_true] at h9; rcases h9 with h9 | h9
   ·have h10 : r.items = [] := by simpa using h9
    exact Or.inl h10
   exact Or.inr h9
  ·show ((s.com ++ [dw r]).map Co.tid).Nodup
   rw [List.map_append, List.nodup_append]; refine ⟨h.ct, by simp, fun a ha b hb e => ?_⟩; obtain ⟨c, hc, rfl⟩ := List.mem_map.1 ha; have hb2 : b = r.tid := by simpa [dw] using hb
   exact hnew c hc (by rw [e, hb2])
  show (s.com ++ [dw r]).length <= 512
  rw [List.length_append]; show s.com.length + 1 <= 512
  omega
 rename_i k5; rw [if_neg k5] at h0 hi
 split
 ·rename_i k; rw [if_pos k] at h0 hi
  unfold lf at h0 hi ⊢
  split
  ·rename_i e; rw [if_pos e] at h0; cases h0
  rename_i e1; rw [if_neg e1] at h0 hi
  split
  ·rename_i e; rw [if_pos e] at h0; cases h0
  rename_i e2; rw [if_neg e2] at hi; have SN : ∀ m, m < s.com.length -> jA s m ∈ s.com := fun m hm => by
   unfold jA; rw [List.getElem?_eq_getElem hm]; exact List.getElem_mem hm
  obtain ⟨m, hm, em, _⟩ := xS s.com (fun p => decide (p.tid = r.tid)) (by unfold cE at e1; omega); have em2 : (cE s r.tid).toNat = m := by unfold cE; rw [em]; simp
  rw [em2] at hi ⊢; refine ⟨hi, h.nn, h.cells, h.ep, h.pl, h.ds, h.ps, h.dr, h.pr, h.room, fun c hc => ?_, ?_, ?_⟩
  ·unfold dn at hc
   rcases List.mem_or_eq_of_mem_set hc with hc | hc
   ·exact h.cr c hc
   rw [hc]
   exact h.cr (jA s m) (SN m hm)
  ·have e9 : (dn s m).com.map Co.tid = s.com.map Co.tid := by
    unfold dn; simp only; rw [List.map_set]
    apply List.ext_getElem?
    intro i; rw [List.getElem?_set]
    split
    ·rename_i hi2
     subst hi2; have : jA s m = s.com[m] := by unfold jA; rw [List.getElem?_eq_getElem hm]; rfl
     rw [if_pos (by rw [List.length_map]; exact hm), List.getElem?_map, List.getElem?_eq_getElem hm, this]
     rfl
    rfl
   rw [e9]; exact h.ct
  show (dn s m).com.length <= 512
  unfold dn; simp only [List.length_set]; exact h.cl
 rename_i k7; rw [if_neg k7] at h0 hi
 split
 ·rename_i k; rw [if_pos k] at h0 hi
  unfold iz at h0 hi ⊢
  split
  ·rename_i e; rw [if_pos e] at h0; cases h0
  rename_i e1; rw [if_neg e1] at h0 hi
  split
  ·rename_i e; rw [if_pos e] at h0; cases h0
  rename_i e2; rw [if_neg e2] at h0 hi
  split
  ·rename_i e; rw [if_pos e] at h0; cases h0
  rename_i e3; rw [if_neg e3] at h0 hi
  split
  ·rename_i e; rw [if_pos e] at h0; cases h0
  rename_i e4; rw [if_neg e4] at h0 hi
  split
  ·rename_i e; rw [if_pos e] at h0; cases h0
  rename_i e5; rw [if_neg e5] at h0 hi
  split
  ·rename_i e; rw [if_pos e] at h0; cases h0
  rename_i e6; rw [if_neg e6] at hi; have hc : bp s r.cell = true := by simpa using e1
  have f0 := bF hr 0 (by rw [k]; decide) (by decide); have f5 := bF hr 5 (by rw [k]; decide) (by decide)
  simp [iP, k, Rc.get, Rc.jN, fQ] at f0 f5
  have hp := h.pl r.cell hc; exact h.bJ hi hc ⟨(by show (0 : Int) <= 2 /\ (2 : Int) <= 2; decide), ⟨by show 0 <= r.hop; omega, f5.2⟩, hp.ver, hp.val, fun _ => ⟨f0.1, f0.2, j5 e3⟩, fun h2 => absurd rfl h2⟩
 rename_i k8; rw [if_neg k8] at h0 hi
 split
 ·rename_i k; rw [if_pos k] at h0 hi
  unfold vG at h0 hi ⊢
  split
  ·rename_i e; rw [if_pos e] at h0; cases h0
  rename_i e1; rw [if_neg e1] at h0 hi
  split
  ·rename_i e; rw [if_pos e] at h0; cases h0
  rename_i e2; rw [if_neg e2] at h0 hi
  split
  ·rename_i e; rw [if_pos e] at h0; cases h0
  rename_i e3; rw [if_neg e3] at hi; have f5 := bF hr 5 (by rw [k]; decide) (by decide); have f6 := bF hr 6 (by rw [k]; decide) (by decide)
  simp [iP, k, Rc.get, Rc.jN] at f5 f6
  exact h.bJ hi (by simpa using e1) ⟨(by show (0 : Int) <= 1 /\ (1 : Int) <= 2; decide), ⟨by show 0 <= r.hop; omega, f5.2⟩, f6, hok.1, fun h2 => (by cases h2), fun _ => rfl⟩
 rename_i k9; rw [if_neg k9] at h0 hi
 split
 ·rename_i k; rw [if_pos k] at h0 hi
  unfold fY at h0 hi ⊢
  split
  ·rename_i e; rw [if_pos e] at h0; cases h0
  rename_i e1; rw [if_neg e1] at h0 hi
  split
  ·rename_i e; rw [if_pos e] at h0; cases h0
  rename_i e2; rw [if_neg e2] at h0 hi
  split
  ·rename_i e; rw [if_pos e] at h0; cases h0
  rename_i e3; rw [if_neg e3] at hi; have f5 := bF hr 5 (by rw [k]; decide) (by decide)
  simp [iP, k, Rc.get, Rc.jN] at f5
  exact h.bJ hi (by simpa using e1) ⟨(by show (0 : Int) <= 0 /\ (0 : Int) <= 2; decide), ⟨by show 0 <= r.hop; omega, f5.2⟩, (by show (0 : Int) <= 0 /\ (0 : Int) <= 1099511627776; decide), (by show (-9223372036854775808 : Int) <= 0 /\ (0 : Int) <= 9223372036854775807; decide), fun h2 => (by cases h2), fun _ => rfl⟩
 exact h
theorem Ei {a b c : Int} (h : 1 <= a /\ a <= b /\ 1 <= b /\ b <= 16 /\ 1 <= c /\ c <= 16) : right (Bb a b c) = true := by
 simp [right, fE, left, hasB, fl, Bb, rf, iP, fQ, Rc.get, Rc.jN, KT]
 omega
theorem Good.follow {s : St} (h : Good s) (r : Rc) (hok : lW r.value /\ ∀ x ∈ r.items, lW x.new) (h0 : (aC s r).2 = 0) : Good (aC s r).1 := by
 unfold aC at h0 ⊢
 split
 ·rename_i e; rw [if_pos e] at h0; cases h0
 rename_i e
 rw [if_neg e] at h0; exact h.aV r (by simpa using e) hok h0
theorem Good.first {a b c : Int} (h0 : (cD a b c).2 = 0) : Good (cD a b c).1 := by
 have hi := Inv.cD h0; unfold Led.cD at h0 hi ⊢
 split
 ·rename_i e; rw [if_pos e] at h0; cases h0
 rename_i e
 rw [if_neg e] at hi; have hr : right (Bb a b c) = true := by simpa using e
 have f0 := bF hr 0 (by show (0 : Int) ∈ fl 1; decide) (by decide)
 have f1 := bF hr 1 (by show (1 : Int) ∈ fl 1; decide) (by decide)
 have f2 := bF hr 2 (by show (2 : Int) ∈ fl 1; decide) (by decide)
 simp [iP, fQ, Bb, Rc.get, Rc.jN] at f0 f1 f2
 have hl : (eA a b c.toNat).places.length = c.toNat := dI a b c.toNat c.toNat; refine ⟨hi, ⟨f1.1, f1.2, f0.1, f0.2⟩, ⟨by rw [hl]; rfl, by rw [hl]; omega, by rw [hl]; omega⟩, ⟨Int.le_refl _, by show (0 : Int) <= 1099511627776; decide⟩, fun k hk => ?_, List.Pairwise.nil, List.Pairwise.nil, fun d hd => (by cases hd), fun p hp => (by cases hp), Nat.zero_le _, fun c hc => (by cases hc), List.nodup_nil, Nat.zero_le _⟩
 have hz : Gp b rH := ⟨by decide, by decide, by decide, ⟨by decide, by decide⟩, fun h => (by cases h), fun _ => rfl⟩; have h1 : Gp b ⟨1, 0, 0, 0, 0⟩ := ⟨by decide, by decide, by decide, ⟨by decide, by decide⟩, fun h => (by cases h), fun _ => rfl⟩; show Gp b (cw (eA a b c.toNat) k)
 unfold cw eA; simp only; rw [fA]
 split
 ·simp only [Option.getD_some]
  split
  ·exact h1
  exact hz
 exact hz
open Go.Deep
structure dG {α : Type} (eT : TypeId) (sz : Nat) (vals : α -> List Value) (w0 : World) (dz : Bool) (v : Value) (l : List α) (dx : Bool) (vx : Value) (p : α) (W : World) : Prop where
  low : Below w0.heap.size w0 W
  acc : dz = true -> W.ownsRow w0.heap.size eT sz v l.length (l.map vals).flatten
  x : dx = true -> ∃ g, vx = .slice (some ⟨g, 0, none⟩) 1 1 /\ Cells W g eT (vals p) /\ w0.heap.size <= g /\ (dz = true -> v.ownBlock ≠ some g)
theorem En {w w2 : World} {B n sz : Nat} {eT : TypeId} {v : Value} {xs : List Value} (h : w.ownsRow B eT sz v n xs) (hb : Below w.heap.size w w2) : w2.ownsRow B eT sz v n xs := aF h (Only.of_below (S := fun _ => False) hb) fun _ _ e => e
section
variable {α : Type} {sT eT : TypeId} {zv : Value} {sz bytes : Nat} {vals : α -> List Value} {w0 W : World} {dz dx : Bool} {v vx : Value} {l m : List α} {p : α}
theorem dG.start (hb : Below w0.heap.size w0 W) (v vx : Value) (l : List α) (p : α) : dG eT sz vals w0 false v l false vx p W := ⟨hb, fun e => (by cases e), fun e => (by cases e)⟩
theorem dG.W9 (h : dG eT sz vals w0 false v l dx vx p W) : dG eT sz vals w0 true (.slice (some ⟨W.heap.size, 0, none⟩) 0 0) [] dx vx p (W.alloc (.cells #[] eT)) := by
  have hb := av W (.cells #[] eT); refine ⟨h.low.trans (hb.mono h.low.size), fun _ => cS h.low.size (World.ownsRow_made (base := W.heap.size) W #[] 0 (Nat.le_refl _) (Nat.zero_le _) (by simp)), fun e => ?_⟩; obtain ⟨g, e1, e2, e3, _⟩ := h.x e; refine ⟨g, e1, e2.later hb, e3, fun _ e4 => ?_⟩; have := e2.lt; have e5 : W.heap.size = g := Option.some.inj e4
  omega
theorem dG.XK (h : dG eT sz vals w0 dz v l false vx p W) (cells : Array Value) (hc : cells.toList = vals p) : dG eT sz vals w0 dz v l true (.slice (some ⟨W.heap.size, 0, none⟩) 1 1) p (W.alloc (.cells cells eT)) := by
  have hb := av W (.cells cells eT); refine ⟨h.low.trans (hb.mono h.low.size), fun e => En (h.acc e) hb, fun _ => ⟨W.heap.size, rfl, aB W eT (vals p) _ hc, h.low.size, fun e e4 => ?_⟩⟩; have := ((h.acc e).lt _ e4).2
  omega
theorem dG.app (E : Elem sT eT zv sz bytes) (hf : ∀ l : List α, Fit sz (l.map vals)) (h : dG eT sz vals w0 true v l dx vx p W) {A : Option Addr} {c : Nat} (hs : Sl W A sz (m.map vals)) (hA : A = none -> c = 0) (hl : l.length + m.length <= 1000) :
    ∃ A' n' c' W', (Builtin.append_ #[sT, sT] sT #[v, .slice A m.length c]).run Tryz.prog W = .ok (.slice A' n' c') W' /\ dG eT sz vals w0 true (.slice A' n' c') (l ++ m) dx vx p W' := by
  obtain ⟨v', W', hrun, hrow, hg, hnb⟩ := aZ E W sT w0.heap.size v (l.map vals) (m.map vals) A c (hf _) (hf _) (by rw [List.length_map]; exact h.acc rfl) hs hA (by rw [List.length_map, List.length_map]; omega) h.low.size; obtain ⟨A', c', rfl⟩ := bD hrow; rw [<- List.map_append] at hrow hrun hnb; rw [List.length_map] at hrun; have ho := Only.fP hg; refine ⟨A', _, c', W', hrun, h.low.trans (ho.below h.low.size fun k e => ((h.acc rfl).lt k e.symm).1), fun _ => by simpa using hrow, fun e => ?_⟩; obtain ⟨g, e1, e2, e3, e4⟩ := h.x e; refine ⟨g, e1, aJ e2 ho fun e5 => e4 rfl e5.symm, e3, fun _ e6 => ?_⟩; rcases hnb with e7 | e7
  · exact e4 rfl (e7.symm.trans e6)
  have := e2.lt
  have e8 := e7.symm.trans e6; have e9 : W.heap.size = g := Option.some.inj e8
  omega
theorem dG.one (E : Elem sT eT zv sz bytes) (hf : ∀ l : List α, Fit sz (l.map vals)) (h : dG eT sz vals w0 true v l true vx p W) (hl : l.length <= 900) :
    ∃ g A' n' c' W', vx = .slice (some ⟨g, 0, none⟩) 1 1 /\ (Builtin.append_ #[sT, sT] sT #[v, .slice (some ⟨g, 0, none⟩) 1 1]).run Tryz.prog W = .ok (.slice A' n' c') W' /\ dG eT sz vals w0 true (.slice A' n' c') (l ++ [p]) true vx p W' := by
  obtain ⟨g, e1, e2, e3, e4⟩ := h.x rfl; have hsl : Sl W (some ⟨g, 0, none⟩) sz ([p].map vals) := cW (by simpa using e2) fun v hv => (hf [p]).len v hv
  obtain ⟨A', n', c', W', h1, h2⟩ := h.app E hf (m := [p]) hsl (fun e => by cases e) (by simp; omega); exact ⟨g, A', n', c', W', e1, h1, h2⟩
theorem mC {A : Option Addr} {vs : List (List Value)} (h : Sl W A sz vs) (i : Nat) : Sl W A sz (vs.take i) := fun k hk => by
  rw [List.length_take] at hk; obtain ⟨b, off, e, hr⟩ := h k (by omega); exact ⟨b, off, e, by rw [List.getElem_take]; exact hr⟩
theorem mD {g off : Nat} {vs : List (List Value)} (h : Sl W (some ⟨g, off, none⟩) sz vs) (i : Nat) : Sl W (some ⟨g, off + i * sz, none⟩) sz (vs.drop i) := fun k hk => by
  rw [List.length_drop] at hk; obtain ⟨b, o2, e, hr⟩ := h (i + k) (by omega); simp only [Option.some.injEq, Addr.mk.injEq] at e; obtain ⟨rfl, rfl, _⟩ := e; refine ⟨g, off + i * sz, rfl, ?_⟩; rw [List.getElem_drop, Nat.add_assoc, <- Nat.add_mul]; exact hr
end
