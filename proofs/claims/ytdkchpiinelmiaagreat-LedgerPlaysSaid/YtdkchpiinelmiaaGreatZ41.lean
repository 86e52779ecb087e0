/- Part 41 of the proof. Conditions: none. -/
import Derived.Test.YtdkchpiinelmiaaGreatZ34
namespace Go.Proofs.YtdkchpiinelmiaaGreat.Led
set_option maxRecDepth 100000
open Go.RowKit Mem fN Rec
theorem vU {α : Type} (l : List α) (f : α -> Bool) : dV (l.map f) < 0 ↔ ∀ x ∈ l, f x = false := by
 have h := ij (l.map f); rw [List.any_map] at h
 constructor
 ·intro hn x hx
  rw [decide_eq_false (by omega)] at h; have := List.any_eq_false.1 h.symm x hx
  simpa using this
 intro ha
 have e : l.any ((fun b => b) ∘ f) = false := by
  rw [List.any_eq_false]; intro x hx
  simp [ha x hx]
 rw [e] at h; have := of_decide_eq_false h
 omega
theorem xS {α : Type} (l : List α) (f : α -> Bool) (h : 0 <= dV (l.map f)) : ∃ (k : Nat) (hk : k < l.length), dV (l.map f) = (k : Int) /\ f l[k] = true := by
 unfold dV at h ⊢
 cases e : (l.map f).findIdx? (fun b => b) with
 | none => rw [e] at h; exact absurd h (by decide)
 | some i =>
  obtain ⟨hi, hp, _⟩ := List.findIdx?_eq_some_iff_getElem.1 e; exact ⟨i, by simpa using hi, rfl, by simpa using hp⟩
theorem Iy (l : List It) (c : Int) : decide (0 <= iU l c) = decide (c ∈ l.map It.cell) := by
 unfold iU
 cases e : l.findIdx? (fun x => x.cell == c) with
 | none =>
  have h := List.findIdx?_eq_none_iff.1 e; have : ¬ c ∈ l.map It.cell := by
   intro hm; obtain ⟨x, hx, rfl⟩ := List.mem_map.1 hm; have := h x hx
   simp at this
  rw [decide_eq_false this]
  rfl
 | some i =>
  obtain ⟨hi, hp, _⟩ := List.findIdx?_eq_some_iff_getElem.1 e; have : c ∈ l.map It.cell := List.mem_map.2 ⟨l[i], List.getElem_mem hi, by simpa using hp⟩; rw [decide_eq_true this]; exact decide_eq_true (Int.natCast_nonneg i)
def jg (s : St) : List Int := s.ay.flatMap fun p => p.items.map It.cell
theorem qI (s : St) (c : Int) : locked s c = (bp s c && decide (c ∈ jg s)) := by
 unfold locked
 congr 1
 have e : s.ay.any (ku c) = s.ay.any fun p => decide (c ∈ p.items.map It.cell) := by
  congr 1
  funext p
  exact Iy p.items c
 rw [e]
 cases h : s.ay.any fun p => decide (c ∈ p.items.map It.cell) with
 | true =>
  obtain ⟨p, hp, hc⟩ := List.any_eq_true.1 h; exact (decide_eq_true (List.mem_flatMap.2 ⟨p, hp, of_decide_eq_true hc⟩)).symm
 | false =>
  refine (decide_eq_false fun hm => ?_).symm; obtain ⟨p, hp, hc⟩ := List.mem_flatMap.1 hm; have := List.any_eq_false.1 h p hp; simp only [decide_eq_true_eq] at this; exact this hc
theorem qE (s : St) (c : Int) (q : Pl) (c' : Int) : bp (bJ s c q) c' = bp s c' := by unfold bp bJ; simp
theorem mE {s : St} {c : Int} (q : Pl) {c' : Int} (hc : bp s c = true) (hc' : 0 <= c') : cw (bJ s c q) c' = if c' = c then q else cw s c' := by
 have h := (iW s c).1 hc; unfold cw bJ; simp only; rw [List.getElem?_set]
 by_cases e : c' = c
 ·subst e
  rw [if_pos rfl, if_pos rfl, if_pos (by omega)]
  rfl
 rw [if_neg (by omega), if_neg e]
theorem eF {s : St} {c : Int} (h : bp s c = true) : 0 <= c := ((iW s c).1 h).1
theorem lq (s : St) (x : It) : (aX s x).ay = s.ay /\ (aX s x).dec = s.dec /\ (aX s x).com = s.com /\ (aX s x).epoch = s.epoch /\ (aX s x).places.length = s.places.length /\ (aX s x).node = s.node /\ (aX s x).nodes = s.nodes /\ (aX s x).cells = s.cells := by
 unfold aX
 split
 ·unfold bJ
  simp
 simp
theorem cg (s : St) (l : List It) : (aO s l).ay = s.ay /\ (aO s l).dec = s.dec /\ (aO s l).com = s.com /\ (aO s l).epoch = s.epoch /\ (aO s l).places.length = s.places.length /\ (aO s l).node = s.node /\ (aO s l).nodes = s.nodes /\ (aO s l).cells = s.cells := by
 induction l generalizing s with
 | nil => exact ⟨rfl, rfl, rfl, rfl, rfl, rfl, rfl, rfl⟩
 | cons x l ih =>
  have h1 := ih (aX s x); have h2 := lq s x; have e : aO s (x :: l) = aO (aX s x) l := rfl; rw [e]; exact ⟨h1.1.trans h2.1, h1.2.1.trans h2.2.1, h1.2.2.1.trans h2.2.2.1, h1.2.2.2.1.trans h2.2.2.2.1, h1.2.2.2.2.1.trans h2.2.2.2.2.1, h1.2.2.2.2.2.1.trans h2.2.2.2.2.2.1, h1.2.2.2.2.2.2.1.trans h2.2.2.2.2.2.2.1, h1.2.2.2.2.2.2.2.trans h2.2.2.2.2.2.2.2⟩
theorem rX {s t : St} (h : t.places.length = s.places.length) (c : Int) : bp t c = bp s c := by unfold bp; rw [h]
theorem z8 (s : St) (l : List It) (c : Int) : bp (aO s l) c = bp s c := rX (cg s l).2.2.2.2.1 c
def wrote (p : Pl) (x : It) : Pl := if x.write = true then ⟨p.status, p.hop, p.to, IntKind.i64.wrap (p.version + 1), x.new⟩ else p
theorem jh (s : St) (x : It) {c : Int} (hc : 0 <= c) : cw (aX s x) c = if c = x.cell /\ bp s c = true then wrote (cw s c) x else cw s c := by
 unfold aX
 by_cases h : x.write = true /\ bp s x.cell = true
 ·rw [if_pos h, mE _ h.2 hc]
  by_cases e : c = x.cell
  ·rw [if_pos e, if_pos ⟨e, by rw [e]; exact h.2⟩, e, wrote, if_pos h.1]
  rw [if_neg e, if_neg (fun k => e k.1)]
 rw [if_neg h]
 by_cases e : c = x.cell /\ bp s c = true
 ·rw [if_pos e, wrote, if_neg (fun k => h ⟨k, by rw [<- e.1]; exact e.2⟩)]
 rw [if_neg e]
theorem tq (s : St) (l : List It) {c : Int} (hc : 0 <= c) (hn : c ∉ l.map It.cell) : cw (aO s l) c = cw s c := by
 induction l generalizing s with
 | nil => rfl
 | cons x l ih =>
  have e : aO s (x :: l) = aO (aX s x) l := rfl; simp only [List.map_cons, List.mem_cons, not_or] at hn; rw [e, ih _ hn.2, jh s x hc, if_neg (fun k => hn.1 k.1)]
theorem Ef (s : St) (l : List It) (hd : (l.map It.cell).Nodup) {x : It} (hx : x ∈ l) (hh : bp s x.cell = true) : cw (aO s l) x.cell = wrote (cw s x.cell) x := by
 induction l generalizing s with
 | nil => cases hx
 | cons y l ih =>
  have e : aO s (y :: l) = aO (aX s y) l := rfl; simp only [List.map_cons, List.nodup_cons] at hd; rw [e]; rcases List.mem_cons.1 hx with rfl | hx
  ·rw [tq _ _ (eF hh) hd.1, jh s x (eF hh), if_pos ⟨rfl, hh⟩]
  rw [ih _ hd.2 hx (by rw [rX (lq s y).2.2.2.2.1]; exact hh), jh s y (eF hh), if_neg]
  rintro ⟨e2, _⟩; exact hd.1 (by rw [<- e2]; exact List.mem_map.2 ⟨x, hx, rfl⟩)
theorem yr (s : St) (l : List It) {c : Int} (hc : 0 <= c) : (cw (aO s l) c).hop = (cw s c).hop /\ (cw (aO s l) c).status = (cw s c).status := by
 induction l generalizing s with
 | nil => exact ⟨rfl, rfl⟩
 | cons x l ih =>
  have e : aO s (x :: l) = aO (aX s x) l := rfl; rw [e, (ih _).1, (ih _).2, jh s x hc]
  split
  ·unfold wrote
   split <;> exact ⟨rfl, rfl⟩
  exact ⟨rfl, rfl⟩
theorem BF {s t : St} {c : Int} (h1 : bp t c = bp s c) (h2 : (cw t c).status = (cw s c).status) : owns t c = owns s c := by unfold owns; rw [h1, h2]
theorem lQ {α : Type} (l : List α) (i : Nat) (x : α) : (fU l i x).Perm (x :: l) := by
 unfold fU; have h : (l.take i ++ x :: l.drop i).Perm (x :: (l.take i ++ l.drop i)) := List.perm_middle; rw [List.take_append_drop] at h; exact h
theorem iO (l : List De) (d : De) : (gI l d).Perm (d :: l) := lQ l _ d
theorem mG {α : Type} (l : List α) (k : Nat) (hk : k < l.length) : l.Perm (l[k] :: cut l k) := by
 have h : (l.take k ++ l[k] :: l.drop (k + 1)).Perm (l[k] :: cut l k) := List.perm_middle; have e : l.take k ++ l[k] :: l.drop (k + 1) = l := by
  rw [<- List.drop_eq_getElem_cons hk, List.take_append_drop]
 rw [e] at h; exact h
structure Inv (s : St) : Prop where
 pp : (s.ay.map Pr.tid).Nodup
 pd : ∀ p ∈ s.ay, ∀ d ∈ s.dec, p.tid ≠ d.tid
 dd : (s.dec.map De.tid).Nodup
 rt : ∀ p ∈ s.ay, cF p.tid = true
 cc : (jg s).Nodup
 lk : ∀ p ∈ s.ay, ∀ x ∈ p.items, owns s x.cell = true /\ (cw s x.cell).version = x.version /\ 0 <= x.version /\ x.version <= 1099511627775
 hp : ∀ c, bp s c = true -> 0 <= (cw s c).hop /\ (cw s c).hop <= 1099511627776
theorem Hp {s : St} {c : Int} (h : c ∈ jg s) : ∃ p ∈ s.ay, ∃ x ∈ p.items, x.cell = c := by
 obtain ⟨p, hp, hc⟩ := List.mem_flatMap.1 h; obtain ⟨x, hx, e⟩ := List.mem_map.1 hc; exact ⟨p, hp, x, hx, e⟩
theorem xM {s : St} {p : Pr} {x : It} (hp : p ∈ s.ay) (hx : x ∈ p.items) : x.cell ∈ jg s := List.mem_flatMap.2 ⟨p, hp, List.mem_map.2 ⟨x, hx, rfl⟩⟩
theorem Inv.Hq {s : St} (h : Inv s) {c : Int} (hc : c ∈ jg s) : owns s c = true := by
 obtain ⟨p, hp, x, hx, rfl⟩ := Hp hc; exact (h.lk p hp x hx).1
theorem Inv.free {s : St} (h : Inv s) {c : Int} (hc : owns s c = false) : c ∉ jg s := fun hm => by rw [h.Hq hm] at hc; cases hc
theorem Inv.bJ {s : St} (h : Inv s) {c : Int} {q : Pl} (hc : bp s c = true) (hf : c ∉ jg s) (hq : 0 <= q.hop /\ q.hop <= 1099511627776) : Inv (bJ s c q) := by
 refine ⟨h.pp, h.pd, h.dd, h.rt, h.cc, fun p hp x hx => ?_, fun c' hc' => ?_⟩
 ·obtain ⟨h1, h2, h3⟩ := h.lk p hp x hx
  have hne : x.cell ≠ c := fun e => hf (by rw [<- e]; exact xM hp hx)
  have e := mE q hc (eF (jD h1)); rw [if_neg hne] at e; exact ⟨by rw [BF (qE s c q x.cell) (by rw [e])]; exact h1, by rw [e]; exact h2, h3⟩
 rw [qE] at hc'
 rw [mE q hc (eF hc')]
 split
 ·exact hq
 exact h.hp c' hc'
theorem Inv.eX {s : St} (h : Inv s) (r : Rc) (h1 : ∀ p ∈ s.ay, p.tid ≠ r.tid) (h2 : ∀ d ∈ s.dec, d.tid ≠ r.tid) : Inv (eX s r) := by
 have hm : ∀ d ∈ (Led.eX s r).dec, d ∈ s.dec \/ d = ⟨r.tid, r.yes⟩ := fun d hd => by
  rcases List.mem_cons.1 ((iO s.dec ⟨r.tid, r.yes⟩).mem_iff.1 hd) with e | e
  ·exact Or.inr e
  exact Or.inl e
 refine ⟨h.pp, fun p hp d hd => ?_, ?_, h.rt, h.cc, h.lk, h.hp⟩
 ·rcases hm d hd with hd | rfl
  ·exact h.pd p hp d hd
  exact h1 p hp
 have Ku := (iO s.dec ⟨r.tid, r.yes⟩).map De.tid
 refine Ku.nodup_iff.2 ?_; rw [List.map_cons, List.nodup_cons]; exact ⟨fun hm => by obtain ⟨d, hd, e⟩ := List.mem_map.1 hm; exact h2 d hd e, h.dd⟩
theorem kC {s : St} {u : cT} (h : ¬ known s u = true) : (∀ p ∈ s.ay, p.tid ≠ u) /\ ∀ d ∈ s.dec, d.tid ≠ u := by
 unfold known at h; rw [Bool.or_eq_true, not_or] at h; simp only [decide_eq_true_eq] at h; refine ⟨fun p hp e => ?_, fun d hd e => ?_⟩
 ·have := (vU s.ay (fun p => decide (p.tid = u))).1 (by unfold bQ at h; omega) p hp
  exact of_decide_eq_false this e
 have := (vU s.dec (fun p => decide (p.tid = u))).1 (by unfold dJ at h; omega) d hd
 exact of_decide_eq_false this e
theorem lR {s : St} : ∀ {l : List It}, bK s l = 0 -> ∀ x ∈ l, cC s x = 0
 | [], _, x, hx => by cases hx
 | y :: l, h, x, hx => by
  unfold bK at h
  by_cases e : cC s y = 0
  ·rw [if_pos e] at h
   rcases List.mem_cons.1 hx with rfl | hx
   ·exact e
   exact lR h x hx
  rw [if_neg e] at h
  exact absurd h e
theorem tD {s : St} {x : It} (h : cC s x = 0) : owns s x.cell = true /\ x.cell ∉ jg s /\ (cw s x.cell).version = x.version := by
 unfold cC at h
 split at h
 ·cases h
 rename_i h1
 split at h
 ·cases h
 rename_i h2
 split at h
 ·cases h
 rename_i h3
 have ho : owns s x.cell = true := by simpa using h1
 refine ⟨ho, fun hm => h2 ?_, by simpa using h3⟩; rw [qI, jD ho, decide_eq_true hm]
 rfl
theorem mI : ∀ {l : List It} {m : Int}, bW m l = true -> (∀ x ∈ l, m < x.cell) /\ (l.map It.cell).Nodup /\ ∀ x ∈ l, fD x = true
 | [], m, _ => ⟨fun x hx => (by cases hx), List.nodup_nil, fun x hx => (by cases hx)⟩
 | y :: l, m, h => by
  unfold bW at h; simp only [Bool.and_eq_true, decide_eq_true_eq] at h; obtain ⟨⟨h1, h2⟩, h3⟩ := h; obtain ⟨i1, i2, i3⟩ := mI h3; refine ⟨fun x hx => ?_, ?_, fun x hx => ?_⟩
  ·rcases List.mem_cons.1 hx with rfl | hx
   ·exact h1
   have := i1 x hx
   omega
  ·rw [List.map_cons, List.nodup_cons]
   refine ⟨fun hm => ?_, i2⟩; obtain ⟨x, hx, e⟩ := List.mem_map.1 hm; have := i1 x hx
   omega
  rcases List.mem_cons.1 hx with rfl | hx
  ·exact h2
  exact i3 x hx
theorem yx {x : It} (h : fD x = true) : 0 <= x.version /\ x.version <= 1099511627775 := by
 unfold fD at h; have := of_decide_eq_true h; exact ⟨this.2.2.1, this.2.2.2.1⟩
theorem Inv.eN {s : St} (h : Inv s) (r : Rc) (h1 : ¬ known s r.tid = true) (h2 : bK s r.items = 0) (h3 : cF r.tid = true) (h4 : aY r.items = true) : Inv (eN s r) := by
 obtain ⟨k1, k2⟩ := kC h1; have Ku := lQ s.ay (jO s.ay (jy r)) (jy r); have hm : ∀ p ∈ (Led.eN s r).ay, p = jy r \/ p ∈ s.ay := fun p hp => List.mem_cons.1 (Ku.mem_iff.1 hp)
 unfold aY at h4; rw [Bool.and_eq_true] at h4; obtain ⟨u1, u2, u3⟩ := mI h4.1; refine ⟨?_, fun p hp d hd => ?_, h.dd, fun p hp => ?_, ?_, fun p hp x hx => ?_, h.hp⟩
 ·refine (Ku.map Pr.tid).nodup_iff.2 ?_
  rw [List.map_cons, List.nodup_cons]; exact ⟨fun hm => by obtain ⟨p, hp, e⟩ := List.mem_map.1 hm; exact k1 p hp e, h.pp⟩
 ·rcases hm p hp with rfl | hp
  ·exact fun e => k2 d hd e.symm
  exact h.pd p hp d hd
 ·rcases hm p hp with rfl | hp
  ·exact h3
  exact h.rt p hp
 ·have e : (jg (Led.eN s r)).Perm (r.items.map It.cell ++ jg s) := (Ku.flatMap_right (fun p : Pr => p.items.map It.cell))
  refine e.nodup_iff.2 ?_; rw [List.nodup_append]; refine ⟨u2, h.cc, fun a ha b hb e => ?_⟩; obtain ⟨x, hx, rfl⟩ := List.mem_map.1 ha; exact (tD (lR h2 x hx)).2.1 (by rw [e]; exact hb)
 rcases hm p hp with rfl | hp
 ·obtain ⟨v1, v2, v3⟩ := tD (lR h2 x hx)
  exact ⟨v1, v3, yx (u3 x hx)⟩
 exact h.lk p hp x hx
theorem GW {s : St} {u : cT} (h : ¬ bQ s u < 0) : ∃ (k : Nat) (hk : k < s.ay.length), bQ s u = (k : Int) /\ s.ay[k].tid = u := by
 obtain ⟨k, hk, e, f⟩ := xS s.ay (fun p => decide (p.tid = u)) (by unfold bQ at h; omega); exact ⟨k, hk, e, of_decide_eq_true f⟩
def done (s : St) (k : Nat) (r : Rc) : St := eX { (if r.yes = true then aO s (bV s k) else s) with ay := cut s.ay k } r
theorem mM {s : St} {r : Rc} {k : Nat} (h : bQ s r.tid = (k : Int)) : cK s r = (done s k r, 0) := by
 unfold cK done; rw [if_neg (by omega), h, Int.toNat_natCast]
 by_cases hy : r.yes = true
 ·simp only [if_pos hy]
  rw [(cg s (bV s k)).1]
 simp only [if_neg hy]
theorem lM {s : St} {k : Nat} (hk : k < s.ay.length) : bV s k = s.ay[k].items := by unfold bV; rw [List.getElem?_eq_getElem hk]; rfl
theorem sV (s : St) (k : Nat) (r : Rc) : (done s k r).places.length = s.places.length := by
 show (if r.yes = true then aO s (bV s k) else s).places.length = _
 split
 ·exact (cg s _).2.2.2.2.1
 rfl
theorem vV (s : St) (k : Nat) (r : Rc) (c : Int) : cw (done s k r) c = if r.yes = true then cw (aO s (bV s k)) c else cw s c := by
 show cw (if r.yes = true then aO s (bV s k) else s) c = _
 split <;> rfl
theorem sX (s : St) (k : Nat) (r : Rc) : (done s k r).com = s.com := by
 show (if r.yes = true then aO s (bV s k) else s).com = _
 split
 ·exact (cg s _).2.2.1
 rfl
theorem AV (s : St) (k : Nat) (r : Rc) : (done s k r).epoch = s.epoch := by
 show (if r.yes = true then aO s (bV s k) else s).epoch = _
 split
 ·exact (cg s _).2.2.2.1
 rfl
theorem sW (s : St) (k : Nat) (r : Rc) : (done s k r).dec = gI s.dec ⟨r.tid, r.yes⟩ := by
 show gI (if r.yes = true then aO s (bV s k) else s).dec _ = _
 split
 ·rw [(cg s _).2.1]
 rfl
theorem E7 (s : St) (k : Nat) (r : Rc) {c : Int} (hc : 0 <= c) : (cw (done s k r) c).hop = (cw s c).hop /\ (cw (done s k r) c).status = (cw s c).status := by
 rw [vV]
 split
 ·exact yr s _ hc
 exact ⟨rfl, rfl⟩
theorem xY (s : St) (k : Nat) (r : Rc) {c : Int} (hc : 0 <= c) (hn : c ∉ (bV s k).map It.cell) : cw (done s k r) c = cw s c := by
 rw [vV]
 split
 ·exact tq s _ hc hn
 rfl
theorem Al {s : St} {k : Nat} (hk : k < s.ay.length) : (jg s).Perm (s.ay[k].items.map It.cell ++ jg { s with ay := cut s.ay k }) := (mG s.ay k hk).flatMap_right (fun p : Pr => p.items.map It.cell)
theorem Inv.parts {s : St} (h : Inv s) {k : Nat} (hk : k < s.ay.length) : (s.ay[k].items.map It.cell).Nodup /\ (jg { s with ay := cut s.ay k }).Nodup /\ ∀ c ∈ s.ay[k].items.map It.cell, c ∉ jg { s with ay := cut s.ay k } := by
 have h1 := (Al hk).nodup_iff.1 h.cc; rw [List.nodup_append] at h1; exact ⟨h1.1, h1.2.1, fun c hc hm => h1.2.2 c hc c hm rfl⟩
theorem rY {s : St} {k : Nat} (hk : k < s.ay.length) {p : Pr} (hp : p ∈ cut s.ay k) : p ∈ s.ay := (mG s.ay k hk).mem_iff.2 (List.mem_cons.2 (Or.inr hp))
theorem Inv.tids {s : St} (h : Inv s) {k : Nat} (hk : k < s.ay.length) : (∀ p ∈ cut s.ay k, p.tid ≠ s.ay[k].tid) /\ ((cut s.ay k).map Pr.tid).Nodup := by
 have h1 := ((mG s.ay k hk).map Pr.tid).nodup_iff.1 h.pp; rw [List.map_cons, List.nodup_cons] at h1; exact ⟨fun p hp e => h1.1 (by rw [<- e]; exact List.mem_map.2 ⟨p, hp, rfl⟩), h1.2⟩
theorem Inv.done {s : St} (h : Inv s) {k : Nat} (hk : k < s.ay.length) (r : Rc) (he : s.ay[k].tid = r.tid) : Inv (done s k r) := by
 obtain ⟨t1, t2⟩ := h.tids hk; obtain ⟨c1, c2, c3⟩ := h.parts hk; have h0 : Inv { (if r.yes = true then aO s (bV s k) else s) with ay := cut s.ay k } := by
  have hat : ∀ c, cw { (if r.yes = true then aO s (bV s k) else s) with ay := cut s.ay k } c = cw (Led.done s k r) c := fun c => rfl
  have hha : ∀ c, bp { (if r.yes = true then aO s (bV s k) else s) with ay := cut s.ay k } c = bp s c := fun c => rX (sV s k r) c
  have hde : (if r.yes = true then aO s (bV s k) else s).dec = s.dec := by
   split
   ·exact (cg s _).2.1
   rfl
  refine ⟨t2, fun p hp d hd => ?_, ?_, fun p hp => h.rt p (rY hk hp), c2, fun p hp x hx => ?_, fun c hc => ?_⟩
  ·rw [hde] at hd
   exact h.pd p (rY hk hp) d hd
  ·rw [hde]
   exact h.dd
  ·obtain ⟨v1, v2, v3⟩ := h.lk p (rY hk hp) x hx
   have hc0 := eF (jD v1); have hn : x.cell ∉ (bV s k).map It.cell := by
    rw [lM hk]; exact fun hm => c3 x.cell hm (xM (s := { s with ay := cut s.ay k }) hp hx)
   have e := xY s k r hc0 hn; exact ⟨by rw [BF (hha x.cell) (by rw [hat, e])]; exact v1, by rw [hat, e]; exact v2, v3⟩
  rw [hha] at hc
  rw [hat, (E7 s k r (eF hc)).1]; exact h.hp c hc
 have hde : (if r.yes = true then aO s (bV s k) else s).dec = s.dec := by
  split
  ·exact (cg s _).2.1
  rfl
 refine h0.eX r (fun p hp => by rw [<- he]; exact t1 p hp) (fun d hd => ?_); rw [<- he]; have hd2 : d ∈ s.dec := by rw [<- hde]; exact hd
 exact fun e => h.pd s.ay[k] (List.getElem_mem hk) d hd2 e.symm
theorem kM {r : Rc} (h : right r = true) (f : Nat) (hf : (f : Int) ∈ fl r.kind) : rf r f = true := by
 unfold right at h; simp only [Bool.and_eq_true] at h; have := List.all_eq_true.1 h.2 (f : Int) hf
 rwa [Int.toNat_natCast] at this
theorem kP {r : Rc} (h : right r = true) (hf : (8 : Int) ∈ fl r.kind) : cF r.tid = true := kM h 8 hf
theorem kQ {r : Rc} (h : right r = true) (hf : (5 : Int) ∈ fl r.kind) : 0 <= r.hop /\ r.hop <= 1099511627776 := by
 have h5 := kM h 5 hf
 by_cases hk : r.kind = 3
 ·simp [rf, iP, Rc.get, Rc.jN, hk] at h5
  omega
 simp [rf, iP, Rc.get, Rc.jN, hk] at h5
 omega
theorem kE {r : Rc} (h : right r = true) (hk : r.kind = 4) : aY r.items = true := by
 have h9 := kM h 9 (by rw [hk]; decide); unfold rf at h9; rw [if_neg (by decide), if_pos rfl, hk] at h9
 simpa using h9
theorem J3 {s : St} {c : Int} (h : ¬ owns s c = true) : owns s c = false := by cases e : owns s c with | true => exact absurd e h | false => rfl
theorem yu {s : St} {c : Int} (h : (cw s c).status = 2) : owns s c = false := by unfold owns; rw [h]; simp
theorem Inv.empty (a b : Int) (n : Nat) : Inv (cJ a b n) := by
 refine ⟨List.nodup_nil, fun p hp => (by cases hp), List.nodup_nil, fun p hp => (by cases hp), List.nodup_nil, fun p hp => (by cases hp), fun c hc => ?_⟩; have : cw (cJ a b n) c = rH := by
  unfold cw cJ; simp only [List.getElem?_replicate]
  split <;> rfl
 rw [this]
 decide
theorem Inv.past {s : St} (h : Inv s) (r : Rc) (h0 : (dK s r).2 = 0) : Inv (dK s r).1 := by
 unfold dK at h0 ⊢
 split
 ·rename_i e; rw [if_pos e] at h0; cases h0
 rename_i e
 rw [if_neg e] at h0
 split
 ·rename_i e2; rw [if_pos e2] at h0; cases h0
 rename_i e2
 rw [if_neg e2] at h0
 split
 ·rename_i e3; rw [if_pos e3] at h0; cases h0
 exact h.eX r (kC e).1 (kC e).2
theorem Inv.vW {s : St} (h : Inv s) (r : Rc) (h0 : (cK s r).2 = 0) : Inv (cK s r).1 := by
 by_cases hd : bQ s r.tid < 0
 ·have e : cK s r = dH s r := by unfold cK; rw [if_pos hd]
  rw [e] at h0 ⊢; unfold dH at h0 ⊢
  split
  ·rename_i e1; rw [if_pos e1] at h0; cases h0
  rename_i e1
  rw [if_neg e1] at h0
  split
  ·rename_i e2; rw [if_pos e2] at h0; cases h0
  rename_i e2
  rw [if_neg e2] at h0; exact h.past r h0
 obtain ⟨k, hk, e, ht⟩ := GW hd
 rw [mM e]; exact h.done hk r ht
theorem Inv.aV {s : St} (h : Inv s) (r : Rc) (hr : right r = true) (h0 : (aV s r).2 = 0) : Inv (aV s r).1 := by
 unfold Led.aV at h0 ⊢
 split
 ·exact Inv.empty _ _ _
 rename_i k1; rw [if_neg k1] at h0
 split
 ·rename_i k; rw [if_pos k] at h0
  unfold gj at h0 ⊢
  split
  ·rename_i e; rw [if_pos e] at h0; cases h0
  exact ⟨h.pp, h.pd, h.dd, h.rt, h.cc, h.lk, h.hp⟩
 rename_i k2; rw [if_neg k2] at h0
 split
 ·rename_i k; rw [if_pos k] at h0
  unfold eB at h0 ⊢
  split
  ·rename_i e; rw [if_pos e] at h0; cases h0
  rename_i e1; rw [if_neg e1] at h0
  split
  ·rename_i e; rw [if_pos e] at h0; cases h0
  rename_i e2; rw [if_neg e2] at h0
  split
  ·rename_i e; rw [if_pos e] at h0; cases h0
  rename_i e3; have hc : bp s r.cell = true := by simpa using e1
  exact h.bJ hc (fun hm => e3 (by rw [qI, hc, decide_eq_true hm]; rfl)) (kQ hr (by rw [k]; decide))
 rename_i k3; rw [if_neg k3] at h0
 split
 ·rename_i k; rw [if_pos k] at h0
  unfold bq at h0 ⊢
  split
  ·rename_i e; rw [if_pos e] at h0; cases h0
  rename_i e1; rw [if_neg e1] at h0
  split
  ·rename_i e; rw [if_pos e] at h0; cases h0
  rename_i e2; rw [if_neg e2] at h0
  split
  ·rename_i e; rw [if_pos e] at h0; cases h0
  rename_i e3; rw [if_neg e3] at h0
  split
  ·rename_i e; rw [if_pos e] at h0; cases h0
  rename_i e4; rw [if_neg e4] at h0
  split
  ·rename_i e; rw [if_pos e] at h0; cases h0
  rename_i e5; rw [if_neg e5] at h0
  split
  ·rename_i e6; rw [if_pos e6] at h0
   split
   ·rename_i e; rw [if_pos e] at h0; cases h0
   exact h.eN r e1 e6 (kP hr (by rw [k]; decide)) (kE hr k)
  rename_i e6; rw [if_neg e6] at h0
  exact absurd h0 e6
 rename_i k4; rw [if_neg k4] at h0
 split
 ·rename_i k; rw [if_pos k] at h0
  exact h.vW r h0
 rename_i k6; rw [if_neg k6] at h0
 split
 ·rename_i k; rw [if_pos k] at h0
  exact h.past r h0
 rename_i k11; rw [if_neg k11] at h0
 split
 ·unfold cQ
  repeat' (first | exact h | (exact ⟨h.pp, h.pd, h.dd, h.rt, h.cc, h.lk, h.hp⟩) | split)
 rename_i k5; rw [if_neg k5] at h0
 split
 ·unfold lf
  repeat' (first | exact h | (exact ⟨h.pp, h.pd, h.dd, h.rt, h.cc, h.lk, h.hp⟩) | split)
 rename_i k7; rw [if_neg k7] at h0
 split
 ·rename_i k; rw [if_pos k] at h0
  unfold iz at h0 ⊢
  split
  ·rename_i e; rw [if_pos e] at h0; cases h0
  rename_i e1; rw [if_neg e1] at h0
  split
  ·rename_i e; rw [if_pos e] at h0; cases h0
  rename_i e2; rw [if_neg e2] at h0
  split
  ·rename_i e; rw [if_pos e] at h0; cases h0
  rename_i e3; rw [if_neg e3] at h0
  split
  ·rename_i e; rw [if_pos e] at h0; cases h0
  rename_i e4; rw [if_neg e4] at h0
  split
  ·rename_i e; rw [if_pos e] at h0; cases h0
  rename_i e5; rw [if_neg e5] at h0
  split
  ·rename_i e; rw [if_pos e] at h0; cases h0
  have hc : bp s r.cell = true := by simpa using e1
  exact h.bJ hc (fun hm => e5 (by rw [qI, hc, decide_eq_true hm]; rfl)) (kQ hr (by rw [k]; decide))
 rename_i k8; rw [if_neg k8] at h0
 split
 ·rename_i k; rw [if_pos k] at h0
  unfold vG at h0 ⊢
  split
  ·rename_i e; rw [if_pos e] at h0; cases h0
  rename_i e1; rw [if_neg e1] at h0
  split
  ·rename_i e; rw [if_pos e] at h0; cases h0
  rename_i e2; rw [if_neg e2] at h0
  split
  ·rename_i e; rw [if_pos e] at h0; cases h0
  have hc : bp s r.cell = true := by simpa using e1
  exact h.bJ hc (h.free (J3 e2)) (kQ hr (by rw [k]; decide))
 rename_i k9; rw [if_neg k9] at h0
 split
 ·rename_i k; rw [if_pos k] at h0
  unfold fY at h0 ⊢
  split
  ·rename_i e; rw [if_pos e] at h0; cases h0
  rename_i e1; rw [if_neg e1] at h0
  split
  ·rename_i e; rw [if_pos e] at h0; cases h0
  rename_i e2; rw [if_neg e2] at h0
  split
  ·rename_i e; rw [if_pos e] at h0; cases h0
  have hc : bp s r.cell = true := by simpa using e1
  exact h.bJ hc (h.free (yu (by simpa using e2))) (kQ hr (by rw [k]; decide))
 exact h
theorem Inv.first (a b : Int) (n : Nat) : Inv (eA a b n) := by
 refine ⟨List.nodup_nil, fun p hp => (by cases hp), List.nodup_nil, fun p hp => (by cases hp), List.nodup_nil, fun p hp => (by cases hp), fun c hc => ?_⟩; have : (cw (eA a b n) c).hop = 0 := by
  unfold cw eA; simp only; rw [fA]
  split
  ·simp only [Option.getD_some]
   split <;> rfl
  rfl
 rw [this]
 decide
theorem Inv.cD {a b c : Int} (h : (cD a b c).2 = 0) : Inv (cD a b c).1 := by
 unfold Led.cD at h ⊢
 split
 ·rename_i e; rw [if_pos e] at h; cases h
 exact Inv.first _ _ _
