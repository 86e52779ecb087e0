/-
  Layer 8, without memory: what holds of every state that records come to.
  Conditions: none.
-/
import Derived.Test.YtalhbblmnahcdaaGreatPa45
namespace Go.Proofs.YtalhbblmnahcdaaGreat.Led
set_option maxRecDepth 100000
open Go.RowKit Go.Proofs.YtalhbblmnahcdaaGreat.Mem Go.Proofs.YtalhbblmnahcdaaGreat.Item Go.Proofs.YtalhbblmnahcdaaGreat.Rec
/-- Whose answer is the first. -/
theorem idx_neg {α : Type} (l : List α) (f : α → Bool) : idxB (l.map f) < 0 ↔ ∀ x ∈ l, f x = false := by
 have h := idxB_nonneg (l.map f)
 rw [List.any_map] at h
 constructor
 ·intro hn x hx
  rw [decide_eq_false (by omega)] at h
  have := List.any_eq_false.1 h.symm x hx
  simpa using this
 ·intro ha
  have e : l.any ((fun b => b) ∘ f) = false := by
   rw [List.any_eq_false]
   intro x hx
   simp [ha x hx]
  rw [e] at h
  have := of_decide_eq_false h
  omega
theorem idx_some {α : Type} (l : List α) (f : α → Bool) (h : 0 ≤ idxB (l.map f)) : ∃ (k : Nat) (hk : k < l.length), idxB (l.map f) = (k : Int) ∧ f l[k] = true := by
 unfold idxB at h ⊢
 cases e : (l.map f).findIdx? (fun b => b) with
 | none => rw [e] at h; exact absurd h (by decide)
 | some i =>
  obtain ⟨hi, hp, _⟩ := List.findIdx?_eq_some_iff_getElem.1 e
  exact ⟨i, by simpa using hi, rfl, by simpa using hp⟩
theorem idx_at {α β : Type} [DecidableEq β] (l : List α) (g : α → β) (hn : (l.map g).Nodup) (k : Nat) (hk : k < l.length) : idxB (l.map fun p => decide (g p = g l[k])) = (k : Int) := by
 have h0 : 0 ≤ idxB (l.map fun p => decide (g p = g l[k])) := by
  rcases Int.lt_or_le (idxB (l.map fun p => decide (g p = g l[k]))) 0 with h | h
  ·have := (idx_neg l _).1 h l[k] (List.getElem_mem hk)
   simp at this
  ·exact h
 obtain ⟨j, hj, e, hf⟩ := idx_some l _ h0
 rw [e]
 have hg : g l[j] = g l[k] := by simpa using hf
 have : j = k := by
  have h1 : (l.map g)[j]'(by simpa using hj) = (l.map g)[k]'(by simpa using hk) := by simpa using hg
  exact (List.getElem_inj hn).1 h1
 rw [this]
theorem find_mem (l : List It) (c : Int) : decide (0 ≤ findI l c) = decide (c ∈ l.map It.cell) := by
 unfold findI
 cases e : l.findIdx? (fun x => x.cell == c) with
 | none =>
  have h := List.findIdx?_eq_none_iff.1 e
  have : ¬ c ∈ l.map It.cell := by
   intro hm
   obtain ⟨x, hx, rfl⟩ := List.mem_map.1 hm
   have := h x hx
   simp at this
  rw [decide_eq_false this]
  rfl
 | some i =>
  obtain ⟨hi, hp, _⟩ := List.findIdx?_eq_some_iff_getElem.1 e
  have : c ∈ l.map It.cell := List.mem_map.2 ⟨l[i], List.getElem_mem hi, by simpa using hp⟩
  rw [decide_eq_true this]
  exact decide_eq_true (Int.natCast_nonneg i)
/-- The cells that are locked. -/
def lockC (s : St) : List Int := s.prep.flatMap fun p => p.items.map It.cell
theorem locked_eq (s : St) (c : Int) : locked s c = (hasC s c && decide (c ∈ lockC s)) := by
 unfold locked
 congr 1
 have e : s.prep.any (lockP c) = s.prep.any fun p => decide (c ∈ p.items.map It.cell) := by
  congr 1
  funext p
  exact find_mem p.items c
 rw [e]
 cases h : s.prep.any fun p => decide (c ∈ p.items.map It.cell) with
 | true =>
  obtain ⟨p, hp, hc⟩ := List.any_eq_true.1 h
  exact (decide_eq_true (List.mem_flatMap.2 ⟨p, hp, of_decide_eq_true hc⟩)).symm
 | false =>
  refine (decide_eq_false fun hm => ?_).symm
  obtain ⟨p, hp, hc⟩ := List.mem_flatMap.1 hm
  have := List.any_eq_false.1 h p hp
  simp only [decide_eq_true_eq] at this
  exact this hc
theorem setPl_has (s : St) (c : Int) (q : Pl) (c' : Int) : hasC (setPl s c q) c' = hasC s c' := by unfold hasC setPl; simp
theorem plAt_set {s : St} {c : Int} (q : Pl) {c' : Int} (hc : hasC s c = true) (hc' : 0 ≤ c') : plAt (setPl s c q) c' = if c' = c then q else plAt s c' := by
 have h := (hasC_iff s c).1 hc
 unfold plAt setPl
 simp only
 rw [List.getElem?_set]
 by_cases e : c' = c
 ·subst e
  rw [if_pos rfl, if_pos rfl, if_pos (by omega)]
  rfl
 ·rw [if_neg (by omega), if_neg e]
theorem has_nonneg {s : St} {c : Int} (h : hasC s c = true) : 0 ≤ c := ((hasC_iff s c).1 h).1
theorem writeOne_same (s : St) (x : It) : (writeOne s x).prep = s.prep ∧ (writeOne s x).dec = s.dec ∧ (writeOne s x).com = s.com ∧ (writeOne s x).epoch = s.epoch ∧ (writeOne s x).places.length = s.places.length ∧ (writeOne s x).node = s.node ∧ (writeOne s x).nodes = s.nodes ∧ (writeOne s x).cells = s.cells := by
 unfold writeOne
 split
 ·unfold setPl
  simp
 ·simp
theorem writeL_same (s : St) (l : List It) : (writeL s l).prep = s.prep ∧ (writeL s l).dec = s.dec ∧ (writeL s l).com = s.com ∧ (writeL s l).epoch = s.epoch ∧ (writeL s l).places.length = s.places.length ∧ (writeL s l).node = s.node ∧ (writeL s l).nodes = s.nodes ∧ (writeL s l).cells = s.cells := by
 induction l generalizing s with
 | nil => exact ⟨rfl, rfl, rfl, rfl, rfl, rfl, rfl, rfl⟩
 | cons x l ih =>
  have h1 := ih (writeOne s x)
  have h2 := writeOne_same s x
  have e : writeL s (x :: l) = writeL (writeOne s x) l := rfl
  rw [e]
  exact ⟨h1.1.trans h2.1, h1.2.1.trans h2.2.1, h1.2.2.1.trans h2.2.2.1, h1.2.2.2.1.trans h2.2.2.2.1, h1.2.2.2.2.1.trans h2.2.2.2.2.1, h1.2.2.2.2.2.1.trans h2.2.2.2.2.2.1, h1.2.2.2.2.2.2.1.trans h2.2.2.2.2.2.2.1, h1.2.2.2.2.2.2.2.trans h2.2.2.2.2.2.2.2⟩
theorem has_len {s t : St} (h : t.places.length = s.places.length) (c : Int) : hasC t c = hasC s c := by unfold hasC; rw [h]
/-- What a written cell has. -/
def wrote (p : Pl) (x : It) : Pl := if x.write = true then ⟨p.status, p.hop, p.to, IntKind.i64.wrap (p.version + 1), x.new⟩ else p
theorem writeOne_at (s : St) (x : It) {c : Int} (hc : 0 ≤ c) : plAt (writeOne s x) c = if c = x.cell ∧ hasC s c = true then wrote (plAt s c) x else plAt s c := by
 unfold writeOne
 by_cases h : x.write = true ∧ hasC s x.cell = true
 ·rw [if_pos h, plAt_set _ h.2 hc]
  by_cases e : c = x.cell
  ·rw [if_pos e, if_pos ⟨e, by rw [e]; exact h.2⟩, e, wrote, if_pos h.1]
  ·rw [if_neg e, if_neg (fun k => e k.1)]
 ·rw [if_neg h]
  by_cases e : c = x.cell ∧ hasC s c = true
  ·rw [if_pos e, wrote, if_neg (fun k => h ⟨k, by rw [← e.1]; exact e.2⟩)]
  ·rw [if_neg e]
theorem writeL_not (s : St) (l : List It) {c : Int} (hc : 0 ≤ c) (hn : c ∉ l.map It.cell) : plAt (writeL s l) c = plAt s c := by
 induction l generalizing s with
 | nil => rfl
 | cons x l ih =>
  have e : writeL s (x :: l) = writeL (writeOne s x) l := rfl
  simp only [List.map_cons, List.mem_cons, not_or] at hn
  rw [e, ih _ hn.2, writeOne_at s x hc, if_neg (fun k => hn.1 k.1)]
theorem writeL_at (s : St) (l : List It) (hd : (l.map It.cell).Nodup) {x : It} (hx : x ∈ l) (hh : hasC s x.cell = true) : plAt (writeL s l) x.cell = wrote (plAt s x.cell) x := by
 induction l generalizing s with
 | nil => cases hx
 | cons y l ih =>
  have e : writeL s (y :: l) = writeL (writeOne s y) l := rfl
  simp only [List.map_cons, List.nodup_cons] at hd
  rw [e]
  rcases List.mem_cons.1 hx with rfl | hx
  ·rw [writeL_not _ _ (has_nonneg hh) hd.1, writeOne_at s x (has_nonneg hh), if_pos ⟨rfl, hh⟩]
  ·rw [ih _ hd.2 hx (by rw [has_len (writeOne_same s y).2.2.2.2.1]; exact hh), writeOne_at s y (has_nonneg hh), if_neg]
   rintro ⟨e2, _⟩
   exact hd.1 (by rw [← e2]; exact List.mem_map.2 ⟨x, hx, rfl⟩)
theorem writeL_keep (s : St) (l : List It) {c : Int} (hc : 0 ≤ c) : (plAt (writeL s l) c).hop = (plAt s c).hop ∧ (plAt (writeL s l) c).status = (plAt s c).status := by
 induction l generalizing s with
 | nil => exact ⟨rfl, rfl⟩
 | cons x l ih =>
  have e : writeL s (x :: l) = writeL (writeOne s x) l := rfl
  rw [e, (ih _).1, (ih _).2, writeOne_at s x hc]
  split
  ·unfold wrote
   split <;> exact ⟨rfl, rfl⟩
  ·exact ⟨rfl, rfl⟩
theorem owns_eq {s t : St} {c : Int} (h1 : hasC t c = hasC s c) (h2 : (plAt t c).status = (plAt s c).status) : owns t c = owns s c := by unfold owns; rw [h1, h2]
theorem insAt_perm {α : Type} (l : List α) (i : Nat) (x : α) : (insAt l i x).Perm (x :: l) := by
 unfold insAt
 have h : (l.take i ++ x :: l.drop i).Perm (x :: (l.take i ++ l.drop i)) := List.perm_middle
 rw [List.take_append_drop] at h
 exact h
theorem insD_perm (l : List De) (d : De) : (insD l d).Perm (d :: l) := insAt_perm l _ d
theorem cut_perm {α : Type} (l : List α) (k : Nat) (hk : k < l.length) : l.Perm (l[k] :: cut l k) := by
 have h : (l.take k ++ l[k] :: l.drop (k + 1)).Perm (l[k] :: cut l k) := List.perm_middle
 have e : l.take k ++ l[k] :: l.drop (k + 1) = l := by
  rw [← List.drop_eq_getElem_cons hk, List.take_append_drop]
 rw [e] at h
 exact h
/-- What holds of each state that records come to. -/
structure Inv (s : St) : Prop where
 pp : (s.prep.map Pr.tid).Nodup
 pd : ∀ p ∈ s.prep, ∀ d ∈ s.dec, p.tid ≠ d.tid
 dd : (s.dec.map De.tid).Nodup
 rt : ∀ p ∈ s.prep, rightTid p.tid = true
 cc : (lockC s).Nodup
 lk : ∀ p ∈ s.prep, ∀ x ∈ p.items, owns s x.cell = true ∧ (plAt s x.cell).version = x.version ∧ 0 ≤ x.version ∧ x.version ≤ 1099511627775
 hp : ∀ c, hasC s c = true → 0 ≤ (plAt s c).hop ∧ (plAt s c).hop ≤ 1099511627776
theorem lock_mem {s : St} {c : Int} (h : c ∈ lockC s) : ∃ p ∈ s.prep, ∃ x ∈ p.items, x.cell = c := by
 obtain ⟨p, hp, hc⟩ := List.mem_flatMap.1 h
 obtain ⟨x, hx, e⟩ := List.mem_map.1 hc
 exact ⟨p, hp, x, hx, e⟩
theorem mem_lock {s : St} {p : Pr} {x : It} (hp : p ∈ s.prep) (hx : x ∈ p.items) : x.cell ∈ lockC s := List.mem_flatMap.2 ⟨p, hp, List.mem_map.2 ⟨x, hx, rfl⟩⟩
theorem Inv.lockOwns {s : St} (h : Inv s) {c : Int} (hc : c ∈ lockC s) : owns s c = true := by
 obtain ⟨p, hp, x, hx, rfl⟩ := lock_mem hc
 exact (h.lk p hp x hx).1
theorem Inv.free {s : St} (h : Inv s) {c : Int} (hc : owns s c = false) : c ∉ lockC s := fun hm => by rw [h.lockOwns hm] at hc; cases hc
theorem Inv.setPl {s : St} (h : Inv s) {c : Int} {q : Pl} (hc : hasC s c = true) (hf : c ∉ lockC s) (hq : 0 ≤ q.hop ∧ q.hop ≤ 1099511627776) : Inv (setPl s c q) := by
 refine ⟨h.pp, h.pd, h.dd, h.rt, h.cc, fun p hp x hx => ?_, fun c' hc' => ?_⟩
 ·obtain ⟨h1, h2, h3⟩ := h.lk p hp x hx
  have hne : x.cell ≠ c := fun e => hf (by rw [← e]; exact mem_lock hp hx)
  have e := plAt_set q hc (has_nonneg (owns_has h1))
  rw [if_neg hne] at e
  exact ⟨by rw [owns_eq (setPl_has s c q x.cell) (by rw [e])]; exact h1, by rw [e]; exact h2, h3⟩
 ·rw [setPl_has] at hc'
  rw [plAt_set q hc (has_nonneg hc')]
  split
  ·exact hq
  ·exact h.hp c' hc'
theorem Inv.conc {s : St} (h : Inv s) (r : Rc) (h1 : ∀ p ∈ s.prep, p.tid ≠ r.tid) (h2 : ∀ d ∈ s.dec, d.tid ≠ r.tid) : Inv (conc s r) := by
 have hm : ∀ d ∈ (Led.conc s r).dec, d ∈ s.dec ∨ d = ⟨r.tid, r.yes⟩ := fun d hd => by
  rcases List.mem_cons.1 ((insD_perm s.dec ⟨r.tid, r.yes⟩).mem_iff.1 hd) with e | e
  ·exact Or.inr e
  ·exact Or.inl e
 refine ⟨h.pp, fun p hp d hd => ?_, ?_, h.rt, h.cc, h.lk, h.hp⟩
 ·rcases hm d hd with hd | rfl
  ·exact h.pd p hp d hd
  ·exact h1 p hp
 ·have hpm := (insD_perm s.dec ⟨r.tid, r.yes⟩).map De.tid
  refine hpm.nodup_iff.2 ?_
  rw [List.map_cons, List.nodup_cons]
  exact ⟨fun hm => by obtain ⟨d, hd, e⟩ := List.mem_map.1 hm; exact h2 d hd e, h.dd⟩
theorem known_no {s : St} {u : Tid} (h : ¬ known s u = true) : (∀ p ∈ s.prep, p.tid ≠ u) ∧ ∀ d ∈ s.dec, d.tid ≠ u := by
 unfold known at h
 rw [Bool.or_eq_true, not_or] at h
 simp only [decide_eq_true_eq] at h
 refine ⟨fun p hp e => ?_, fun d hd e => ?_⟩
 ·have := (idx_neg s.prep (fun p => decide (p.tid = u))).1 (by unfold at_prep at h; omega) p hp
  exact of_decide_eq_false this e
 ·have := (idx_neg s.dec (fun p => decide (p.tid = u))).1 (by unfold at_dec at h; omega) d hd
  exact of_decide_eq_false this e
theorem firstE_all {s : St} : ∀ {l : List It}, firstE s l = 0 → ∀ x ∈ l, lockE s x = 0
 | [], _, x, hx => by cases hx
 | y :: l, h, x, hx => by
  unfold firstE at h
  by_cases e : lockE s y = 0
  ·rw [if_pos e] at h
   rcases List.mem_cons.1 hx with rfl | hx
   ·exact e
   ·exact firstE_all h x hx
  ·rw [if_neg e] at h
   exact absurd h e
theorem lockE_zero {s : St} {x : It} (h : lockE s x = 0) : owns s x.cell = true ∧ x.cell ∉ lockC s ∧ (plAt s x.cell).version = x.version := by
 unfold lockE at h
 split at h
 ·cases h
 ·rename_i h1
  split at h
  ·cases h
  ·rename_i h2
   split at h
   ·cases h
   ·rename_i h3
    have ho : owns s x.cell = true := by simpa using h1
    refine ⟨ho, fun hm => h2 ?_, by simpa using h3⟩
    rw [locked_eq, owns_has ho, decide_eq_true hm]
    rfl
theorem rightFrom_up : ∀ {l : List It} {m : Int}, rightFrom m l = true → (∀ x ∈ l, m < x.cell) ∧ (l.map It.cell).Nodup ∧ ∀ x ∈ l, rightIt x = true
 | [], m, _ => ⟨fun x hx => (by cases hx), List.nodup_nil, fun x hx => (by cases hx)⟩
 | y :: l, m, h => by
  unfold rightFrom at h
  simp only [Bool.and_eq_true, decide_eq_true_eq] at h
  obtain ⟨⟨h1, h2⟩, h3⟩ := h
  obtain ⟨i1, i2, i3⟩ := rightFrom_up h3
  refine ⟨fun x hx => ?_, ?_, fun x hx => ?_⟩
  ·rcases List.mem_cons.1 hx with rfl | hx
   ·exact h1
   ·have := i1 x hx
    omega
  ·rw [List.map_cons, List.nodup_cons]
   refine ⟨fun hm => ?_, i2⟩
   obtain ⟨x, hx, e⟩ := List.mem_map.1 hm
   have := i1 x hx
   omega
  ·rcases List.mem_cons.1 hx with rfl | hx
   ·exact h2
   ·exact i3 x hx
theorem rightIt_ver {x : It} (h : rightIt x = true) : 0 ≤ x.version ∧ x.version ≤ 1099511627775 := by
 unfold rightIt at h
 have := of_decide_eq_true h
 exact ⟨this.2.2.1, this.2.2.2.1⟩
theorem Inv.prepS {s : St} (h : Inv s) (r : Rc) (h1 : ¬ known s r.tid = true) (h2 : firstE s r.items = 0) (h3 : rightTid r.tid = true) (h4 : rightItems r.items = true) : Inv (prepS s r) := by
 obtain ⟨k1, k2⟩ := known_no h1
 have hpm := insAt_perm s.prep (insI s.prep (rcPr r)) (rcPr r)
 have hm : ∀ p ∈ (Led.prepS s r).prep, p = rcPr r ∨ p ∈ s.prep := fun p hp => List.mem_cons.1 (hpm.mem_iff.1 hp)
 unfold rightItems at h4
 rw [Bool.and_eq_true] at h4
 obtain ⟨u1, u2, u3⟩ := rightFrom_up h4.1
 refine ⟨?_, fun p hp d hd => ?_, h.dd, fun p hp => ?_, ?_, fun p hp x hx => ?_, h.hp⟩
 ·refine (hpm.map Pr.tid).nodup_iff.2 ?_
  rw [List.map_cons, List.nodup_cons]
  exact ⟨fun hm => by obtain ⟨p, hp, e⟩ := List.mem_map.1 hm; exact k1 p hp e, h.pp⟩
 ·rcases hm p hp with rfl | hp
  ·exact fun e => k2 d hd e.symm
  ·exact h.pd p hp d hd
 ·rcases hm p hp with rfl | hp
  ·exact h3
  ·exact h.rt p hp
 ·have e : (lockC (Led.prepS s r)).Perm (r.items.map It.cell ++ lockC s) := (hpm.flatMap_right (fun p : Pr => p.items.map It.cell))
  refine e.nodup_iff.2 ?_
  rw [List.nodup_append]
  refine ⟨u2, h.cc, fun a ha b hb e => ?_⟩
  obtain ⟨x, hx, rfl⟩ := List.mem_map.1 ha
  exact (lockE_zero (firstE_all h2 x hx)).2.1 (by rw [e]; exact hb)
 ·rcases hm p hp with rfl | hp
  ·obtain ⟨v1, v2, v3⟩ := lockE_zero (firstE_all h2 x hx)
   exact ⟨v1, v3, rightIt_ver (u3 x hx)⟩
  ·exact h.lk p hp x hx
theorem dec_of {s : St} {u : Tid} (h : ¬ at_prep s u < 0) : ∃ (k : Nat) (hk : k < s.prep.length), at_prep s u = (k : Int) ∧ s.prep[k].tid = u := by
 obtain ⟨k, hk, e, f⟩ := idx_some s.prep (fun p => decide (p.tid = u)) (by unfold at_prep at h; omega)
 exact ⟨k, hk, e, of_decide_eq_true f⟩
/-- What a Done of a Prepared leaves. -/
def done (s : St) (k : Nat) (r : Rc) : St := conc { (if r.yes = true then writeL s (prItems s k) else s) with prep := cut s.prep k } r
theorem fDecide_done {s : St} {r : Rc} {k : Nat} (h : at_prep s r.tid = (k : Int)) : fDecide s r = (done s k r, 0) := by
 unfold fDecide done
 rw [if_neg (by omega), h, Int.toNat_natCast]
 by_cases hy : r.yes = true
 ·simp only [if_pos hy]
  rw [(writeL_same s (prItems s k)).1]
 ·simp only [if_neg hy]
theorem prItems_at {s : St} {k : Nat} (hk : k < s.prep.length) : prItems s k = s.prep[k].items := by unfold prItems; rw [List.getElem?_eq_getElem hk]; rfl
theorem done_len (s : St) (k : Nat) (r : Rc) : (done s k r).places.length = s.places.length := by
 show (if r.yes = true then writeL s (prItems s k) else s).places.length = _
 split
 ·exact (writeL_same s _).2.2.2.2.1
 ·rfl
theorem done_at (s : St) (k : Nat) (r : Rc) (c : Int) : plAt (done s k r) c = if r.yes = true then plAt (writeL s (prItems s k)) c else plAt s c := by
 show plAt (if r.yes = true then writeL s (prItems s k) else s) c = _
 split <;> rfl
theorem done_com (s : St) (k : Nat) (r : Rc) : (done s k r).com = s.com := by
 show (if r.yes = true then writeL s (prItems s k) else s).com = _
 split
 ·exact (writeL_same s _).2.2.1
 ·rfl
theorem done_epoch (s : St) (k : Nat) (r : Rc) : (done s k r).epoch = s.epoch := by
 show (if r.yes = true then writeL s (prItems s k) else s).epoch = _
 split
 ·exact (writeL_same s _).2.2.2.1
 ·rfl
theorem done_dec (s : St) (k : Nat) (r : Rc) : (done s k r).dec = insD s.dec ⟨r.tid, r.yes⟩ := by
 show insD (if r.yes = true then writeL s (prItems s k) else s).dec _ = _
 split
 ·rw [(writeL_same s _).2.1]
 ·rfl
theorem done_keep (s : St) (k : Nat) (r : Rc) {c : Int} (hc : 0 ≤ c) : (plAt (done s k r) c).hop = (plAt s c).hop ∧ (plAt (done s k r) c).status = (plAt s c).status := by
 rw [done_at]
 split
 ·exact writeL_keep s _ hc
 ·exact ⟨rfl, rfl⟩
theorem done_not (s : St) (k : Nat) (r : Rc) {c : Int} (hc : 0 ≤ c) (hn : c ∉ (prItems s k).map It.cell) : plAt (done s k r) c = plAt s c := by
 rw [done_at]
 split
 ·exact writeL_not s _ hc hn
 ·rfl
theorem lock_split {s : St} {k : Nat} (hk : k < s.prep.length) : (lockC s).Perm (s.prep[k].items.map It.cell ++ lockC { s with prep := cut s.prep k }) := (cut_perm s.prep k hk).flatMap_right (fun p : Pr => p.items.map It.cell)
theorem Inv.parts {s : St} (h : Inv s) {k : Nat} (hk : k < s.prep.length) : (s.prep[k].items.map It.cell).Nodup ∧ (lockC { s with prep := cut s.prep k }).Nodup ∧ ∀ c ∈ s.prep[k].items.map It.cell, c ∉ lockC { s with prep := cut s.prep k } := by
 have h1 := (lock_split hk).nodup_iff.1 h.cc
 rw [List.nodup_append] at h1
 exact ⟨h1.1, h1.2.1, fun c hc hm => h1.2.2 c hc c hm rfl⟩
theorem cut_mem {s : St} {k : Nat} (hk : k < s.prep.length) {p : Pr} (hp : p ∈ cut s.prep k) : p ∈ s.prep := (cut_perm s.prep k hk).mem_iff.2 (List.mem_cons.2 (Or.inr hp))
theorem Inv.tids {s : St} (h : Inv s) {k : Nat} (hk : k < s.prep.length) : (∀ p ∈ cut s.prep k, p.tid ≠ s.prep[k].tid) ∧ ((cut s.prep k).map Pr.tid).Nodup := by
 have h1 := ((cut_perm s.prep k hk).map Pr.tid).nodup_iff.1 h.pp
 rw [List.map_cons, List.nodup_cons] at h1
 exact ⟨fun p hp e => h1.1 (by rw [← e]; exact List.mem_map.2 ⟨p, hp, rfl⟩), h1.2⟩
theorem Inv.done {s : St} (h : Inv s) {k : Nat} (hk : k < s.prep.length) (r : Rc) (he : s.prep[k].tid = r.tid) : Inv (done s k r) := by
 obtain ⟨t1, t2⟩ := h.tids hk
 obtain ⟨c1, c2, c3⟩ := h.parts hk
 have h0 : Inv { (if r.yes = true then writeL s (prItems s k) else s) with prep := cut s.prep k } := by
  have hat : ∀ c, plAt { (if r.yes = true then writeL s (prItems s k) else s) with prep := cut s.prep k } c = plAt (Led.done s k r) c := fun c => rfl
  have hha : ∀ c, hasC { (if r.yes = true then writeL s (prItems s k) else s) with prep := cut s.prep k } c = hasC s c := fun c => has_len (done_len s k r) c
  have hde : (if r.yes = true then writeL s (prItems s k) else s).dec = s.dec := by
   split
   ·exact (writeL_same s _).2.1
   ·rfl
  refine ⟨t2, fun p hp d hd => ?_, ?_, fun p hp => h.rt p (cut_mem hk hp), c2, fun p hp x hx => ?_, fun c hc => ?_⟩
  ·rw [hde] at hd
   exact h.pd p (cut_mem hk hp) d hd
  ·rw [hde]
   exact h.dd
  ·obtain ⟨v1, v2, v3⟩ := h.lk p (cut_mem hk hp) x hx
   have hc0 := has_nonneg (owns_has v1)
   have hn : x.cell ∉ (prItems s k).map It.cell := by
    rw [prItems_at hk]
    exact fun hm => c3 x.cell hm (mem_lock (s := { s with prep := cut s.prep k }) hp hx)
   have e := done_not s k r hc0 hn
   exact ⟨by rw [owns_eq (hha x.cell) (by rw [hat, e])]; exact v1, by rw [hat, e]; exact v2, v3⟩
  ·rw [hha] at hc
   rw [hat, (done_keep s k r (has_nonneg hc)).1]
   exact h.hp c hc
 have hde : (if r.yes = true then writeL s (prItems s k) else s).dec = s.dec := by
  split
  ·exact (writeL_same s _).2.1
  ·rfl
 refine h0.conc r (fun p hp => by rw [← he]; exact t1 p hp) (fun d hd => ?_)
 rw [← he]
 have hd2 : d ∈ s.dec := by rw [← hde]; exact hd
 exact fun e => h.pd s.prep[k] (List.getElem_mem hk) d hd2 e.symm
theorem right_f {r : Rc} (h : right r = true) (f : Nat) (hf : (f : Int) ∈ fl r.kind) : rf r f = true := by
 unfold right at h
 simp only [Bool.and_eq_true] at h
 have := List.all_eq_true.1 h.2 (f : Int) hf
 rwa [Int.toNat_natCast] at this
theorem right_tid {r : Rc} (h : right r = true) (hf : (8 : Int) ∈ fl r.kind) : rightTid r.tid = true := right_f h 8 hf
theorem right_hop {r : Rc} (h : right r = true) (hf : (5 : Int) ∈ fl r.kind) : 0 ≤ r.hop ∧ r.hop ≤ 1099511627776 := by
 have h5 := right_f h 5 hf
 by_cases hk : r.kind = 3
 ·simp [rf, lims, Rc.get, Rc.numV, hk] at h5
  omega
 ·simp [rf, lims, Rc.get, Rc.numV, hk] at h5
  omega
theorem right_items {r : Rc} (h : right r = true) (hk : r.kind = 4) : rightItems r.items = true := by
 have h9 := right_f h 9 (by rw [hk]; decide)
 unfold rf at h9
 rw [if_neg (by decide), if_pos rfl, hk] at h9
 simpa using h9
theorem owns_no {s : St} {c : Int} (h : ¬ owns s c = true) : owns s c = false := by cases e : owns s c with | true => exact absurd e h | false => rfl
theorem status_owns {s : St} {c : Int} (h : (plAt s c).status = 2) : owns s c = false := by unfold owns; rw [h]; simp
theorem Inv.empty (a b : Int) (n : Nat) : Inv (emptyS a b n) := by
 refine ⟨List.nodup_nil, fun p hp => (by cases hp), List.nodup_nil, fun p hp => (by cases hp), List.nodup_nil, fun p hp => (by cases hp), fun c hc => ?_⟩
 have : plAt (emptyS a b n) c = pl0 := by
  unfold plAt emptyS
  simp only [List.getElem?_replicate]
  split <;> rfl
 rw [this]
 decide
theorem Inv.past {s : St} (h : Inv s) (r : Rc) (h0 : (fPast s r).2 = 0) : Inv (fPast s r).1 := by
 unfold fPast at h0 ⊢
 split
 ·rename_i e; rw [if_pos e] at h0; cases h0
 ·rename_i e
  rw [if_neg e] at h0
  split
  ·rename_i e2; rw [if_pos e2] at h0; cases h0
  ·rename_i e2
   rw [if_neg e2] at h0
   split
   ·rename_i e3; rw [if_pos e3] at h0; cases h0
   ·exact h.conc r (known_no e).1 (known_no e).2
theorem Inv.decide_ {s : St} (h : Inv s) (r : Rc) (h0 : (fDecide s r).2 = 0) : Inv (fDecide s r).1 := by
 by_cases hd : at_prep s r.tid < 0
 ·have e : fDecide s r = fRefuse s r := by unfold fDecide; rw [if_pos hd]
  rw [e] at h0 ⊢
  unfold fRefuse at h0 ⊢
  split
  ·rename_i e1; rw [if_pos e1] at h0; cases h0
  ·rename_i e1
   rw [if_neg e1] at h0
   split
   ·rename_i e2; rw [if_pos e2] at h0; cases h0
   ·rename_i e2
    rw [if_neg e2] at h0
    exact h.past r h0
 ·obtain ⟨k, hk, e, ht⟩ := dec_of hd
  rw [fDecide_done e]
  exact h.done hk r ht
/-- What each record leaves holds what holds of states. -/
theorem Inv.byKind {s : St} (h : Inv s) (r : Rc) (hr : right r = true) (h0 : (byKind s r).2 = 0) : Inv (byKind s r).1 := by
 unfold Led.byKind at h0 ⊢
 split
 ·exact Inv.empty _ _ _
 rename_i k1; rw [if_neg k1] at h0
 split
 ·rename_i k; rw [if_pos k] at h0
  unfold fBegin at h0 ⊢
  split
  ·rename_i e; rw [if_pos e] at h0; cases h0
  ·exact ⟨h.pp, h.pd, h.dd, h.rt, h.cc, h.lk, h.hp⟩
 rename_i k2; rw [if_neg k2] at h0
 split
 ·rename_i k; rw [if_pos k] at h0
  unfold fPlace at h0 ⊢
  split
  ·rename_i e; rw [if_pos e] at h0; cases h0
  rename_i e1; rw [if_neg e1] at h0
  split
  ·rename_i e; rw [if_pos e] at h0; cases h0
  rename_i e2; rw [if_neg e2] at h0
  split
  ·rename_i e; rw [if_pos e] at h0; cases h0
  rename_i e3
  have hc : hasC s r.cell = true := by simpa using e1
  exact h.setPl hc (fun hm => e3 (by rw [locked_eq, hc, decide_eq_true hm]; rfl)) (right_hop hr (by rw [k]; decide))
 rename_i k3; rw [if_neg k3] at h0
 split
 ·rename_i k; rw [if_pos k] at h0
  unfold fPrepare at h0 ⊢
  split
  ·rename_i e; rw [if_pos e] at h0; cases h0
  rename_i e1; rw [if_neg e1] at h0
  split
  ·rename_i e; rw [if_pos e] at h0; cases h0
  rename_i e2; rw [if_neg e2] at h0
  split
  ·rename_i e; rw [if_pos e] at h0; cases h0
  rename_i e3; rw [if_neg e3] at h0
  split
  ·rename_i e; rw [if_pos e] at h0; cases h0
  rename_i e4; rw [if_neg e4] at h0
  split
  ·rename_i e; rw [if_pos e] at h0; cases h0
  rename_i e5; rw [if_neg e5] at h0
  split
  ·rename_i e6; rw [if_pos e6] at h0
   split
   ·rename_i e; rw [if_pos e] at h0; cases h0
   ·exact h.prepS r e1 e6 (right_tid hr (by rw [k]; decide)) (right_items hr k)
  ·rename_i e6; rw [if_neg e6] at h0
   exact absurd h0 e6
 rename_i k4; rw [if_neg k4] at h0
 split
 ·rename_i k; rw [if_pos k] at h0
  exact h.decide_ r h0
 rename_i k6; rw [if_neg k6] at h0
 split
 ·rename_i k; rw [if_pos k] at h0
  exact h.past r h0
 rename_i k11; rw [if_neg k11] at h0
 split
 ·unfold fCommit
  repeat' (first | exact h | (exact ⟨h.pp, h.pd, h.dd, h.rt, h.cc, h.lk, h.hp⟩) | split)
 rename_i k5; rw [if_neg k5] at h0
 split
 ·unfold fEnd
  repeat' (first | exact h | (exact ⟨h.pp, h.pd, h.dd, h.rt, h.cc, h.lk, h.hp⟩) | split)
 rename_i k7; rw [if_neg k7] at h0
 split
 ·rename_i k; rw [if_pos k] at h0
  unfold fOut at h0 ⊢
  split
  ·rename_i e; rw [if_pos e] at h0; cases h0
  rename_i e1; rw [if_neg e1] at h0
  split
  ·rename_i e; rw [if_pos e] at h0; cases h0
  rename_i e2; rw [if_neg e2] at h0
  split
  ·rename_i e; rw [if_pos e] at h0; cases h0
  rename_i e3; rw [if_neg e3] at h0
  split
  ·rename_i e; rw [if_pos e] at h0; cases h0
  rename_i e4; rw [if_neg e4] at h0
  split
  ·rename_i e; rw [if_pos e] at h0; cases h0
  rename_i e5; rw [if_neg e5] at h0
  split
  ·rename_i e; rw [if_pos e] at h0; cases h0
  have hc : hasC s r.cell = true := by simpa using e1
  exact h.setPl hc (fun hm => e5 (by rw [locked_eq, hc, decide_eq_true hm]; rfl)) (right_hop hr (by rw [k]; decide))
 rename_i k8; rw [if_neg k8] at h0
 split
 ·rename_i k; rw [if_pos k] at h0
  unfold fIn at h0 ⊢
  split
  ·rename_i e; rw [if_pos e] at h0; cases h0
  rename_i e1; rw [if_neg e1] at h0
  split
  ·rename_i e; rw [if_pos e] at h0; cases h0
  rename_i e2; rw [if_neg e2] at h0
  split
  ·rename_i e; rw [if_pos e] at h0; cases h0
  have hc : hasC s r.cell = true := by simpa using e1
  exact h.setPl hc (h.free (owns_no e2)) (right_hop hr (by rw [k]; decide))
 rename_i k9; rw [if_neg k9] at h0
 split
 ·rename_i k; rw [if_pos k] at h0
  unfold fGone at h0 ⊢
  split
  ·rename_i e; rw [if_pos e] at h0; cases h0
  rename_i e1; rw [if_neg e1] at h0
  split
  ·rename_i e; rw [if_pos e] at h0; cases h0
  rename_i e2; rw [if_neg e2] at h0
  split
  ·rename_i e; rw [if_pos e] at h0; cases h0
  have hc : hasC s r.cell = true := by simpa using e1
  exact h.setPl hc (h.free (status_owns (by simpa using e2))) (right_hop hr (by rw [k]; decide))
 exact h
theorem Inv.follow {s : St} (h : Inv s) (r : Rc) (h0 : (fFollow s r).2 = 0) : Inv (fFollow s r).1 := by
 unfold fFollow at h0 ⊢
 split
 ·rename_i e; rw [if_pos e] at h0; cases h0
 ·rename_i e
  rw [if_neg e] at h0
  exact h.byKind r (by simpa using e) h0
theorem Inv.goOn {s : St} (h : Inv s) (r : Rc) : Inv (goOn s r) := by
 unfold Led.goOn
 split
 ·rename_i e
  exact h.follow r e
 ·exact h
theorem Inv.reach {s : St} (h : Inv s) (l : List Rc) : Inv (reachL s l) := by
 induction l generalizing s with
 | nil => exact h
 | cons r l ih => exact ih (h.goOn r)
theorem Inv.first (a b : Int) (n : Nat) : Inv (firstS a b n) := by
 refine ⟨List.nodup_nil, fun p hp => (by cases hp), List.nodup_nil, fun p hp => (by cases hp), List.nodup_nil, fun p hp => (by cases hp), fun c hc => ?_⟩
 have : (plAt (firstS a b n) c).hop = 0 := by
  unfold plAt firstS
  simp only
  rw [firstPl_get]
  split
  ·simp only [Option.getD_some]
   split <;> rfl
  ·rfl
 rw [this]
 decide
theorem Inv.firstL {a b c : Int} (h : (firstL a b c).2 = 0) : Inv (firstL a b c).1 := by
 unfold Led.firstL at h ⊢
 split
 ·rename_i e; rw [if_pos e] at h; cases h
 ·exact Inv.first _ _ _
end Go.Proofs.YtalhbblmnahcdaaGreat.Led
