/-
  Layer 8, without memory: all that holds of each state that records of Go's own numbers come to (Good); a state's own records make it, behind whatever state (again: P8.2).
  Conditions: none.
-/
import Derived.Test.YtalhbblmnahcdaaGreatPa49
import Derived.IntWalk
namespace Go.Proofs.YtalhbblmnahcdaaGreat.Led
set_option maxRecDepth 100000
open Go.RowKit Go.Proofs.YtalhbblmnahcdaaGreat.Mem Go.Proofs.YtalhbblmnahcdaaGreat.Item Go.Proofs.YtalhbblmnahcdaaGreat.Rec
theorem bsGo_split (os : List Int) (h : ∀ a b : Nat, a ≤ b → (os[b]?).getD 0 < 0 → (os[a]?).getD 0 < 0) : ∀ (m i j : Nat), j - i ≤ m → i ≤ j → j ≤ os.length → (∀ a : Nat, a < i → (os[a]?).getD 0 < 0) → (∀ a : Nat, j ≤ a → ¬ (os[a]?).getD 0 < 0) →
  (∀ a : Nat, a < bsGo m os i j → (os[a]?).getD 0 < 0) ∧ ∀ a : Nat, bsGo m os i j ≤ a → ¬ (os[a]?).getD 0 < 0
 | 0, i, j, hm, hij, _, h1, h2 => by
  have : i = j := by omega
  subst this
  exact ⟨h1, h2⟩
 | m + 1, i, j, hm, hij, hj, h1, h2 => by
  unfold bsGo
  split
  ·rename_i hlt
   split
   ·rename_i ho
    exact bsGo_split os h m _ _ (by omega) (by omega) hj (fun a ha => h a _ (by omega) ho) h2
   ·rename_i ho
    exact bsGo_split os h m _ _ (by omega) (by omega) (by omega) h1 (fun a ha hn => ho (h _ a ha hn))
  ·have : i = j := by omega
   subst this
   exact ⟨h1, h2⟩
/-- Where the search ends: all ahead are below, none behind. -/
theorem bsAt_split (os : List Int) (h : ∀ a b : Nat, a ≤ b → (os[b]?).getD 0 < 0 → (os[a]?).getD 0 < 0) : (∀ a : Nat, a < bsAt os → (os[a]?).getD 0 < 0) ∧ ∀ a : Nat, bsAt os ≤ a → ¬ (os[a]?).getD 0 < 0 :=
 bsGo_split os h os.length 0 os.length (by omega) (Nat.zero_le _) (Nat.le_refl _) (fun a ha => absurd ha (by omega)) (fun a ha => by
  rw [List.getElem?_eq_none ha]
  decide)
/-- In a list that rises, a new one is put at its place. -/
theorem insAt_sorted {α : Type} (R : α → α → Prop) (o : α → Int) (l : List α) (x : α) (hl : l.Pairwise R) (hlow : ∀ y ∈ l, o y < 0 → R y x) (hhigh : ∀ y ∈ l, ¬ o y < 0 → R x y) (hmono : ∀ y ∈ l, ∀ z ∈ l, R y z → o z < 0 → o y < 0) :
  (insAt l (bsAt (l.map o)) x).Pairwise R := by
 have hget : ∀ (a : Nat) (ha : a < l.length), ((l.map o)[a]?).getD 0 = o l[a] := fun a ha => by
  rw [List.getElem?_map, List.getElem?_eq_getElem ha]
  rfl
 have hm : ∀ a b : Nat, a ≤ b → ((l.map o)[b]?).getD 0 < 0 → ((l.map o)[a]?).getD 0 < 0 := fun a b hab hb => by
  by_cases hbl : b < l.length
  ·rw [hget b hbl] at hb
   rw [hget a (by omega)]
   by_cases e : a = b
   ·subst e; exact hb
   ·exact hmono _ (List.getElem_mem _) _ (List.getElem_mem _) (List.pairwise_iff_getElem.1 hl a b (by omega) hbl (by omega)) hb
  ·rw [List.getElem?_eq_none (by rw [List.length_map]; omega)] at hb
   exact absurd hb (by decide)
 obtain ⟨s1, s2⟩ := bsAt_split (l.map o) hm
 unfold insAt
 rw [List.pairwise_append, List.pairwise_cons]
 refine ⟨hl.sublist (List.take_sublist _ _), ⟨fun y hy => ?_, hl.sublist (List.drop_sublist _ _)⟩, fun y hy z hz => ?_⟩
 ·obtain ⟨i, hi, rfl⟩ := List.mem_iff_getElem.1 hy
  rw [List.getElem_drop]
  rw [List.length_drop] at hi
  have := s2 (bsAt (l.map o) + i) (by omega)
  rw [hget _ (by omega)] at this
  exact hhigh _ (List.getElem_mem _) this
 ·obtain ⟨i, hi, rfl⟩ := List.mem_iff_getElem.1 hy
  rw [List.length_take] at hi
  rcases List.mem_cons.1 hz with rfl | hz
  ·rw [List.getElem_take]
   have := s1 i (by omega)
   rw [hget _ (by omega)] at this
   exact hlow _ (List.getElem_mem _) this
  ·obtain ⟨j, hj, rfl⟩ := List.mem_iff_getElem.1 hz
   rw [List.length_drop] at hj
   rw [List.getElem_take, List.getElem_drop]
   exact List.pairwise_iff_getElem.1 hl _ _ (by omega) (by omega) (by omega)
/-- One name stands ahead of another. -/
def tlt8 (a b : Tid) : Prop := a.node < b.node ∨ a.node = b.node ∧ (a.epoch < b.epoch ∨ a.epoch = b.epoch ∧ a.seq < b.seq)
theorem ord8_cases (a b : Tid) : (ord a b = -1 ∧ tlt8 a b) ∨ (ord a b = 0 ∧ a = b) ∨ (ord a b = 1 ∧ tlt8 b a) := by
 obtain ⟨a1, a2, a3⟩ := a
 obtain ⟨b1, b2, b3⟩ := b
 simp only [ord, firstNZ, cmpI, tlt8, Tid.mk.injEq]
 by_cases x1 : a1 < b1
 ·exact Or.inl ⟨by rw [if_pos x1]; rfl, Or.inl x1⟩
 ·by_cases y1 : b1 < a1
  ·exact Or.inr (Or.inr ⟨by rw [if_neg x1, if_pos y1]; rfl, Or.inl y1⟩)
  ·have e1 : a1 = b1 := by omega
   rw [if_neg x1, if_neg y1, if_pos rfl]
   by_cases x2 : a2 < b2
   ·exact Or.inl ⟨by rw [if_pos x2]; rfl, Or.inr ⟨e1, Or.inl x2⟩⟩
   ·by_cases y2 : b2 < a2
    ·exact Or.inr (Or.inr ⟨by rw [if_neg x2, if_pos y2]; rfl, Or.inr ⟨e1.symm, Or.inl y2⟩⟩)
    ·have e2 : a2 = b2 := by omega
     rw [if_neg x2, if_neg y2, if_pos rfl]
     by_cases x3 : a3 < b3
     ·exact Or.inl ⟨by rw [if_pos x3]; rfl, Or.inr ⟨e1, Or.inr ⟨e2, x3⟩⟩⟩
     ·by_cases y3 : b3 < a3
      ·exact Or.inr (Or.inr ⟨by rw [if_neg x3, if_pos y3]; rfl, Or.inr ⟨e1.symm, Or.inr ⟨e2.symm, y3⟩⟩⟩)
      ·have e3 : a3 = b3 := by omega
       rw [if_neg x3, if_neg y3, if_pos rfl]
       exact Or.inr (Or.inl ⟨rfl, e1, e2, e3⟩)
theorem tlt8_irrefl (a : Tid) : ¬ tlt8 a a := by unfold tlt8; omega
theorem tlt8_asymm {a b : Tid} (h : tlt8 a b) : ¬ tlt8 b a := by unfold tlt8 at *; omega
theorem tlt8_trans {a b c : Tid} (h : tlt8 a b) (k : tlt8 b c) : tlt8 a c := by unfold tlt8 at *; omega
theorem ord8_neg_iff (a b : Tid) : ord a b < 0 ↔ tlt8 a b := by
 rcases ord8_cases a b with ⟨h, k⟩ | ⟨h, k⟩ | ⟨h, k⟩
 ·exact ⟨fun _ => k, fun _ => by omega⟩
 ·subst k
  exact ⟨fun h2 => by omega, fun h2 => absurd h2 (tlt8_irrefl _)⟩
 ·exact ⟨fun h2 => by omega, fun h2 => absurd k (tlt8_asymm h2)⟩
theorem ord8_not {a b : Tid} (h : ¬ ord a b < 0) (hne : a ≠ b) : ord b a < 0 := by
 rcases ord8_cases a b with ⟨h1, k⟩ | ⟨h1, k⟩ | ⟨h1, k⟩
 ·omega
 ·exact absurd k hne
 ·exact (ord8_neg_iff _ _).2 k
/-- A place that a record may tell. -/
structure PlOk (m : Int) (q : Pl) : Prop where
 st : 0 ≤ q.status ∧ q.status ≤ 2
 hop : 0 ≤ q.hop ∧ q.hop ≤ 1099511627776
 ver : 0 ≤ q.version ∧ q.version ≤ 1099511627776
 val : I64 q.value
 to2 : q.status = 2 → 1 ≤ q.to ∧ q.to ≤ 16 ∧ q.to ≤ m
 to0 : q.status ≠ 2 → q.to = 0
/-- All that holds of each state that records of Go's own numbers come to. -/
structure Good (s : St) : Prop where
 inv : Inv s
 nn : 1 ≤ s.nodes ∧ s.nodes ≤ 16 ∧ 1 ≤ s.node ∧ s.node ≤ s.nodes
 cells : s.cells = (s.places.length : Int) ∧ 1 ≤ s.places.length ∧ s.places.length ≤ 16
 ep : 0 ≤ s.epoch ∧ s.epoch ≤ 1099511627776
 pl : ∀ c, hasC s c = true → PlOk s.nodes (plAt s c)
 ds : s.dec.Pairwise fun a b => ord a.tid b.tid < 0
 ps : s.prep.Pairwise fun a b => ord a.tid b.tid < 0
 dr : ∀ d ∈ s.dec, rightTid d.tid = true ∧ d.tid.node ≤ s.nodes
 pr : ∀ p ∈ s.prep, p.tid.node ≤ s.nodes ∧ rightItems p.items = true ∧ rightNodes p.nodes = true ∧ above s p.nodes = false ∧ isPart s p.nodes = true ∧ ∀ x ∈ p.items, I64 x.new
 room : s.prep.length + s.dec.length ≤ 512
 cr : ∀ c ∈ s.com, rightTid c.tid = true ∧ c.tid.node = s.node ∧ (c.items = [] ∨ rightItems c.items = true) ∧ rightNodes c.nodes = true ∧ above s c.nodes = false
 ct : (s.com.map Co.tid).Nodup
 cl : s.com.length ≤ 512
theorem above_node {s : St} {m : Int} (h : ¬ above s [m] = true) : m ≤ s.nodes := by
 unfold above at h
 simp at h
 exact h
theorem above_eq {s t : St} (h : t.nodes = s.nodes) (l : List Int) : above t l = above s l := by unfold above; rw [h]
theorem isPart_eq {s t : St} (h : t.node = s.node) (l : List Int) : isPart t l = isPart s l := by unfold isPart; rw [h]
theorem Good.setPl {s : St} (h : Good s) {c : Int} {q : Pl} (hi : Inv (setPl s c q)) (hc : hasC s c = true) (hq : PlOk s.nodes q) : Good (setPl s c q) := by
 refine ⟨hi, h.nn, ⟨by show s.cells = _; rw [h.cells.1]; unfold Led.setPl; simp, by unfold Led.setPl; simp only [List.length_set]; exact h.cells.2.1, by unfold Led.setPl; simp only [List.length_set]; exact h.cells.2.2⟩, h.ep, fun c' hc' => ?_, h.ds, h.ps, h.dr, h.pr, h.room, h.cr, h.ct, h.cl⟩
 rw [setPl_has] at hc'
 rw [plAt_set q hc (has_nonneg hc')]
 split
 ·exact hq
 ·exact h.pl c' hc'
theorem insD_sorted {l : List De} {t : Tid} {y : Bool} (hl : l.Pairwise fun a b => ord a.tid b.tid < 0) (hn : ∀ d ∈ l, d.tid ≠ t) : (insD l ⟨t, y⟩).Pairwise fun a b => ord a.tid b.tid < 0 :=
 insAt_sorted (fun a b : De => ord a.tid b.tid < 0) (fun d => ord d.tid t) l ⟨t, y⟩ hl (fun _ _ h => h) (fun z hz h => ord8_not h (hn z hz)) (fun _ _ _ _ h1 h2 => (ord8_neg_iff _ _).2 (tlt8_trans ((ord8_neg_iff _ _).1 h1) ((ord8_neg_iff _ _).1 h2)))
theorem insP_sorted {l : List Pr} {p : Pr} (hl : l.Pairwise fun a b => ord a.tid b.tid < 0) (hn : ∀ d ∈ l, d.tid ≠ p.tid) : (insAt l (insI l p) p).Pairwise fun a b => ord a.tid b.tid < 0 :=
 insAt_sorted (fun a b : Pr => ord a.tid b.tid < 0) (fun d => ord d.tid p.tid) l p hl (fun _ _ h => h) (fun z hz h => ord8_not h (hn z hz)) (fun _ _ _ _ h1 h2 => (ord8_neg_iff _ _).2 (tlt8_trans ((ord8_neg_iff _ _).1 h1) ((ord8_neg_iff _ _).1 h2)))
theorem Good.conc {s : St} (h : Good s) (r : Rc) (hi : Inv (conc s r)) (h2 : ∀ d ∈ s.dec, d.tid ≠ r.tid) (hr : rightTid r.tid = true) (hn : r.tid.node ≤ s.nodes) (hroom : s.prep.length + s.dec.length < 512) : Good (conc s r) := by
 refine ⟨hi, h.nn, h.cells, h.ep, h.pl, insD_sorted h.ds h2, h.ps, fun d hd => ?_, h.pr, ?_, h.cr, h.ct, h.cl⟩
 ·rcases List.mem_cons.1 ((insD_perm s.dec ⟨r.tid, r.yes⟩).mem_iff.1 hd) with e | e
  ·rw [e]; exact ⟨hr, hn⟩
  ·exact h.dr d e
 ·have := (insD_perm s.dec ⟨r.tid, r.yes⟩).length_eq
  show s.prep.length + (insD s.dec ⟨r.tid, r.yes⟩).length ≤ 512
  rw [this, List.length_cons]
  omega
theorem Good.past {s : St} (h : Good s) (r : Rc) (hr : rightTid r.tid = true) (h0 : (fPast s r).2 = 0) : Good (fPast s r).1 := by
 have hi := h.inv.past r h0
 unfold fPast at h0 hi ⊢
 split
 ·rename_i e; rw [if_pos e] at h0; cases h0
 rename_i e; rw [if_neg e] at h0 hi
 split
 ·rename_i e2; rw [if_pos e2] at h0; cases h0
 rename_i e2; rw [if_neg e2] at h0 hi
 split
 ·rename_i e3; rw [if_pos e3] at h0; cases h0
 rename_i e3; rw [if_neg e3] at hi
 refine h.conc r hi (known_no e).2 hr (above_node e2) ?_
 unfold Led.room at e3
 simp at e3
 omega
theorem Good.done {s : St} (h : Good s) {k : Nat} (hk : k < s.prep.length) (r : Rc) (he : s.prep[k].tid = r.tid) : Good (done s k r) := by
 have hi := h.inv.done hk r he
 obtain ⟨c1, c2, c3⟩ := h.inv.parts hk
 have hpk := h.pr _ (List.getElem_mem hk)
 have hnode : (Led.done s k r).node = s.node := by
  show (if r.yes = true then writeL s (prItems s k) else s).node = _
  split
  ·exact (writeL_same s _).2.2.2.2.2.1
  ·rfl
 have hnodes : (Led.done s k r).nodes = s.nodes := by
  show (if r.yes = true then writeL s (prItems s k) else s).nodes = _
  split
  ·exact (writeL_same s _).2.2.2.2.2.2.1
  ·rfl
 have hcells : (Led.done s k r).cells = s.cells := by
  show (if r.yes = true then writeL s (prItems s k) else s).cells = _
  split
  ·exact (writeL_same s _).2.2.2.2.2.2.2
  ·rfl
 refine ⟨hi, by rw [hnode, hnodes]; exact h.nn, by rw [hcells, done_len]; exact h.cells, by rw [done_epoch]; exact h.ep, fun c hc => ?_, ?_, ?_, fun d hd => ?_, fun p hp => ?_, ?_, fun c hc => ?_, ?_, ?_⟩
 ·rw [has_len (done_len s k r)] at hc
  rw [hnodes]
  have hc0 := has_nonneg hc
  by_cases hm : c ∈ s.prep[k].items.map It.cell
  ·obtain ⟨x, hx, rfl⟩ := List.mem_map.1 hm
   obtain ⟨v1, v2, v3, v4⟩ := h.inv.lk _ (List.getElem_mem hk) x hx
   have hp := h.pl x.cell hc
   rw [done_at]
   split
   ·rw [prItems_at hk, writeL_at s _ c1 hx hc]
    unfold Led.wrote
    split
    ·rw [v2, IntWalk.i64_in _ (by omega)]
     exact ⟨hp.st, hp.hop, ⟨by show 0 ≤ x.version + 1; omega, by show x.version + 1 ≤ _; omega⟩, hpk.2.2.2.2.2 x hx, hp.to2, hp.to0⟩
    ·exact hp
   ·exact hp
  ·rw [done_not s k r hc0 (by rw [prItems_at hk]; exact hm)]
   exact h.pl c hc
 ·rw [done_dec]
  exact insD_sorted h.ds fun d hd e => h.inv.pd _ (List.getElem_mem hk) d hd (by rw [he, e])
 ·show (cut s.prep k).Pairwise _
  unfold cut
  rw [List.pairwise_append]
  refine ⟨h.ps.sublist (List.take_sublist _ _), h.ps.sublist (List.drop_sublist _ _), fun a ha b hb => ?_⟩
  obtain ⟨i, hi2, rfl⟩ := List.mem_iff_getElem.1 ha
  obtain ⟨j, hj, rfl⟩ := List.mem_iff_getElem.1 hb
  rw [List.length_take] at hi2
  rw [List.length_drop] at hj
  rw [List.getElem_take, List.getElem_drop]
  exact List.pairwise_iff_getElem.1 h.ps _ _ (by omega) (by omega) (by omega)
 ·rw [done_dec] at hd
  rw [hnodes]
  rcases List.mem_cons.1 ((insD_perm s.dec ⟨r.tid, r.yes⟩).mem_iff.1 hd) with e | e
  ·rw [e]
   exact ⟨by rw [← he]; exact h.inv.rt _ (List.getElem_mem hk), by rw [← he]; exact hpk.1⟩
  ·exact h.dr d e
 ·have hp2 := h.pr p (cut_mem hk hp)
  rw [hnodes, above_eq hnodes, isPart_eq hnode]
  exact hp2
 ·have h1 := (insD_perm s.dec ⟨r.tid, r.yes⟩).length_eq
  have h2 := (cut_perm s.prep k hk).length_eq
  rw [List.length_cons] at h1 h2
  rw [done_dec, h1]
  show (cut s.prep k).length + _ ≤ 512
  have := h.room
  omega
 ·rw [done_com] at hc
  rw [hnode, above_eq hnodes]
  exact h.cr c hc
 ·rw [done_com]; exact h.ct
 ·rw [done_com]; exact h.cl
theorem right_num8 {r : Rc} (h : right r = true) (f : Nat) (hf : (f : Int) ∈ fl r.kind) (h8 : f < 8) : (lims r f).1 ≤ r.get f ∧ r.get f ≤ (lims r f).2 := by
 have := right_f h f hf
 unfold rf at this
 rw [if_neg (by omega), if_neg (by omega), if_neg (by omega), if_neg (by omega)] at this
 simp only [Bool.and_eq_true, decide_eq_true_eq] at this
 exact this
theorem right_nodes10 {r : Rc} (h : right r = true) (hf : (10 : Int) ∈ fl r.kind) : rightNodes r.nodes = true := by
 have := right_f h 10 hf
 unfold rf at this
 rw [if_neg (by decide), if_neg (by decide), if_pos rfl] at this
 exact this
theorem Good.empty {r : Rc} (hr : right r = true) (hk : r.kind = 1) : Good (emptyS r.node r.count r.num.toNat) := by
 have f0 := right_num8 hr 0 (by rw [hk]; decide) (by decide)
 have f1 := right_num8 hr 1 (by rw [hk]; decide) (by decide)
 have f2 := right_num8 hr 2 (by rw [hk]; decide) (by decide)
 simp [lims, nodeLim, hk, Rc.get, Rc.numV] at f0 f1 f2
 refine ⟨Inv.empty _ _ _, ⟨f1.1, f1.2, f0.1, f0.2⟩, ⟨?_, ?_, ?_⟩, ⟨Int.le_refl _, by show (0 : Int) ≤ 1099511627776; decide⟩, fun c hc => ?_, List.Pairwise.nil, List.Pairwise.nil, fun d hd => (by cases hd), fun p hp => (by cases hp), Nat.zero_le _, fun c hc => (by cases hc), List.nodup_nil, Nat.zero_le _⟩
 ·show (r.num.toNat : Int) = ((List.replicate r.num.toNat pl0).length : Int)
  rw [List.length_replicate]
 ·show 1 ≤ (List.replicate r.num.toNat pl0).length
  rw [List.length_replicate]; omega
 ·show (List.replicate r.num.toNat pl0).length ≤ 16
  rw [List.length_replicate]; omega
 ·have e : plAt (emptyS r.node r.count r.num.toNat) c = pl0 := by
   unfold plAt emptyS
   simp only [List.getElem?_replicate]
   split <;> rfl
  rw [e]
  exact ⟨by decide, by decide, by decide, ⟨by decide, by decide⟩, fun h => (by cases h), fun _ => rfl⟩
theorem Good.byKind {s : St} (h : Good s) (r : Rc) (hr : right r = true) (hok : I64 r.value ∧ ∀ x ∈ r.items, I64 x.new) (h0 : (byKind s r).2 = 0) : Good (byKind s r).1 := by
 have hi := h.inv.byKind r hr h0
 unfold Led.byKind at h0 hi ⊢
 split
 ·rename_i k
  exact Good.empty hr k
 rename_i k1; rw [if_neg k1] at h0 hi
 split
 ·rename_i k; rw [if_pos k] at h0 hi
  unfold fBegin at h0 hi ⊢
  split
  ·rename_i e; rw [if_pos e] at h0; cases h0
  ·rename_i e; rw [if_neg e] at hi
   have f2 := right_num8 hr 2 (by rw [k]; decide) (by decide)
   simp [lims, k, Rc.get, Rc.numV] at f2
   exact ⟨hi, h.nn, h.cells, ⟨by show 0 ≤ r.num; omega, f2.2⟩, h.pl, h.ds, h.ps, h.dr, h.pr, h.room, h.cr, h.ct, h.cl⟩
 rename_i k2; rw [if_neg k2] at h0 hi
 split
 ·rename_i k; rw [if_pos k] at h0 hi
  unfold fPlace at h0 hi ⊢
  split
  ·rename_i e; rw [if_pos e] at h0; cases h0
  rename_i e1; rw [if_neg e1] at h0 hi
  split
  ·rename_i e; rw [if_pos e] at h0; cases h0
  rename_i e2; rw [if_neg e2] at h0 hi
  split
  ·rename_i e; rw [if_pos e] at h0; cases h0
  rename_i e3; rw [if_neg e3] at hi
  have f4 := right_num8 hr 4 (by rw [k]; decide) (by decide)
  have f5 := right_num8 hr 5 (by rw [k]; decide) (by decide)
  have f0 := right_num8 hr 0 (by rw [k]; decide) (by decide)
  have f6 := right_num8 hr 6 (by rw [k]; decide) (by decide)
  have ha := above_node e2
  simp [lims, k, Rc.get, Rc.numV, nodeLim] at f4 f5 f0 f6
  refine h.setPl hi (by simpa using e1) ⟨f4, f5, f6, hok.1, fun h2 => ?_, fun h2 => ?_⟩
  ·have h3 : r.status = 2 := h2
   rw [if_pos h3] at f0
   exact ⟨f0.1, f0.2, ha⟩
  ·have h3 : ¬ r.status = 2 := h2
   rw [if_neg h3] at f0
   have f1 : (0 : Int) ≤ r.node ∧ r.node ≤ 0 := f0
   show r.node = 0
   omega
 rename_i k3; rw [if_neg k3] at h0 hi
 split
 ·rename_i k; rw [if_pos k] at h0 hi
  unfold fPrepare at h0 hi ⊢
  split
  ·rename_i e; rw [if_pos e] at h0; cases h0
  rename_i e1; rw [if_neg e1] at h0 hi
  split
  ·rename_i e; rw [if_pos e] at h0; cases h0
  rename_i e2; rw [if_neg e2] at h0 hi
  split
  ·rename_i e; rw [if_pos e] at h0; cases h0
  rename_i e3; rw [if_neg e3] at h0 hi
  split
  ·rename_i e; rw [if_pos e] at h0; cases h0
  rename_i e4; rw [if_neg e4] at h0 hi
  split
  ·rename_i e; rw [if_pos e] at h0; cases h0
  rename_i e5; rw [if_neg e5] at h0 hi
  split
  ·rename_i e6; rw [if_pos e6] at h0 hi
   split
   ·rename_i e; rw [if_pos e] at h0; cases h0
   ·rename_i e7; rw [if_neg e7] at hi
    have hpm := insAt_perm s.prep (insI s.prep (rcPr r)) (rcPr r)
    refine ⟨hi, h.nn, h.cells, h.ep, h.pl, h.ds, insP_sorted h.ps (known_no e1).1, h.dr, fun p hp => ?_, ?_, h.cr, h.ct, h.cl⟩
    ·rcases List.mem_cons.1 (hpm.mem_iff.1 hp) with e | e
     ·rw [e]
      exact ⟨above_node e3, right_items hr k, right_nodes10 hr (by rw [k]; decide), by cases e9 : above s r.nodes with | true => exact absurd e9 e4 | false => exact e9, by cases e9 : isPart s r.nodes with | false => exact absurd e9 e5 | true => exact e9, hok.2⟩
     ·exact h.pr p e
    ·have h1 := hpm.length_eq
     rw [List.length_cons] at h1
     show (insAt s.prep (insI s.prep (rcPr r)) (rcPr r)).length + s.dec.length ≤ 512
     unfold Led.room at e7
     simp at e7
     omega
  ·rename_i e6; rw [if_neg e6] at h0
   exact absurd h0 e6
 rename_i k4; rw [if_neg k4] at h0 hi
 split
 ·rename_i k; rw [if_pos k] at h0 hi
  have ht := right_tid hr (by rw [k]; decide)
  by_cases hd : at_prep s r.tid < 0
  ·have e : fDecide s r = fRefuse s r := by unfold fDecide; rw [if_pos hd]
   rw [e] at h0 ⊢
   unfold fRefuse at h0 ⊢
   split
   ·rename_i e1; rw [if_pos e1] at h0; cases h0
   rename_i e1; rw [if_neg e1] at h0
   split
   ·rename_i e2; rw [if_pos e2] at h0; cases h0
   rename_i e2; rw [if_neg e2] at h0
   exact h.past r ht h0
  ·obtain ⟨m, hm, e, he⟩ := dec_of hd
   rw [fDecide_done e]
   exact h.done hm r he
 rename_i k6; rw [if_neg k6] at h0 hi
 split
 ·rename_i k; rw [if_pos k] at h0
  exact h.past r (right_tid hr (by rw [k]; decide)) h0
 rename_i k11; rw [if_neg k11] at h0 hi
 split
 ·rename_i k; rw [if_pos k] at h0 hi
  unfold fCommit at h0 hi ⊢
  split
  ·rename_i e; rw [if_pos e] at h0; cases h0
  rename_i e1; rw [if_neg e1] at h0 hi
  split
  ·rename_i e; rw [if_pos e] at h0; cases h0
  rename_i e2; rw [if_neg e2] at h0 hi
  split
  ·rename_i e; rw [if_pos e] at h0; cases h0
  rename_i e3; rw [if_neg e3] at h0 hi
  split
  ·rename_i e; rw [if_pos e] at h0; cases h0
  rename_i e4; rw [if_neg e4] at hi
  have hnew : ∀ c ∈ s.com, c.tid ≠ r.tid := fun c hc e => by
   have := (idx_neg s.com (fun p => decide (p.tid = r.tid))).1 (by unfold at_com at e3; omega) c hc
   exact of_decide_eq_false this e
  have h9 := right_f hr 9 (by rw [k]; decide)
  unfold rf at h9
  rw [if_neg (by decide), if_pos rfl, k] at h9
  refine ⟨hi, h.nn, h.cells, h.ep, h.pl, h.ds, h.ps, h.dr, h.pr, h.room, fun c hc => ?_, ?_, ?_⟩
  ·rcases List.mem_append.1 hc with hc | hc
   ·exact h.cr c hc
   ·rw [List.mem_singleton.1 hc]
    refine ⟨right_tid hr (by rw [k]; decide), by show r.tid.node = s.node; simpa using e1, ?_, right_nodes10 hr (by rw [k]; decide), by show above s r.nodes = false; cases e9 : above s r.nodes with | true => exact absurd e9 e2 | false => rfl⟩
    rw [Bool.or_eq_true] at h9
    rcases h9 with h9 | h9
    ·have h10 : r.items = [] := by simpa using h9
     exact Or.inl h10
    ·exact Or.inr h9
  ·show ((s.com ++ [rcCo r]).map Co.tid).Nodup
   rw [List.map_append, List.nodup_append]
   refine ⟨h.ct, by simp, fun a ha b hb e => ?_⟩
   obtain ⟨c, hc, rfl⟩ := List.mem_map.1 ha
   have hb2 : b = r.tid := by simpa [rcCo] using hb
   exact hnew c hc (by rw [e, hb2])
  ·show (s.com ++ [rcCo r]).length ≤ 512
   rw [List.length_append]
   show s.com.length + 1 ≤ 512
   omega
 rename_i k5; rw [if_neg k5] at h0 hi
 split
 ·rename_i k; rw [if_pos k] at h0 hi
  unfold fEnd at h0 hi ⊢
  split
  ·rename_i e; rw [if_pos e] at h0; cases h0
  rename_i e1; rw [if_neg e1] at h0 hi
  split
  ·rename_i e; rw [if_pos e] at h0; cases h0
  rename_i e2; rw [if_neg e2] at hi
  have hcat : ∀ m, m < s.com.length → coAt s m ∈ s.com := fun m hm => by
   unfold coAt
   rw [List.getElem?_eq_getElem hm]
   exact List.getElem_mem hm
  obtain ⟨m, hm, em, _⟩ := idx_some s.com (fun p => decide (p.tid = r.tid)) (by unfold at_com at e1; omega)
  have em2 : (at_com s r.tid).toNat = m := by unfold at_com; rw [em]; simp
  rw [em2] at hi ⊢
  refine ⟨hi, h.nn, h.cells, h.ep, h.pl, h.ds, h.ps, h.dr, h.pr, h.room, fun c hc => ?_, ?_, ?_⟩
  ·unfold overS at hc
   rcases List.mem_or_eq_of_mem_set hc with hc | hc
   ·exact h.cr c hc
   ·rw [hc]
    exact h.cr (coAt s m) (hcat m hm)
  ·have e9 : (overS s m).com.map Co.tid = s.com.map Co.tid := by
    unfold overS
    simp only
    rw [List.map_set]
    apply List.ext_getElem?
    intro i
    rw [List.getElem?_set]
    split
    ·rename_i hi2
     subst hi2
     have : coAt s m = s.com[m] := by unfold coAt; rw [List.getElem?_eq_getElem hm]; rfl
     rw [if_pos (by rw [List.length_map]; exact hm), List.getElem?_map, List.getElem?_eq_getElem hm, this]
     rfl
    ·rfl
   rw [e9]
   exact h.ct
  ·show (overS s m).com.length ≤ 512
   unfold overS
   simp only [List.length_set]
   exact h.cl
 rename_i k7; rw [if_neg k7] at h0 hi
 split
 ·rename_i k; rw [if_pos k] at h0 hi
  unfold fOut at h0 hi ⊢
  split
  ·rename_i e; rw [if_pos e] at h0; cases h0
  rename_i e1; rw [if_neg e1] at h0 hi
  split
  ·rename_i e; rw [if_pos e] at h0; cases h0
  rename_i e2; rw [if_neg e2] at h0 hi
  split
  ·rename_i e; rw [if_pos e] at h0; cases h0
  rename_i e3; rw [if_neg e3] at h0 hi
  split
  ·rename_i e; rw [if_pos e] at h0; cases h0
  rename_i e4; rw [if_neg e4] at h0 hi
  split
  ·rename_i e; rw [if_pos e] at h0; cases h0
  rename_i e5; rw [if_neg e5] at h0 hi
  split
  ·rename_i e; rw [if_pos e] at h0; cases h0
  rename_i e6; rw [if_neg e6] at hi
  have hc : hasC s r.cell = true := by simpa using e1
  have f0 := right_num8 hr 0 (by rw [k]; decide) (by decide)
  have f5 := right_num8 hr 5 (by rw [k]; decide) (by decide)
  simp [lims, k, Rc.get, Rc.numV, nodeLim] at f0 f5
  have hp := h.pl r.cell hc
  exact h.setPl hi hc ⟨(by show (0 : Int) ≤ 2 ∧ (2 : Int) ≤ 2; decide), ⟨by show 0 ≤ r.hop; omega, f5.2⟩, hp.ver, hp.val, fun _ => ⟨f0.1, f0.2, above_node e3⟩, fun h2 => absurd rfl h2⟩
 rename_i k8; rw [if_neg k8] at h0 hi
 split
 ·rename_i k; rw [if_pos k] at h0 hi
  unfold fIn at h0 hi ⊢
  split
  ·rename_i e; rw [if_pos e] at h0; cases h0
  rename_i e1; rw [if_neg e1] at h0 hi
  split
  ·rename_i e; rw [if_pos e] at h0; cases h0
  rename_i e2; rw [if_neg e2] at h0 hi
  split
  ·rename_i e; rw [if_pos e] at h0; cases h0
  rename_i e3; rw [if_neg e3] at hi
  have f5 := right_num8 hr 5 (by rw [k]; decide) (by decide)
  have f6 := right_num8 hr 6 (by rw [k]; decide) (by decide)
  simp [lims, k, Rc.get, Rc.numV] at f5 f6
  exact h.setPl hi (by simpa using e1) ⟨(by show (0 : Int) ≤ 1 ∧ (1 : Int) ≤ 2; decide), ⟨by show 0 ≤ r.hop; omega, f5.2⟩, f6, hok.1, fun h2 => (by cases h2), fun _ => rfl⟩
 rename_i k9; rw [if_neg k9] at h0 hi
 split
 ·rename_i k; rw [if_pos k] at h0 hi
  unfold fGone at h0 hi ⊢
  split
  ·rename_i e; rw [if_pos e] at h0; cases h0
  rename_i e1; rw [if_neg e1] at h0 hi
  split
  ·rename_i e; rw [if_pos e] at h0; cases h0
  rename_i e2; rw [if_neg e2] at h0 hi
  split
  ·rename_i e; rw [if_pos e] at h0; cases h0
  rename_i e3; rw [if_neg e3] at hi
  have f5 := right_num8 hr 5 (by rw [k]; decide) (by decide)
  simp [lims, k, Rc.get, Rc.numV] at f5
  exact h.setPl hi (by simpa using e1) ⟨(by show (0 : Int) ≤ 0 ∧ (0 : Int) ≤ 2; decide), ⟨by show 0 ≤ r.hop; omega, f5.2⟩, (by show (0 : Int) ≤ 0 ∧ (0 : Int) ≤ 1099511627776; decide), (by show (-9223372036854775808 : Int) ≤ 0 ∧ (0 : Int) ≤ 9223372036854775807; decide), fun h2 => (by cases h2), fun _ => rfl⟩
 exact h
def rcE (n : Int) : Rc := ⟨2, ⟨0, 0, 0⟩, [], [], 0, 0, n, 0, 0, 0, 0, 0, false⟩
def rcC (c : Int) (q : Pl) : Rc := ⟨3, ⟨0, 0, 0⟩, [], [], q.to, 0, 0, c, q.status, q.hop, q.version, q.value, false⟩
def rcP (d : De) : Rc := ⟨11, d.tid, [], [], 0, 0, 0, 0, 0, 0, 0, 0, d.yes⟩
def rcR (p : Pr) : Rc := ⟨4, p.tid, p.items, p.nodes, 0, 0, 0, 0, 0, 0, 0, 0, false⟩
def rcK1 (c : Co) : Rc := ⟨5, c.tid, c.items, c.nodes, 0, 0, 0, 0, 0, 0, 0, 0, false⟩
def rcK2 (c : Co) : Rc := ⟨7, c.tid, [], [], 0, 0, 0, 0, 0, 0, 0, 0, false⟩
def rcK (c : Co) : List Rc := rcK1 c :: (if c.over = true then [rcK2 c] else [])
def cellsFrom : Nat → List Pl → List Rc
 | _, [] => []
 | c, q :: l => (if q = pl0 then [] else [rcC (c : Int) q]) ++ cellsFrom (c + 1) l
/-- The records that make a state. -/
def recordsL (s : St) : List Rc := rcB s.node s.nodes s.cells :: ((if s.epoch = 0 then [] else [rcE s.epoch]) ++ (cellsFrom 0 s.places ++ (s.dec.map rcP ++ (s.prep.map rcR ++ s.com.flatMap rcK))))
theorem applyL_one {s t : St} {r : Rc} {l : List Rc} (h : fFollow s r = (t, 0)) : applyL s (r :: l) = applyL t l := by
 show (if (fFollow s r).2 = 0 then applyL (fFollow s r).1 l else _) = _
 rw [h, if_pos rfl]
theorem applyL_app {s t : St} : ∀ {l m : List Rc}, applyL s l = (t, 0) → applyL s (l ++ m) = applyL t m
 | [], m, h => by
  have : s = t := (Prod.mk.inj h).1
  rw [this]
  rfl
 | r :: l, m, h => by
  have h2 : (if (fFollow s r).2 = 0 then applyL (fFollow s r).1 l else (stZ, (fFollow s r).2)) = (t, 0) := h
  by_cases e : (fFollow s r).2 = 0
  ·rw [if_pos e] at h2
   rw [List.cons_append]
   show (if (fFollow s r).2 = 0 then applyL (fFollow s r).1 (l ++ m) else _) = _
   rw [if_pos e]
   exact applyL_app h2
  ·rw [if_neg e] at h2
   exact absurd (Prod.mk.inj h2).2 e
theorem follow_right {s : St} {r : Rc} (h : right r = true) : fFollow s r = byKind s r := by unfold fFollow; rw [h, if_neg (by decide)]
theorem rcB_right {a b c : Int} (h : 1 ≤ a ∧ a ≤ b ∧ 1 ≤ b ∧ b ≤ 16 ∧ 1 ≤ c ∧ c ≤ 16) : right (rcB a b c) = true := by
 simp [right, othersB, left, hasB, fl, rcB, rf, lims, nodeLim, Rc.get, Rc.numV, t0B]
 omega
theorem rcE_right {n : Int} (h : 1 ≤ n ∧ n ≤ 1099511627776) : right (rcE n) = true := by
 simp [right, othersB, left, hasB, fl, rcE, rf, lims, Rc.get, Rc.numV, t0B]
 omega
theorem rcC_right {c m : Int} {q : Pl} (hc : 0 ≤ c ∧ c ≤ 15) (h : PlOk m q) : right (rcC c q) = true := by
 obtain ⟨h1, h2, h3, h4, h5, h6⟩ := h
 unfold I64 at h4
 by_cases e : q.status = 2
 ·have := h5 e
  simp [right, othersB, left, hasB, fl, rcC, rf, lims, nodeLim, Rc.get, Rc.numV, t0B, e]
  omega
 ·have := h6 e
  simp [right, othersB, left, hasB, fl, rcC, rf, lims, nodeLim, Rc.get, Rc.numV, t0B, e, this]
  omega
theorem rcP_right {d : De} (h : rightTid d.tid = true) : right (rcP d) = true := by
 cases hy : d.yes <;> simp [right, othersB, left, hasB, fl, rcP, rf, h, hy]
theorem rcR_right {p : Pr} (h1 : rightTid p.tid = true) (h2 : rightItems p.items = true) (h3 : rightNodes p.nodes = true) : right (rcR p) = true := by
 simp [right, othersB, left, hasB, fl, rcR, rf, h1, h2, h3]
theorem rcK1_right {c : Co} (h1 : rightTid c.tid = true) (h2 : c.items = [] ∨ rightItems c.items = true) (h3 : rightNodes c.nodes = true) : right (rcK1 c) = true := by
 rcases h2 with h2 | h2 <;> simp [right, othersB, left, hasB, fl, rcK1, rf, h1, h2, h3]
theorem rcK2_right {c : Co} (h1 : rightTid c.tid = true) : right (rcK2 c) = true := by
 simp [right, othersB, left, hasB, fl, rcK2, rf, h1]
theorem bsAt_end {os : List Int} (h : ∀ x ∈ os, x < 0) : bsAt os = os.length := by
 have hm : ∀ a b : Nat, a ≤ b → (os[b]?).getD 0 < 0 → (os[a]?).getD 0 < 0 := fun a b hab hb => by
  by_cases hbl : b < os.length
  ·rw [List.getElem?_eq_getElem (show a < os.length by omega)]
   exact h _ (List.getElem_mem _)
  ·rw [List.getElem?_eq_none (by omega)] at hb
   exact absurd hb (by decide)
 have h1 := bsAt_le os
 rcases Nat.lt_or_ge (bsAt os) os.length with hl | hl
 ·have := (bsAt_split os hm).2 (bsAt os) (Nat.le_refl _)
  rw [List.getElem?_eq_getElem hl] at this
  exact absurd (h _ (List.getElem_mem hl)) this
 ·omega
theorem insAt_end {α : Type} (l : List α) (x : α) : insAt l l.length x = l ++ [x] := by
 unfold insAt
 rw [List.take_length, List.drop_length]
theorem cells_apply (node nodes cells ep : Int) : ∀ (l pre : List Pl), pre.length + l.length ≤ 16 → (∀ q ∈ l, PlOk nodes q) → 1 ≤ nodes →
  applyL ⟨node, nodes, cells, ep, pre ++ List.replicate l.length pl0, [], [], []⟩ (cellsFrom pre.length l) = (⟨node, nodes, cells, ep, pre ++ l, [], [], []⟩, 0)
 | [], pre, _, _, _ => by simp [cellsFrom, applyL]
 | q :: l, pre, hl, hq, hn => by
  have ih := cells_apply node nodes cells ep l (pre ++ [q]) (by simp only [List.length_append, List.length_cons, List.length_nil] at hl ⊢; omega) (fun z hz => hq z (List.mem_cons_of_mem _ hz)) hn
  simp only [List.length_append, List.length_cons, List.length_nil, List.append_assoc, List.cons_append, List.nil_append] at ih
  have hq0 := hq q List.mem_cons_self
  unfold cellsFrom
  by_cases e : q = pl0
  ·rw [if_pos e, List.nil_append, List.length_cons, List.replicate_succ]
   rw [e] at ih ⊢
   exact ih
  ·rw [if_neg e, List.cons_append, List.nil_append]
   simp only [List.length_cons] at hl
   have hs : fFollow ⟨node, nodes, cells, ep, pre ++ List.replicate (q :: l).length pl0, [], [], []⟩ (rcC (pre.length : Int) q) = (⟨node, nodes, cells, ep, pre ++ q :: List.replicate l.length pl0, [], [], []⟩, 0) := by
    rw [follow_right (rcC_right (m := nodes) ⟨by omega, by omega⟩ hq0)]
    have eb : byKind ⟨node, nodes, cells, ep, pre ++ List.replicate (q :: l).length pl0, [], [], []⟩ (rcC (pre.length : Int) q) = fPlace ⟨node, nodes, cells, ep, pre ++ List.replicate (q :: l).length pl0, [], [], []⟩ (rcC (pre.length : Int) q) := by unfold byKind; rfl
    rw [eb]
    unfold fPlace
    have h1 : hasC (⟨node, nodes, cells, ep, pre ++ List.replicate (q :: l).length pl0, [], [], []⟩ : St) (rcC (pre.length : Int) q).cell = true := by
     rw [hasC_iff]
     show 0 ≤ (pre.length : Int) ∧ (pre.length : Int) < ((pre ++ List.replicate (q :: l).length pl0).length : Int)
     simp only [List.length_append, List.length_replicate, List.length_cons]
     omega
    have h2 : above (⟨node, nodes, cells, ep, pre ++ List.replicate (q :: l).length pl0, [], [], []⟩ : St) [(rcC (pre.length : Int) q).node] = false := by
     show List.any [q.to] (fun m => decide (nodes < m)) = false
     simp only [List.any_cons, List.any_nil, Bool.or_false, decide_eq_false_iff_not]
     by_cases e2 : q.status = 2
     ·have := (hq0.to2 e2).2.2
      omega
     ·have := hq0.to0 e2
      omega
    have h3 : locked (⟨node, nodes, cells, ep, pre ++ List.replicate (q :: l).length pl0, [], [], []⟩ : St) (rcC (pre.length : Int) q).cell = false := by unfold locked; simp
    rw [h1, if_neg (by decide), h2, if_neg (by decide), h3, if_neg (by decide)]
    have h4 : (pre ++ List.replicate (q :: l).length pl0).set (rcC (pre.length : Int) q).cell.toNat q = pre ++ q :: List.replicate l.length pl0 := by
     show (pre ++ List.replicate (l.length + 1) pl0).set ((pre.length : Int)).toNat q = _
     rw [Int.toNat_natCast, List.set_append_right _ _ (Nat.le_refl _), Nat.sub_self, List.replicate_succ]
     rfl
    show (Led.setPl _ _ _, (0 : Int)) = _
    unfold Led.setPl
    simp only
    have h5 : (⟨(rcC (pre.length : Int) q).status, (rcC (pre.length : Int) q).hop, (rcC (pre.length : Int) q).node, (rcC (pre.length : Int) q).version, (rcC (pre.length : Int) q).value⟩ : Pl) = q := rfl
    rw [h5, h4]
   rw [applyL_one hs]
   exact ih
theorem decs_apply (node nodes cells ep : Int) (pl : List Pl) : ∀ (l pre : List De), (pre ++ l).Pairwise (fun a b => ord a.tid b.tid < 0) → (∀ d ∈ l, rightTid d.tid = true ∧ d.tid.node ≤ nodes) → pre.length + l.length ≤ 512 →
  applyL ⟨node, nodes, cells, ep, pl, [], pre, []⟩ (l.map rcP) = (⟨node, nodes, cells, ep, pl, [], pre ++ l, []⟩, 0)
 | [], pre, _, _, _ => by simp [applyL]
 | d :: l, pre, hs, hd, hl => by
  have hlow : ∀ y ∈ pre, ord y.tid d.tid < 0 := fun y hy => (List.pairwise_append.1 hs).2.2 y hy d List.mem_cons_self
  have hne : ∀ y ∈ pre, y.tid ≠ d.tid := fun y hy e => by
   have := hlow y hy
   rw [e] at this
   exact tlt8_irrefl _ ((ord8_neg_iff _ _).1 this)
  have hd0 := hd d List.mem_cons_self
  have hf : fFollow ⟨node, nodes, cells, ep, pl, [], pre, []⟩ (rcP d) = (⟨node, nodes, cells, ep, pl, [], pre ++ [d], []⟩, 0) := by
   rw [follow_right (rcP_right hd0.1)]
   have eb : byKind ⟨node, nodes, cells, ep, pl, [], pre, []⟩ (rcP d) = fPast ⟨node, nodes, cells, ep, pl, [], pre, []⟩ (rcP d) := by unfold byKind; rfl
   rw [eb]
   unfold fPast
   have h1 : known (⟨node, nodes, cells, ep, pl, [], pre, []⟩ : St) (rcP d).tid = false := by
    unfold known
    have a1 : at_prep (⟨node, nodes, cells, ep, pl, [], pre, []⟩ : St) (rcP d).tid < 0 := (idx_neg _ _).2 fun p hp => (by cases hp)
    have a2 : at_dec (⟨node, nodes, cells, ep, pl, [], pre, []⟩ : St) (rcP d).tid < 0 := (idx_neg _ _).2 fun p hp => decide_eq_false (hne p hp)
    rw [decide_eq_false (by omega), decide_eq_false (by omega)]
    rfl
   have h2 : above (⟨node, nodes, cells, ep, pl, [], pre, []⟩ : St) [(rcP d).tid.node] = false := by
    show List.any [d.tid.node] (fun m => decide (nodes < m)) = false
    simp only [List.any_cons, List.any_nil, Bool.or_false, decide_eq_false_iff_not]
    have := hd0.2
    omega
   have h3 : Led.room (⟨node, nodes, cells, ep, pl, [], pre, []⟩ : St) = true := by
    unfold Led.room
    simp only [List.length_cons, List.length_nil] at hl ⊢
    simp
    omega
   rw [h1, if_neg (by decide), h2, if_neg (by decide), h3, if_neg (by decide)]
   have h4 : insD pre ⟨(rcP d).tid, (rcP d).yes⟩ = pre ++ [d] := by
    show insAt pre (bsAt (pre.map fun x => ord x.tid d.tid)) ⟨d.tid, d.yes⟩ = _
    rw [bsAt_end (fun x hx => by obtain ⟨y, hy, rfl⟩ := List.mem_map.1 hx; exact hlow y hy), List.length_map]
    exact insAt_end pre d
   show (Led.conc _ _, (0 : Int)) = _
   unfold Led.conc
   simp only
   rw [h4]
  rw [List.map_cons, applyL_one hf, decs_apply node nodes cells ep pl l (pre ++ [d]) (by rw [List.append_assoc]; exact hs) (fun z hz => hd z (List.mem_cons_of_mem _ hz)) (by simp only [List.length_append, List.length_cons, List.length_nil] at hl ⊢; omega)]
  rw [List.append_assoc]
  rfl
theorem preps_apply {s : St} (h : Good s) : ∀ (l pre : List Pr), pre ++ l = s.prep → applyL { s with prep := pre, com := [] } (l.map rcR) = ({ s with com := [] }, 0)
 | [], pre, e => by
  rw [List.append_nil] at e
  rw [e]
  rfl
 | p :: l, pre, e => by
  have hm : p ∈ s.prep := by rw [← e]; exact List.mem_append_right _ List.mem_cons_self
  have hps := h.ps
  rw [← e] at hps
  have hlow : ∀ y ∈ pre, ord y.tid p.tid < 0 := fun y hy => (List.pairwise_append.1 hps).2.2 y hy p List.mem_cons_self
  have hne : ∀ y ∈ pre, y.tid ≠ p.tid := fun y hy e9 => by
   have := hlow y hy
   rw [e9] at this
   exact tlt8_irrefl _ ((ord8_neg_iff _ _).1 this)
  obtain ⟨g1, g2, g3, g4, g5, g6⟩ := h.pr p hm
  have hcc := h.inv.cc
  unfold lockC at hcc
  rw [← e, List.flatMap_append, List.flatMap_cons, List.nodup_append] at hcc
  have hf : fFollow { s with prep := pre, com := [] } (rcR p) = ({ s with prep := pre ++ [p], com := [] }, 0) := by
   rw [follow_right (rcR_right (h.inv.rt p hm) g2 g3)]
   have eb : byKind { s with prep := pre, com := [] } (rcR p) = fPrepare { s with prep := pre, com := [] } (rcR p) := by unfold byKind; rfl
   rw [eb]
   unfold fPrepare
   have h1 : known ({ s with prep := pre, com := [] } : St) (rcR p).tid = false := by
    unfold known
    have a1 : at_prep ({ s with prep := pre, com := [] } : St) (rcR p).tid < 0 := (idx_neg _ _).2 fun q hq => decide_eq_false (hne q hq)
    have a2 : at_dec ({ s with prep := pre, com := [] } : St) (rcR p).tid < 0 := (idx_neg _ _).2 fun d hd => decide_eq_false fun e9 => h.inv.pd p hm d hd e9.symm
    rw [decide_eq_false (by omega), decide_eq_false (by omega)]
    rfl
   have h2 : allC ({ s with prep := pre, com := [] } : St) (rcR p).items = true := by
    unfold allC
    rw [List.all_eq_true]
    intro x hx
    exact owns_has (h.inv.lk p hm x hx).1
   have h3 : above ({ s with prep := pre, com := [] } : St) [(rcR p).tid.node] = false := by
    show List.any [p.tid.node] (fun m => decide (s.nodes < m)) = false
    simp only [List.any_cons, List.any_nil, Bool.or_false, decide_eq_false_iff_not]
    omega
   have h4 : above ({ s with prep := pre, com := [] } : St) (rcR p).nodes = false := g4
   have h5 : isPart ({ s with prep := pre, com := [] } : St) (rcR p).nodes = true := g5
   have hall : ∀ (m : List It), (∀ x ∈ m, x ∈ p.items) → firstE ({ s with prep := pre, com := [] } : St) m = 0 := by
    intro m
    induction m with
    | nil => intro _; rfl
    | cons x m ih =>
     intro hx
     have hxp := hx x List.mem_cons_self
     obtain ⟨v1, v2, _⟩ := h.inv.lk p hm x hxp
     have hz : lockE ({ s with prep := pre, com := [] } : St) x = 0 := by
      unfold lockE
      have o1 : owns ({ s with prep := pre, com := [] } : St) x.cell = true := v1
      have o2 : locked ({ s with prep := pre, com := [] } : St) x.cell = false := by
       rw [locked_eq]
       have hnm : x.cell ∉ lockC ({ s with prep := pre, com := [] } : St) := fun hmm => hcc.2.2 x.cell hmm x.cell (List.mem_append_left _ (List.mem_map.2 ⟨x, hxp, rfl⟩)) rfl
       rw [decide_eq_false hnm, Bool.and_false]
      have o3 : (plAt ({ s with prep := pre, com := [] } : St) x.cell).version = x.version := v2
      rw [o1, if_neg (by decide), o2, if_neg (by decide), if_neg (fun k => k o3)]
     unfold firstE
     rw [if_pos hz]
     exact ih fun z hz => hx z (List.mem_cons_of_mem _ hz)
   have h6 : firstE ({ s with prep := pre, com := [] } : St) (rcR p).items = 0 := hall _ fun x hx => hx
   have h7 : Led.room ({ s with prep := pre, com := [] } : St) = true := by
    unfold Led.room
    have h8 := h.room
    rw [← e, List.length_append, List.length_cons] at h8
    simp
    omega
   rw [h1, h2, h3, h4, h5, h6, h7]
   simp only [Bool.false_eq_true, if_false, Bool.true_eq_false, if_true]
   have h9 : insAt pre (insI pre (rcPr (rcR p))) (rcPr (rcR p)) = pre ++ [p] := by
    show insAt pre (bsAt (pre.map fun x => ord x.tid p.tid)) p = _
    rw [bsAt_end (fun x hx => by obtain ⟨y, hy, rfl⟩ := List.mem_map.1 hx; exact hlow y hy), List.length_map]
    exact insAt_end pre p
   unfold prepS
   simp only
   rw [h9]
  rw [List.map_cons, applyL_one hf]
  exact preps_apply h l (pre ++ [p]) (by rw [List.append_assoc]; exact e)
theorem coms_apply {s : St} (h : Good s) : ∀ (l pre : List Co), pre ++ l = s.com → applyL { s with com := pre } (l.flatMap rcK) = (s, 0)
 | [], pre, e => by
  rw [List.append_nil] at e
  rw [e]
  rfl
 | c :: l, pre, e => by
  have hm : c ∈ s.com := by rw [← e]; exact List.mem_append_right _ List.mem_cons_self
  obtain ⟨g1, g2, g3, g4, g5⟩ := h.cr c hm
  have hct := h.ct
  rw [← e, List.map_append, List.map_cons, List.nodup_append] at hct
  have hne : ∀ y ∈ pre, y.tid ≠ c.tid := fun y hy e9 => hct.2.2 y.tid (List.mem_map.2 ⟨y, hy, rfl⟩) c.tid List.mem_cons_self e9
  have hcl := h.cl
  rw [← e, List.length_append, List.length_cons] at hcl
  have hf : fFollow { s with com := pre } (rcK1 c) = ({ s with com := pre ++ [{ c with over := false }] }, 0) := by
   rw [follow_right (rcK1_right g1 g3 g4)]
   have eb : byKind { s with com := pre } (rcK1 c) = fCommit { s with com := pre } (rcK1 c) := by unfold byKind; rfl
   rw [eb]
   unfold fCommit
   have h2 : above ({ s with com := pre } : St) (rcK1 c).nodes = false := g5
   have h3 : at_com ({ s with com := pre } : St) (rcK1 c).tid < 0 := (idx_neg _ _).2 fun q hq => decide_eq_false (hne q hq)
   rw [if_neg (show ¬ (rcK1 c).tid.node ≠ s.node from fun k => k g2), h2, if_neg (by decide), if_neg (by omega), if_neg (by show ¬ 512 ≤ pre.length; omega)]
   rfl
  have hgo : applyL { s with com := pre } (rcK c ++ l.flatMap rcK) = applyL { s with com := pre ++ [c] } (l.flatMap rcK) := by
   unfold rcK
   rw [List.cons_append, applyL_one hf]
   cases ho : c.over with
   | false =>
    rw [if_neg (by decide), List.nil_append]
    have : ({ c with over := false } : Co) = c := by cases c; simp_all
    rw [this]
   | true =>
    rw [if_pos rfl, List.cons_append, List.nil_append]
    have hn2 : (({ s with com := pre ++ [{ c with over := false }] } : St).com.map Co.tid).Nodup := by
     show ((pre ++ [({ c with over := false } : Co)]).map Co.tid).Nodup
     rw [List.map_append, List.nodup_append]
     refine ⟨hct.1, by simp, fun a ha b hb e9 => ?_⟩
     have hb2 : b = c.tid := by simpa using hb
     exact hct.2.2 a ha c.tid List.mem_cons_self (by rw [e9, hb2])
    have hlen : pre.length < (pre ++ [({ c with over := false } : Co)]).length := by rw [List.length_append]; simp
    have hat : at_com ({ s with com := pre ++ [{ c with over := false }] } : St) (rcK2 c).tid = (pre.length : Int) := by
     have h8 := idx_at (pre ++ [({ c with over := false } : Co)]) Co.tid hn2 pre.length hlen
     have h9 : (pre ++ [({ c with over := false } : Co)])[pre.length] = { c with over := false } := by
      rw [List.getElem_append_right (Nat.le_refl _)]
      simp
     rw [h9] at h8
     exact h8
    have hco : coAt ({ s with com := pre ++ [{ c with over := false }] } : St) pre.length = { c with over := false } := by
     unfold coAt
     simp only
     rw [List.getElem?_append_right (Nat.le_refl _), Nat.sub_self]
     rfl
    have hf2 : fFollow { s with com := pre ++ [{ c with over := false }] } (rcK2 c) = ({ s with com := pre ++ [c] }, 0) := by
     rw [follow_right (rcK2_right g1)]
     have eb : byKind { s with com := pre ++ [{ c with over := false }] } (rcK2 c) = fEnd { s with com := pre ++ [{ c with over := false }] } (rcK2 c) := by unfold byKind; rfl
     rw [eb]
     unfold fEnd
     rw [hat, if_neg (by omega), Int.toNat_natCast, hco, if_neg (by simp)]
     unfold overS
     rw [hco]
     simp only
     have h7 : (pre ++ [({ c with over := false } : Co)]).set pre.length { tid := c.tid, items := c.items, nodes := c.nodes, over := true } = pre ++ [c] := by
      rw [List.set_append_right _ _ (Nat.le_refl _), Nat.sub_self]
      have : ({ tid := c.tid, items := c.items, nodes := c.nodes, over := true } : Co) = c := by cases c; simp_all
      rw [this]
      rfl
     rw [h7]
    rw [applyL_one hf2]
  rw [List.flatMap_cons, hgo]
  exact coms_apply h l (pre ++ [c]) (by rw [List.append_assoc]; exact e)
/-- A state's own records make it, behind whatever state. -/
theorem again {s : St} (h : Good s) (t : St) : applyL t (recordsL s) = (s, 0) := by
 have hB : fFollow t (rcB s.node s.nodes s.cells) = (emptyS s.node s.nodes s.places.length, 0) := by
  have hc := h.cells
  rw [follow_right (rcB_right ⟨h.nn.2.2.1, h.nn.2.2.2, h.nn.1, h.nn.2.1, by omega, by omega⟩)]
  have e : s.cells.toNat = s.places.length := by omega
  show (emptyS s.node s.nodes s.cells.toNat, (0 : Int)) = _
  rw [e]
 unfold recordsL
 rw [applyL_one hB]
 have hcell : s.cells = (s.places.length : Int) := h.cells.1
 have hE : applyL (emptyS s.node s.nodes s.places.length) (if s.epoch = 0 then [] else [rcE s.epoch]) = (⟨s.node, s.nodes, s.cells, s.epoch, [] ++ List.replicate s.places.length pl0, [], [], []⟩, 0) := by
  by_cases e : s.epoch = 0
  ·rw [if_pos e, e, hcell]
   rfl
  ·rw [if_neg e]
   have hf : fFollow (emptyS s.node s.nodes s.places.length) (rcE s.epoch) = (⟨s.node, s.nodes, s.cells, s.epoch, [] ++ List.replicate s.places.length pl0, [], [], []⟩, 0) := by
    have he := h.ep
    rw [follow_right (rcE_right ⟨by omega, he.2⟩)]
    have eb : byKind (emptyS s.node s.nodes s.places.length) (rcE s.epoch) = fBegin (emptyS s.node s.nodes s.places.length) (rcE s.epoch) := by unfold byKind; rfl
    rw [eb]
    unfold fBegin
    rw [if_neg (by show ¬ s.epoch ≤ 0; omega), hcell]
    rfl
   rw [applyL_one hf]
   rfl
 rw [applyL_app hE]
 have hpl : ∀ q ∈ s.places, PlOk s.nodes q := fun q hq => by
  obtain ⟨i, hi, rfl⟩ := List.mem_iff_getElem.1 hq
  have h1 := h.pl (i : Int) ((hasC_iff s _).2 ⟨by omega, by omega⟩)
  unfold plAt at h1
  rw [Int.toNat_natCast, List.getElem?_eq_getElem hi] at h1
  exact h1
 have hC : applyL ⟨s.node, s.nodes, s.cells, s.epoch, [] ++ List.replicate s.places.length pl0, [], [], []⟩ (cellsFrom 0 s.places) = (⟨s.node, s.nodes, s.cells, s.epoch, [] ++ s.places, [], [], []⟩, 0) := cells_apply s.node s.nodes s.cells s.epoch s.places [] (by have := h.cells.2.2; simpa using this) hpl h.nn.1
 rw [applyL_app hC]
 rw [applyL_app (decs_apply s.node s.nodes s.cells s.epoch ([] ++ s.places) s.dec [] (by simpa using h.ds) h.dr (by have := h.room; simp only [List.length_nil]; omega))]
 rw [List.nil_append, List.nil_append]
 have h1 := preps_apply h s.prep [] rfl
 rw [applyL_app h1]
 exact coms_apply h s.com [] rfl
theorem Good.follow {s : St} (h : Good s) (r : Rc) (hok : I64 r.value ∧ ∀ x ∈ r.items, I64 x.new) (h0 : (fFollow s r).2 = 0) : Good (fFollow s r).1 := by
 unfold fFollow at h0 ⊢
 split
 ·rename_i e; rw [if_pos e] at h0; cases h0
 ·rename_i e
  rw [if_neg e] at h0
  exact h.byKind r (by simpa using e) hok h0
theorem Good.goOn {s : St} (h : Good s) (r : Rc) (hok : I64 r.value ∧ ∀ x ∈ r.items, I64 x.new) : Good (goOn s r) := by
 unfold Led.goOn
 split
 ·rename_i e
  exact h.follow r hok e
 ·exact h
theorem Good.reach {s : St} (h : Good s) (l : List Rc) (hok : ∀ r ∈ l, I64 r.value ∧ ∀ x ∈ r.items, I64 x.new) : Good (reachL s l) := by
 induction l generalizing s with
 | nil => exact h
 | cons r l ih => exact ih (h.goOn r (hok r List.mem_cons_self)) fun x hx => hok x (List.mem_cons_of_mem _ hx)
theorem Good.first {a b c : Int} (h0 : (firstL a b c).2 = 0) : Good (firstL a b c).1 := by
 have hi := Inv.firstL h0
 unfold Led.firstL at h0 hi ⊢
 split
 ·rename_i e; rw [if_pos e] at h0; cases h0
 ·rename_i e
  rw [if_neg e] at hi
  have hr : right (rcB a b c) = true := by simpa using e
  have f0 := right_num8 hr 0 (by show (0 : Int) ∈ fl 1; decide) (by decide)
  have f1 := right_num8 hr 1 (by show (1 : Int) ∈ fl 1; decide) (by decide)
  have f2 := right_num8 hr 2 (by show (2 : Int) ∈ fl 1; decide) (by decide)
  simp [lims, nodeLim, rcB, Rc.get, Rc.numV] at f0 f1 f2
  have hl : (firstS a b c.toNat).places.length = c.toNat := firstPl_len a b c.toNat c.toNat
  refine ⟨hi, ⟨f1.1, f1.2, f0.1, f0.2⟩, ⟨by rw [hl]; rfl, by rw [hl]; omega, by rw [hl]; omega⟩, ⟨Int.le_refl _, by show (0 : Int) ≤ 1099511627776; decide⟩, fun k hk => ?_, List.Pairwise.nil, List.Pairwise.nil, fun d hd => (by cases hd), fun p hp => (by cases hp), Nat.zero_le _, fun c hc => (by cases hc), List.nodup_nil, Nat.zero_le _⟩
  have hz : PlOk b pl0 := ⟨by decide, by decide, by decide, ⟨by decide, by decide⟩, fun h => (by cases h), fun _ => rfl⟩
  have h1 : PlOk b ⟨1, 0, 0, 0, 0⟩ := ⟨by decide, by decide, by decide, ⟨by decide, by decide⟩, fun h => (by cases h), fun _ => rfl⟩
  show PlOk b (plAt (firstS a b c.toNat) k)
  unfold plAt firstS
  simp only
  rw [firstPl_get]
  split
  ·simp only [Option.getD_some]
   split
   ·exact h1
   ·exact hz
  ·exact hz
end Go.Proofs.YtalhbblmnahcdaaGreat.Led
