/-
  Layer 19: one more behind two rows of the call's own, in any order.
  Conditions: none.
-/
import Derived.Test.YtjeogeablbkhgaaP37
namespace Go.Proofs.Ytjeogeablbkhgaa.Vot
set_option maxRecDepth 100000
open Go.RowKit Go.Deep Go.Proofs.Ytjeogeablbkhgaa.Mem Go.Proofs.Ytjeogeablbkhgaa.Item
/-- While one more is put behind two rows P and Q, apart: which of the new slices (d3, d8) and of the appends (d4, d9) are done. -/
structure ApT (ea eb : TypeId) (sa sb : Nat) (va vb : Sd → List Value) (B : Nat) (P Q : Value) (la lb : List Sd) (p : Sd) (w0 : World) (d3 : Bool) (v3 : Value) (d4 : Bool) (v4 : Value) (d8 : Bool) (v8 : Value) (d9 : Bool) (v9 : Value) (W : World) : Prop where
 low : Only (fun k => P.ownBlock = some k ∨ Q.ownBlock = some k) w0 W
 base : B ≤ w0.heap.size
 ra : OwnG ea sa va B W (cond d4 v4 P) (cond d4 (la ++ [p]) la)
 rb : OwnG eb sb vb B W (cond d9 v9 Q) (cond d9 (lb ++ [p]) lb)
 far : ∀ k, (cond d4 v4 P).ownBlock = some k → (cond d9 v9 Q).ownBlock ≠ some k
 xa : d3 = true → ∃ g, v3 = .slice (some ⟨g, 0, none⟩) 1 1 ∧ Cells W g ea (va p) ∧ (cond d4 v4 P).ownBlock ≠ some g ∧ (cond d9 v9 Q).ownBlock ≠ some g
 xb : d8 = true → ∃ g, v8 = .slice (some ⟨g, 0, none⟩) 1 1 ∧ Cells W g eb (vb p) ∧ (cond d4 v4 P).ownBlock ≠ some g ∧ (cond d9 v9 Q).ownBlock ≠ some g
section
variable {ea eb sT tT : TypeId} {zv : Value} {bytes sa sb B : Nat} {va vb : Sd → List Value} {P Q v3 v4 v8 v9 : Value} {la lb : List Sd} {p : Sd} {w0 W : World} {d3 d4 d8 d9 : Bool}
theorem ApT.symm (h : ApT ea eb sa sb va vb B P Q la lb p w0 d3 v3 d4 v4 d8 v8 d9 v9 W) : ApT eb ea sb sa vb va B Q P lb la p w0 d8 v8 d9 v9 d3 v3 d4 v4 W :=
 ⟨h.low.mono fun _ _ e => e.symm, h.base, h.rb, h.ra, fun k e e2 => h.far k e2 e, fun e => (by obtain ⟨g, h1, h2, h3, h4⟩ := h.xb e; exact ⟨g, h1, h2, h4, h3⟩), fun e => (by obtain ⟨g, h1, h2, h3, h4⟩ := h.xa e; exact ⟨g, h1, h2, h4, h3⟩)⟩
theorem ApT.start (hb : Below w0.heap.size w0 W) (hB : B ≤ w0.heap.size) (ha : OwnG ea sa va B w0 P la) (hq : OwnG eb sb vb B w0 Q lb) (hf : ∀ k, P.ownBlock = some k → Q.ownBlock ≠ some k) (v3 v4 v8 v9 : Value) :
  ApT ea eb sa sb va vb B P Q la lb p w0 false v3 false v4 false v8 false v9 W := ⟨Only.of_below hb, hB, ha.later hb, hq.later hb, hf, fun e => (by cases e), fun e => (by cases e)⟩
theorem ApT.mka (h : ApT ea eb sa sb va vb B P Q la lb p w0 false v3 d4 v4 d8 v8 d9 v9 W) (cells : Array Value) (hc : cells.toList = va p) : ApT ea eb sa sb va vb B P Q la lb p w0 true (.slice (some ⟨W.heap.size, 0, none⟩) 1 1) d4 v4 d8 v8 d9 v9 (W.alloc (.cells cells ea)) := by
 have hb := below_alloc W (.cells cells ea)
 refine ⟨h.low.trans (S' := fun _ => False) (Only.of_below hb) fun _ _ e => e.elim, h.base, h.ra.later hb, h.rb.later hb, h.far, fun _ => ⟨W.heap.size, rfl, cells_new W ea (va p) _ hc, fun e => ?_, fun e => ?_⟩, fun e => ?_⟩
 ·exact Nat.lt_irrefl _ (h.ra.lt e).2
 ·exact Nat.lt_irrefl _ (h.rb.lt e).2
 ·obtain ⟨g, h1, h2, h3⟩ := h.xb e
  exact ⟨g, h1, h2.later hb, h3⟩
theorem ApT.apa (E : Elem sT ea zv sa bytes) (hf : ∀ l : List Sd, Fit sa (l.map va)) (h : ApT ea eb sa sb va vb B P Q la lb p w0 true v3 false v4 d8 v8 d9 v9 W) (hl : la.length ≤ 1000) :
  ∃ g V' n' c' W', v3 = .slice (some ⟨g, 0, none⟩) 1 1 ∧ (Builtin.append_ #[sT, sT] sT #[P, .slice (some ⟨g, 0, none⟩) 1 1]).run Try.prog W = .ok (.slice V' n' c') W' ∧ ApT ea eb sa sb va vb B P Q la lb p w0 true v3 true (.slice V' n' c') d8 v8 d9 v9 W' := by
 obtain ⟨g, h1, h2, h3, h4⟩ := h.xa rfl
 have hsl : Sl W (some ⟨g, 0, none⟩) sa ([p].map va) := cells_sl (by simpa using h2) fun v hv => (hf [p]).len v hv
 obtain ⟨V', n', c', W', hrun, hrow, _, ho, hg⟩ := OwnG.appS E hf h.ra (m := [p]) hsl (fun e => by cases e) (Nat.le_trans h.base h.low.size) (by show la.length + 1 ≤ 100000; omega)
 have hg2 : ∀ k, (Value.slice V' n' c').ownBlock = some k → P.ownBlock = some k ∨ W.heap.size ≤ k := fun k e => hg k (by rw [own_blk] at e; exact e)
 have hgl := h2.lt
 refine ⟨g, V', n', c', W', h1, hrun, h.low.trans (ho.mono (S' := fun k => P.ownBlock = some k ∨ Q.ownBlock = some k) fun k _ e => Or.inl e) fun _ _ e => e, h.base, hrow, h.rb.only ho fun k e e2 => h.far k e2 e, fun k e e2 => ?_, fun _ => ⟨g, h1, cells_only h2 ho h3, fun e => ?_, h4⟩, fun e => ?_⟩
 ·rcases hg2 k e with e3 | e3
  ·exact h.far k e3 e2
  ·have := (h.rb.lt e2).2
   omega
 ·rcases hg2 g e with e3 | e3
  ·exact h3 e3
  ·omega
 ·obtain ⟨i, k1, k2, k3, k4⟩ := h.xb e
  refine ⟨i, k1, cells_only k2 ho k3, fun e2 => ?_, k4⟩
  rcases hg2 i e2 with e3 | e3
  ·exact k3 e3
  ·have := k2.lt
   omega
theorem ApT.mkb (h : ApT ea eb sa sb va vb B P Q la lb p w0 d3 v3 d4 v4 false v8 d9 v9 W) (cells : Array Value) (hc : cells.toList = vb p) : ApT ea eb sa sb va vb B P Q la lb p w0 d3 v3 d4 v4 true (.slice (some ⟨W.heap.size, 0, none⟩) 1 1) d9 v9 (W.alloc (.cells cells eb)) := (h.symm.mka cells hc).symm
theorem ApT.apb (E : Elem tT eb zv sb bytes) (hf : ∀ l : List Sd, Fit sb (l.map vb)) (h : ApT ea eb sa sb va vb B P Q la lb p w0 d3 v3 d4 v4 true v8 false v9 W) (hl : lb.length ≤ 1000) :
  ∃ g V' n' c' W', v8 = .slice (some ⟨g, 0, none⟩) 1 1 ∧ (Builtin.append_ #[tT, tT] tT #[Q, .slice (some ⟨g, 0, none⟩) 1 1]).run Try.prog W = .ok (.slice V' n' c') W' ∧ ApT ea eb sa sb va vb B P Q la lb p w0 d3 v3 d4 v4 true v8 true (.slice V' n' c') W' := by
 obtain ⟨g, V', n', c', W', h1, h2, h3⟩ := h.symm.apa E hf hl
 exact ⟨g, V', n', c', W', h1, h2, h3.symm⟩
end
/-- A part that came in, in two cells. -/
def pv (s : Sd) : List Value := [.int .i64 s.node, .slice s.A s.its.length s.c]
/-- Parts that came in lie at O. -/
def Parts (w : World) (O : Option Addr) (ps : List Sd) : Prop := Sl w O 2 (ps.map pv) ∧ ∀ s ∈ ps, Items w s.A s.its ∧ (s.A = none → s.c = 0) ∧ s.its.length ≤ 40
theorem Parts.later {w w' : World} {O : Option Addr} {ps : List Sd} (h : Parts w O ps) (hb : Below w.heap.size w w') : Parts w' O ps := ⟨h.1.later hb, fun s hs => ⟨(h.2 s hs).1.later hb, (h.2 s hs).2⟩⟩
theorem Parts.at {w : World} {O : Option Addr} {ps : List Sd} (h : Parts w O ps) {k : Nat} (hk : k < ps.length) : ∃ g off, O = some ⟨g, off, none⟩ ∧ w.rangeAt g (off + k * 2) (pv ps[k]) := by
 obtain ⟨g, off, e, hr⟩ := h.1 k (by rw [List.length_map]; exact hk)
 rw [List.getElem_map] at hr
 exact ⟨g, off, e, hr⟩
end Go.Proofs.Ytjeogeablbkhgaa.Vot
