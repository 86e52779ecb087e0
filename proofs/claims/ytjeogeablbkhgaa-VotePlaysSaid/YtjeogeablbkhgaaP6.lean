/-
  Words for chains of appends into new memory within a region that draws its order, for any kind of element. No program's type is named.
  Conditions: none.
-/
import Derived.Test.YtjeogeablbkhgaaP5
namespace Go.Proofs.Ytjeogeablbkhgaa.Mem
open Go.RowKit Go.Deep
/-- While an empty slice (dz), appends onto it (v holds l now) and a slice of one element (dx) are made, in open order. -/
structure ApG {α : Type} (eT : TypeId) (sz : Nat) (vals : α → List Value) (w0 : World) (dz : Bool) (v : Value) (l : List α) (dx : Bool) (vx : Value) (p : α) (W : World) : Prop where
 low : Below w0.heap.size w0 W
 acc : dz = true → W.ownsRow w0.heap.size eT sz v l.length (l.map vals).flatten
 x : dx = true → ∃ g, vx = .slice (some ⟨g, 0, none⟩) 1 1 ∧ Cells W g eT (vals p) ∧ w0.heap.size ≤ g ∧ (dz = true → v.ownBlock ≠ some g)
section
variable {α : Type} {sT eT : TypeId} {zv : Value} {sz bytes : Nat} {vals : α → List Value} {w0 W : World} {dz dx : Bool} {v vx : Value} {l m : List α} {p : α}
theorem ApG.start (hb : Below w0.heap.size w0 W) (v vx : Value) (l : List α) (p : α) : ApG eT sz vals w0 false v l false vx p W := ⟨hb, fun e => (by cases e), fun e => (by cases e)⟩
theorem ApG.mkz (h : ApG eT sz vals w0 false v l dx vx p W) : ApG eT sz vals w0 true (.slice (some ⟨W.heap.size, 0, none⟩) 0 0) [] dx vx p (W.alloc (.cells #[] eT)) := by
 have hb := below_alloc W (.cells #[] eT)
 refine ⟨h.low.trans (hb.mono h.low.size), fun _ => own_up h.low.size (World.ownsRow_made (base := W.heap.size) W #[] 0 (Nat.le_refl _) (Nat.zero_le _) (by simp)), fun e => ?_⟩
 obtain ⟨g, e1, e2, e3, _⟩ := h.x e
 refine ⟨g, e1, e2.later hb, e3, fun _ e4 => ?_⟩
 have := e2.lt
 have e5 : W.heap.size = g := Option.some.inj e4
 omega
theorem ApG.mkx (h : ApG eT sz vals w0 dz v l false vx p W) (cells : Array Value) (hc : cells.toList = vals p) : ApG eT sz vals w0 dz v l true (.slice (some ⟨W.heap.size, 0, none⟩) 1 1) p (W.alloc (.cells cells eT)) := by
 have hb := below_alloc W (.cells cells eT)
 refine ⟨h.low.trans (hb.mono h.low.size), fun e => own_later (h.acc e) hb, fun _ => ⟨W.heap.size, rfl, cells_new W eT (vals p) _ hc, h.low.size, fun e e4 => ?_⟩⟩
 have := ((h.acc e).lt _ e4).2
 omega
theorem ApG.app (E : Elem sT eT zv sz bytes) (hf : ∀ l : List α, Fit sz (l.map vals)) (h : ApG eT sz vals w0 true v l dx vx p W) {A : Option Addr} {c : Nat} (hs : Sl W A sz (m.map vals)) (hA : A = none → c = 0) (hl : l.length + m.length ≤ 1000) :
  ∃ A' n' c' W', (Builtin.append_ #[sT, sT] sT #[v, .slice A m.length c]).run Try.prog W = .ok (.slice A' n' c') W' ∧ ApG eT sz vals w0 true (.slice A' n' c') (l ++ m) dx vx p W' := by
 obtain ⟨v', W', hrun, hrow, hg, hnb⟩ := run_append_rows E W sT w0.heap.size v (l.map vals) (m.map vals) A c (hf _) (hf _) (by rw [List.length_map]; exact h.acc rfl) hs hA (by rw [List.length_map, List.length_map]; omega) h.low.size
 obtain ⟨A', c', rfl⟩ := row_slice hrow
 rw [← List.map_append] at hrow hrun hnb
 rw [List.length_map] at hrun
 have ho := Only.of_grown hg
 refine ⟨A', _, c', W', hrun, h.low.trans (ho.below h.low.size fun k e => ((h.acc rfl).lt k e.symm).1), fun _ => by simpa using hrow, fun e => ?_⟩
 obtain ⟨g, e1, e2, e3, e4⟩ := h.x e
 refine ⟨g, e1, cells_only e2 ho fun e5 => e4 rfl e5.symm, e3, fun _ e6 => ?_⟩
 rcases hnb with e7 | e7
 ·exact e4 rfl (e7.symm.trans e6)
 ·have := e2.lt
  have e8 := e7.symm.trans e6
  have e9 : W.heap.size = g := Option.some.inj e8
  omega
/-- The slice of one element is appended. -/
theorem ApG.one (E : Elem sT eT zv sz bytes) (hf : ∀ l : List α, Fit sz (l.map vals)) (h : ApG eT sz vals w0 true v l true vx p W) (hl : l.length ≤ 900) :
  ∃ g A' n' c' W', vx = .slice (some ⟨g, 0, none⟩) 1 1 ∧ (Builtin.append_ #[sT, sT] sT #[v, .slice (some ⟨g, 0, none⟩) 1 1]).run Try.prog W = .ok (.slice A' n' c') W' ∧ ApG eT sz vals w0 true (.slice A' n' c') (l ++ [p]) true vx p W' := by
 obtain ⟨g, e1, e2, e3, e4⟩ := h.x rfl
 have hsl : Sl W (some ⟨g, 0, none⟩) sz ([p].map vals) := cells_sl (by simpa using e2) fun v hv => (hf [p]).len v hv
 obtain ⟨A', n', c', W', h1, h2⟩ := h.app E hf (m := [p]) hsl (fun e => by cases e) (by simp; omega)
 exact ⟨g, A', n', c', W', e1, h1, h2⟩
/-- A row of the call's own of such elements. -/
def OwnG (eT : TypeId) (sz : Nat) (vals : α → List Value) (B : Nat) (w : World) (v : Value) (l : List α) : Prop := w.ownsRow B eT sz v l.length (l.map vals).flatten
theorem OwnG.later {B : Nat} {w w' : World} (h : OwnG eT sz vals B w v l) (hb : Below w.heap.size w w') : OwnG eT sz vals B w' v l := own_later h hb
theorem OwnG.nil (eT : TypeId) (sz : Nat) (vals : α → List Value) (B : Nat) (w : World) : OwnG eT sz vals B w (.slice none 0 0) [] := ⟨by simp, Or.inl ⟨rfl, rfl⟩⟩
theorem OwnG.sl {B : Nat} {w : World} {V : Option Addr} {n vc : Nat} (hf : ∀ l : List α, Fit sz (l.map vals)) (h : OwnG eT sz vals B w (.slice V n vc) l) : n = l.length ∧ Sl w V sz (l.map vals) := by
 obtain ⟨A', c', e, h1, _⟩ := own_sl (vs := l.map vals) (by rw [List.length_map]; exact h) (hf _).len
 simp only [Value.slice.injEq] at e
 obtain ⟨rfl, e2, rfl⟩ := e
 exact ⟨by simpa using e2, h1⟩
theorem OwnG.more {B : Nat} {w : World} {V : Option Addr} {n vc : Nat} (E : Elem sT eT zv sz bytes) (hf : ∀ l : List α, Fit sz (l.map vals)) (h : OwnG eT sz vals B w (.slice V n vc) l) (p : α) (cells : Array Value) (hc : cells.toList = vals p) (hB : B ≤ w.heap.size) (hl : l.length ≤ 2000) :
  ∃ V' n' vc' w', (Builtin.append_ #[sT, sT] sT #[.slice V n vc, .slice (some ⟨w.heap.size, 0, none⟩) 1 1]).run Try.prog (w.alloc (.cells cells eT)) = .ok (.slice V' n' vc') w' ∧ OwnG eT sz vals B w' (.slice V' n' vc') (l ++ [p]) ∧ Below B w w' := by
 obtain ⟨wd, hwd⟩ : ∃ W, W = w.alloc (.cells cells eT) := ⟨_, rfl⟩
 have hbd : Below w.heap.size w wd := by rw [hwd]; exact below_alloc _ _
 have hnew : Cells wd w.heap.size eT (vals p) := by rw [hwd]; exact cells_new w eT (vals p) _ hc
 have hd := h.later hbd
 have hsl : Sl wd (some ⟨w.heap.size, 0, none⟩) sz ([p].map vals) := cells_sl (by simpa using hnew) fun v hv => (hf [p]).len v hv
 obtain ⟨v', w5, hrun, hrow, hg, hnb⟩ := run_append_rows E wd sT B (.slice V n vc) (l.map vals) ([p].map vals) (some ⟨w.heap.size, 0, none⟩) 1 (hf _) (hf [p])
  (by rw [List.length_map]; exact hd) hsl (fun e => by cases e) (by simp; omega) (by have := hbd.size; omega)
 obtain ⟨V', vc', rfl⟩ := row_slice hrow
 rw [← List.map_append] at hrow hrun hnb
 rw [← hwd]
 refine ⟨V', _, vc', w5, hrun, ?_, (hbd.mono hB).trans ((Only.of_grown hg).below (by have := hbd.size; omega) fun k e => (hd.lt k e.symm).1)⟩
 unfold OwnG
 rw [List.length_map] at hrow ⊢
 exact hrow
end
end Go.Proofs.Ytjeogeablbkhgaa.Mem
