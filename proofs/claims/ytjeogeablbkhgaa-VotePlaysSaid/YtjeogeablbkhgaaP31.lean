/-
  An element of a row of the call's own: read, written, appended. No program's function is named.
  Words for rows of ints: what lies in a slice of ints, a row of the call's own that grows, is written and read. No program's function is named.
  Conditions: none.
-/
import Derived.Test.YtjeogeablbkhgaaP6
import Derived.Test.YtjeogeablbkhgaaP30
import Derived.Lib.Hide
import Derived.Deep.CutBlock
import Derived.OpenShut
import Derived.WalkLawsBesides
import Derived.WalkSpells
import Derived.Handy
namespace Go.Proofs.Ytjeogeablbkhgaa.Mem
set_option maxRecDepth 100000
open Go.RowKit Go.Deep
theorem flatten_set {sz : Nat} {u : Value} : ∀ {vs : List (List Value)}, (∀ v ∈ vs, v.length = sz) → ∀ (k : Nat) (hk : k < vs.length) (j : Nat), j < sz → vs.flatten.set (k * sz + j) u = (vs.set k (vs[k].set j u)).flatten
 | [], _, k, hk, _, _ => by simp at hk
 | v :: vs, h, k, hk, j, hj => by
  have hv := h v List.mem_cons_self
  cases k with
  | zero =>
   rw [List.flatten_cons, Nat.zero_mul, Nat.zero_add, List.set_append_left _ _ (by omega)]
   rfl
  | succ k =>
   rw [List.flatten_cons, List.set_append_right _ _ (by rw [hv, Nat.succ_mul]; omega), show (k + 1) * sz + j - v.length = k * sz + j by rw [hv, Nat.succ_mul]; omega, flatten_set (fun x hx => h x (List.mem_cons_of_mem _ hx)) k (by simpa using hk) j hj]
   rfl
section
variable {α : Type} {eT : TypeId} {sz B g n c : Nat} {vals : α → List Value} {w : World} {l : List α}
/-- An element of a row of the call's own. -/
theorem OwnG.elem {V : Option Addr} (hf : ∀ l : List α, Fit sz (l.map vals)) (h : OwnG eT sz vals B w (.slice V n c) l) {k : Nat} (hk : k < l.length) : ∃ g, V = some ⟨g, 0, none⟩ ∧ CellsO w g (k * sz) (vals l[k]) := by
 unfold OwnG at h
 rcases h.2 with ⟨_, e⟩ | ⟨g, cap, cur, e, k2, k3, k4, k5, k6, k7⟩
 ·omega
 ·simp only [Value.slice.injEq] at e
  obtain ⟨rfl, e2, rfl⟩ := e
  refine ⟨g, rfl, cur, _, 0, 0, k3, fun j u hu => ?_, fun j _ hj => by omega⟩
  have hj : j < sz := by
   have := (List.getElem?_eq_some_iff.1 hu).1
   rwa [(hf [l[k]]).len _ (by simp)] at this
  have e3 := flatten_at (vs := l.map vals) (sz := sz) (hf l).len k (by rw [List.length_map]; exact hk) j hj
  rw [List.getElem_map, hu, ← k7, List.getElem?_take] at e3
  split at e3
  ·simpa using e3
  ·cases e3
/-- A cell of an element is written. -/
theorem OwnG.setC (hf : ∀ l : List α, Fit sz (l.map vals)) (h : OwnG eT sz vals B w (.slice (some ⟨g, 0, none⟩) n c) l) {k j : Nat} (hk : k < l.length) (hj : j < sz) {u : Value} (h1 : u.oneCell' = true) {x : α} (hx : vals x = (vals l[k]).set j u) :
  OwnG eT sz vals B (w.setCell ⟨g, k * sz + j, none⟩ u) (.slice (some ⟨g, 0, none⟩) n c) (l.set k x) := by
 obtain ⟨rfl, _⟩ := OwnG.sl hf h
 unfold OwnG at h ⊢
 have hm : k * sz + sz ≤ l.length * sz := by rw [← Nat.succ_mul]; exact Nat.mul_le_mul_right _ hk
 have hlen := flatten_len (hf l).len
 rw [List.length_map] at hlen
 obtain ⟨r, _, _⟩ := row_put h (o := k * sz + j) (l := [u]) (by simp only [List.length_singleton]; omega) (by simp [h1])
 have e : over (l.map vals).flatten (k * sz + j) [u] = ((l.set k x).map vals).flatten := by
  rw [over_eq, List.length_singleton, List.map_set, hx, ← List.getElem_map (f := vals) (h := by rw [List.length_map]; exact hk), ← flatten_set (hf l).len k (by rw [List.length_map]; exact hk) j hj, List.set_eq_take_append_cons_drop, if_pos (by omega)]
  simp
 rw [e] at r
 rw [List.length_set]
 exact r
end
/-- Append onto a row of the call's own. -/
theorem OwnG.appS {α : Type} {sT eT : TypeId} {zv : Value} {sz bytes : Nat} {vals : α → List Value} {B : Nat} {w : World} {v : Value} {l m : List α} (E : Elem sT eT zv sz bytes) (hf : ∀ l : List α, Fit sz (l.map vals)) (h : OwnG eT sz vals B w v l)
  {A : Option Addr} {c : Nat} (hs : Sl w A sz (m.map vals)) (hA : A = none → c = 0) (hB : B ≤ w.heap.size) (hl : l.length + m.length ≤ 100000) :
  ∃ V' n' c' w', (Builtin.append_ #[sT, sT] sT #[v, .slice A m.length c]).run Try.prog w = .ok (.slice V' n' c') w' ∧ OwnG eT sz vals B w' (.slice V' n' c') (l ++ m) ∧ n' = (l ++ m).length ∧ Only (fun k => v.ownBlock = some k) w w' ∧ ∀ k, blk V' = some k → v.ownBlock = some k ∨ w.heap.size ≤ k := by
 obtain ⟨v', w', hrun, hrow, hg, hnb⟩ := run_append_rows E w sT B v (l.map vals) (m.map vals) A c (hf _) (hf _) (by rw [List.length_map]; exact h) hs hA (by rw [List.length_map, List.length_map]; omega) hB
 obtain ⟨A', c', rfl⟩ := row_slice hrow
 rw [← List.map_append] at hrow hrun hnb
 rw [List.length_map] at hrun hrow
 rw [List.length_map] at hrun
 refine ⟨A', _, c', w', hrun, hrow, rfl, (Only.of_grown hg).mono fun k _ e => e.symm, fun k e => ?_⟩
 rw [own_blk] at hnb
 rcases hnb with e2 | e2
 ·exact Or.inl (e2.symm.trans e)
 ·have e3 : w.heap.size = k := Option.some.inj (e2.symm.trans e)
  exact Or.inr (by omega)
end Go.Proofs.Ytjeogeablbkhgaa.Mem
namespace Go.Proofs.Ytjeogeablbkhgaa.Mem
set_option maxRecDepth 100000
open Go.RowKit Go.Deep
theorem elI : Elem 37 3 (.int .i64 0) 1 8 := ⟨Try.underlying37, by kernel_rfl, rfl, by decide, by decide⟩
/-- A number as one cell. -/
def fv {α : Type} (f : α → Int) (x : α) : List Value := [.int .i64 (f x)]
theorem fit_fv {α : Type} (f : α → Int) (l : List α) : Fit 1 (l.map (fv f)) := ⟨fun v hv => by obtain ⟨x, _, rfl⟩ := List.mem_map.1 hv; rfl, fun v hv u hu => by
 obtain ⟨x, _, rfl⟩ := List.mem_map.1 hv
 unfold fv at hu
 simp only [List.mem_cons, List.not_mem_nil, or_false] at hu
 subst hu
 rfl⟩
/-- These ints lie in the slice at A. -/
def IRow (w : World) (A : Option Addr) (l : List Int) : Prop := ∀ k (h : k < l.length), ∃ g off, A = some ⟨g, off, none⟩ ∧ w.cell? ⟨g, off + k, none⟩ = some (.int .i64 l[k])
theorem IRow.nil (w : World) (A : Option Addr) : IRow w A [] := fun k hk => absurd hk (by simp)
section
variable {α : Type} {f : α → Int} {w w' : World} {B n c : Nat} {A : Option Addr} {l : List α}
theorem IRow.later {l : List Int} (h : IRow w A l) (hb : Below w.heap.size w w') : IRow w' A l := fun k hk => by
 obtain ⟨g, off, e, hc⟩ := h k hk
 exact ⟨g, off, e, (hb.cell (block_of_cell hc)).trans hc⟩
theorem OwnG.irow (h : OwnG 3 1 (fv f) B w (.slice A n c) l) : n = l.length ∧ IRow w A (l.map f) := by
 obtain ⟨e, hs⟩ := OwnG.sl (fit_fv f) h
 refine ⟨e, fun k hk => ?_⟩
 rw [List.length_map] at hk
 obtain ⟨g, off, e, hr⟩ := hs k (by rw [List.length_map]; exact hk)
 rw [List.getElem_map] at hr
 have h0 := hr 0 _ rfl
 rw [Nat.mul_one, Nat.add_zero] at h0
 exact ⟨g, off, e, by rw [List.getElem_map]; exact h0⟩
theorem OwnG.up {eT : TypeId} {sz : Nat} {vals : α → List Value} {v : Value} {B' : Nat} (hb : B ≤ B') (h : OwnG eT sz vals B' w v l) : OwnG eT sz vals B w v l := own_up hb h
theorem OwnG.lt {eT : TypeId} {sz : Nat} {vals : α → List Value} {v : Value} (h : OwnG eT sz vals B w v l) {k : Nat} (hk : v.ownBlock = some k) : B ≤ k ∧ k < w.heap.size := World.ownsRow.lt h k hk
theorem OwnG.only {eT : TypeId} {sz : Nat} {vals : α → List Value} {v : Value} {S : Nat → Prop} (h : OwnG eT sz vals B w v l) (ho : Only S w w') (hn : ∀ k, v.ownBlock = some k → ¬ S k) : OwnG eT sz vals B w' v l := row_only h ho hn
end
end Go.Proofs.Ytjeogeablbkhgaa.Mem
