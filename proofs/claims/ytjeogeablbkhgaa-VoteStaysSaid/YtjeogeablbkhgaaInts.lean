/-
  Words for rows of ints: what lies in a slice of ints, a row of the call's own that grows, is written and read. No program's function is named. Conditions: none.
-/
import Derived.Test.YtjeogeablbkhgaaApp
import Derived.Lib.Hide
import Derived.Deep.CutBlock
import Derived.OpenShut
import Derived.WalkLawsBesides
import Derived.WalkSpells
import Derived.Handy
namespace Go.Proofs.Ytjeogeablbkhgaa.Mem
set_option maxRecDepth 100000
open Go.RowKit Go.Deep

theorem elI : Elem 37 3 (.int .i64 0) 1 8 := ⟨Try.underlying37, by kernel_rfl, rfl, by decide, by decide⟩
/-- A number as one cell. -/
def fv {α : Type} (f : α → Int) (x : α) : List Value := [.int .i64 (f x)]
theorem fit_fv {α : Type} (f : α → Int) (l : List α) : Fit 1 (l.map (fv f)) := ⟨fun v hv => by obtain ⟨x, _, rfl⟩ := List.mem_map.1 hv; rfl, fun v hv u hu => by
  obtain ⟨x, _, rfl⟩ := List.mem_map.1 hv
  unfold fv at hu
  simp only [List.mem_cons, List.not_mem_nil, or_false] at hu
  subst hu
  rfl⟩
/-- These ints lie in the slice at A. -/
def IRow (w : World) (A : Option Addr) (l : List Int) : Prop := ∀ k (h : k < l.length), ∃ g off, A = some ⟨g, off, none⟩ ∧ w.cell? ⟨g, off + k, none⟩ = some (.int .i64 l[k])
theorem IRow.nil (w : World) (A : Option Addr) : IRow w A [] := fun k hk => absurd hk (by simp)
section
variable {α : Type} {f : α → Int} {w w' : World} {B n c : Nat} {A : Option Addr} {l : List α}
theorem IRow.later {l : List Int} (h : IRow w A l) (hb : Below w.heap.size w w') : IRow w' A l := fun k hk => by
  obtain ⟨g, off, e, hc⟩ := h k hk
  exact ⟨g, off, e, (hb.cell (block_of_cell hc)).trans hc⟩
theorem OwnG.irow (h : OwnG 3 1 (fv f) B w (.slice A n c) l) : n = l.length ∧ IRow w A (l.map f) := by
  obtain ⟨e, hs⟩ := OwnG.sl (fit_fv f) h
  refine ⟨e, fun k hk => ?_⟩
  rw [List.length_map] at hk
  obtain ⟨g, off, e, hr⟩ := hs k (by rw [List.length_map]; exact hk)
  rw [List.getElem_map] at hr
  have h0 := hr 0 _ rfl
  rw [Nat.mul_one, Nat.add_zero] at h0
  exact ⟨g, off, e, by rw [List.getElem_map]; exact h0⟩
theorem OwnG.islice {v : Value} (h : OwnG 3 1 (fv f) B w v l) : ∃ A c, v = .slice A l.length c ∧ IRow w A (l.map f) ∧ Sl w A 1 (l.map (fv f)) ∧ (A = none → c = 0) := by
  have h0 := h
  unfold OwnG at h
  obtain ⟨A, c, e, h1, h2, _⟩ := own_sl (vs := l.map (fv f)) (by rw [List.length_map]; exact h) (fit_fv f l).len
  rw [List.length_map] at e
  subst e
  exact ⟨A, c, rfl, (OwnG.irow h0).2, h1, h2⟩
theorem OwnG.up {eT : TypeId} {sz : Nat} {vals : α → List Value} {v : Value} {B' : Nat} (hb : B ≤ B') (h : OwnG eT sz vals B' w v l) : OwnG eT sz vals B w v l := own_up hb h
theorem OwnG.lt {eT : TypeId} {sz : Nat} {vals : α → List Value} {v : Value} (h : OwnG eT sz vals B w v l) {k : Nat} (hk : v.ownBlock = some k) : B ≤ k ∧ k < w.heap.size := World.ownsRow.lt h k hk
theorem OwnG.only {eT : TypeId} {sz : Nat} {vals : α → List Value} {v : Value} {S : Nat → Prop} (h : OwnG eT sz vals B w v l) (ho : Only S w w') (hn : ∀ k, v.ownBlock = some k → ¬ S k) : OwnG eT sz vals B w' v l := row_only h ho hn
/-- One more number is put behind a row: the new slice of one is made, then appended; only the row's block turns. -/
theorem OwnG.iapp (h : OwnG 3 1 (fv f) B w (.slice A n c) l) (p : α) (hB : B ≤ w.heap.size) (hl : l.length ≤ 2000) :
    ∃ A' n' c' w', (Builtin.append_ #[37, 37] 37 #[.slice A n c, .slice (some ⟨w.heap.size, 0, none⟩) 1 1]).run Try.prog (w.alloc (.cells #[.int .i64 (f p)] 3)) = .ok (.slice A' n' c') w' ∧ OwnG 3 1 (fv f) B w' (.slice A' n' c') (l ++ [p]) ∧ Only (fun k => some k = blk A) w w' ∧ ∀ k, blk A' = some k → some k = blk A ∨ w.heap.size ≤ k := by
  obtain ⟨wd, hwd⟩ : ∃ W, W = w.alloc (.cells #[.int .i64 (f p)] 3) := ⟨_, rfl⟩
  have hbd : Below w.heap.size w wd := by rw [hwd]; exact below_alloc _ _
  have hnew : Cells wd w.heap.size 3 (fv f p) := by rw [hwd]; exact cells_new w 3 (fv f p) _ rfl
  have hd := h.later hbd
  have hsl : Sl wd (some ⟨w.heap.size, 0, none⟩) 1 ([p].map (fv f)) := cells_sl (by simpa using hnew) fun v hv => (fit_fv f [p]).len v hv
  obtain ⟨v', w5, hrun, hrow, hg, hnb⟩ := run_append_rows elI wd 37 B (.slice A n c) (l.map (fv f)) ([p].map (fv f)) (some ⟨w.heap.size, 0, none⟩) 1 (fit_fv f _) (fit_fv f [p])
    (by rw [List.length_map]; exact hd) hsl (fun e => by cases e) (by simp; omega) (by have := hbd.size; omega)
  obtain ⟨A', c', rfl⟩ := row_slice hrow
  rw [← List.map_append] at hrow hrun hnb
  rw [← hwd]
  have ho := Only.of_grown hg
  rw [own_blk] at ho
  rw [own_blk, own_blk] at hnb
  refine ⟨A', _, c', w5, hrun, ?_, (Only.of_below hbd).trans ho fun _ _ e => e, fun k e => ?_⟩
  · unfold OwnG
    rw [List.length_map] at hrow ⊢
    exact hrow
  · rcases hnb with e2 | e2
    · exact Or.inl (by rw [← e2, e])
    · have e3 : k = wd.heap.size := by rw [e] at e2; exact Option.some.inj e2
      have := hbd.size
      exact Or.inr (by omega)
/-- A row is put behind another one. -/
theorem OwnG.icat {m : List α} {A2 : Option Addr} {c2 : Nat} (h : OwnG 3 1 (fv f) B w (.slice A n c) l) (hs : Sl w A2 1 (m.map (fv f))) (hA : A2 = none → c2 = 0) (hB : B ≤ w.heap.size) (hl : l.length + m.length ≤ 2000) :
    ∃ A' n' c' w', (Builtin.append_ #[37, 37] 37 #[.slice A n c, .slice A2 m.length c2]).run Try.prog w = .ok (.slice A' n' c') w' ∧ OwnG 3 1 (fv f) B w' (.slice A' n' c') (l ++ m) ∧ Only (fun k => some k = blk A) w w' ∧ ∀ k, blk A' = some k → some k = blk A ∨ w.heap.size ≤ k := by
  obtain ⟨v', w5, hrun, hrow, hg, hnb⟩ := run_append_rows elI w 37 B (.slice A n c) (l.map (fv f)) (m.map (fv f)) A2 c2 (fit_fv f _) (fit_fv f _)
    (by rw [List.length_map]; exact h) hs hA (by simp; omega) hB
  obtain ⟨A', c', rfl⟩ := row_slice hrow
  rw [← List.map_append] at hrow hrun hnb
  rw [List.length_map] at hrun
  have ho := Only.of_grown hg
  rw [own_blk] at ho
  rw [own_blk, own_blk] at hnb
  refine ⟨A', _, c', w5, hrun, ?_, ho, fun k e => ?_⟩
  · unfold OwnG
    rw [List.length_map] at hrow ⊢
    exact hrow
  · rcases hnb with e2 | e2
    · exact Or.inl (by rw [← e2, e])
    · rw [e] at e2
      exact Or.inr (Nat.le_of_eq (Option.some.inj e2).symm)
/-- A number of a row of the call's own: where it is; it can be written. -/
theorem OwnG.icell (h : OwnG 3 1 (fv f) B w (.slice A n c) l) {k : Nat} (hk : k < l.length) : ∃ g, A = some ⟨g, 0, none⟩ ∧ B ≤ g ∧ w.cell? ⟨g, k, none⟩ = some (.int .i64 (f l[k])) ∧ w.frozen? ⟨g, k, none⟩ = false := by
  have hn := (OwnG.irow h).1
  subst hn
  have h0 := h
  unfold OwnG at h
  rcases h.2 with ⟨_, e⟩ | ⟨g, cap, cur, e, k2, k3, k4, k5, k6, k7⟩
  · omega
  · simp only [Value.slice.injEq] at e
    obtain ⟨rfl, _, rfl⟩ := e
    obtain ⟨hc, _, hg⟩ := cells_of_own h
    have e3 := flatten_at (vs := l.map (fv f)) (sz := 1) (fit_fv f l).len k (by rw [List.length_map]; exact hk) 0 (by omega)
    rw [List.getElem_map, Nat.mul_one, Nat.add_zero] at e3
    refine ⟨g, rfl, hg, hc.cell (e3.trans rfl), hc.frozen ?_⟩
    rw [flatten_len (fit_fv f l).len, List.length_map]
    omega
theorem OwnG.iset {g : Nat} (h : OwnG 3 1 (fv f) B w (.slice (some ⟨g, 0, none⟩) n c) l) {k : Nat} (hk : k < l.length) (x : α) :
    OwnG 3 1 (fv f) B (w.setCell ⟨g, k, none⟩ (.int .i64 (f x))) (.slice (some ⟨g, 0, none⟩) n c) (l.set k x) ∧ Only (fun i => i = g) w (w.setCell ⟨g, k, none⟩ (.int .i64 (f x))) := by
  obtain ⟨rfl, _⟩ := OwnG.irow h
  refine ⟨?_, Only.of_set w ⟨g, k, none⟩ _⟩
  unfold OwnG at h ⊢
  have hlen := flatten_len (fit_fv f l).len
  rw [List.length_map] at hlen
  obtain ⟨r, _, _⟩ := row_put h (o := k) (l := [.int .i64 (f x)]) (by simp only [List.length_singleton]; omega) (by simp [Value.oneCell'])
  have e : over (l.map (fv f)).flatten k [.int .i64 (f x)] = ((l.set k x).map (fv f)).flatten := by
    have h2 := over_at (sz := 1) (k := k) (vs := l.map (fv f)) (x := fv f x) (fit_fv f l).len rfl (by rw [List.length_map]; exact hk)
    rw [Nat.mul_one] at h2
    rw [List.map_set]
    exact h2
  rw [e] at r
  rw [List.length_set]
  exact r
end
end Go.Proofs.Ytjeogeablbkhgaa.Mem
