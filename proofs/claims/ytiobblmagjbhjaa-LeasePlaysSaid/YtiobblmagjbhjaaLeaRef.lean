/-
  Layer 18: the document's table in memory. Conditions: none.
-/
import Derived.Test.YtiobblmagjbhjaaLeaAwk
import Derived.Test.YtiobblmagjbhjaaApp
import Derived.Test.YtiobblmagjbhjaaReg4
import Derived.Test.YtiobblmagjbhjaaRow
import Derived.Lib.Hide
import Derived.Deep.CutBlock
import Derived.OpenShut
import Derived.WalkLawsBesides
import Derived.WalkSpells
import Derived.Handy
namespace Go.Proofs.Ytiobblmagjbhjaa.Lea
set_option maxRecDepth 100000
open Go.RowKit Go.Deep Go.Proofs.Ytiobblmagjbhjaa.Mem

theorem below_dr (w : World) (n : Nat) : Below w.heap.size w (w.drewN n) := (Below.refl _ w).trans ⟨rfl, rfl, rfl, Nat.le_refl _, fun _ _ => rfl⟩
/-- The document's table, without memory. -/
structure Rt where
  cells : Int
  l : List Dh
/-- A table is there (of struct type sT, its entries of type eT): its struct lies in block rb, its entries at A. -/
structure LxAt (sT eT : TypeId) (B : Nat) (w : World) (rb : Nat) (R : Rt) (A : Option Addr) (ac : Nat) : Prop where
  cel : Cells w rb sT [.int .i64 R.cells, .slice A R.l.length ac]
  row : w.ownsRow B eT 5 (.slice A R.l.length ac) R.l.length (R.l.map Dh.vals).flatten
  low : B ≤ rb
  nA : ∀ k, (Value.slice A R.l.length ac).ownBlock = some k → k ≠ rb
  len : R.l.length ≤ 16
def lfoot (rb : Nat) (A : Option Addr) (k : Nat) : Prop := k = rb ∨ some k = blk A
/-- What a call does: what is written lies in the struct's block or in its row; its new row is the elder one or lies in new memory. -/
def LxStep (sT eT : TypeId) (B rb : Nat) (A : Option Addr) (w : World) (R' : Rt) (w' : World) : Prop :=
  ∃ A' ac', LxAt sT eT B w' rb R' A' ac' ∧ Only (lfoot rb A) w w' ∧ ∀ k, some k = blk A' → some k = blk A ∨ w.heap.size ≤ k
section
variable {sT eT : TypeId} {B rb ac : Nat} {w w1 w' : World} {R R' : Rt} {A A1 : Option Addr}
theorem LxAt.only {S : Nat → Prop} (h : LxAt sT eT B w rb R A ac) (ho : Only S w w') (h1 : ¬ S rb) (h2 : ∀ k, (Value.slice A R.l.length ac).ownBlock = some k → ¬ S k) : LxAt sT eT B w' rb R A ac :=
  ⟨cells_only h.cel ho h1, row_only h.row ho h2, h.low, h.nA, h.len⟩
theorem LxAt.later (h : LxAt sT eT B w rb R A ac) (hb : Below w.heap.size w w') : LxAt sT eT B w' rb R A ac := h.only (Only.of_below (S := fun _ => False) hb) (fun e => e) fun _ _ e => e
theorem LxAt.sl (h : LxAt sT eT B w rb R A ac) : Sl w A 5 (R.l.map Dh.vals) := by
  obtain ⟨A', c', e, h1, h2, _⟩ := own_sl (vs := R.l.map Dh.vals) (by rw [List.length_map]; exact h.row) (fit_dh _).len
  simp only [Value.slice.injEq] at e
  obtain ⟨rfl, _, rfl⟩ := e
  exact h1
/-- An entry that stands there; the slice has a block then. -/
theorem LxAt.at (h : LxAt sT eT B w rb R A ac) {k : Nat} (hk : k < R.l.length) : ∃ g, A = some ⟨g, 0, none⟩ ∧ w.rangeAt g (k * 5) (R.l[k]).vals ∧ R.l.length ≤ ac := by
  obtain ⟨A', c', e, h1, h2, _⟩ := own_sl (vs := R.l.map Dh.vals) (by rw [List.length_map]; exact h.row) (fit_dh _).len
  rcases h.row.2 with ⟨e0, e1⟩ | ⟨g, cap, cur, e0, k2, k3, k4, _⟩
  · omega
  · simp only [Value.slice.injEq] at e0
    obtain ⟨rfl, _, rfl⟩ := e0
    obtain ⟨hc, _⟩ := cells_of_own h.row
    refine ⟨g, rfl, fun j v hv => hc.cell ?_, k4⟩
    have hj : j < 5 := (List.getElem?_eq_some_iff.1 hv).1
    rw [flatten_at (sz := 5) (fit_dh R.l).len k (by rw [List.length_map]; exact hk) j hj, List.getElem_map]
    exact hv
/-- What lies behind the place i. -/
theorem LxAt.behind {g i : Nat} (h : LxAt sT eT B w rb R (some ⟨g, 0, none⟩) ac) (hi : i < R.l.length) : R.l.length ≤ ac ∧ ∃ AD : Addr, (if ac = i + 1 then some ⟨g, 0, none⟩ else some ⟨g, (i + 1) * 5, none⟩ : Option Addr) = some AD ∧ ∀ wi, Below w.heap.size w wi → Sl wi (some AD) 5 ((R.l.drop (i + 1)).map Dh.vals) := by
  have hac := (cells_of_own h.row).2.1
  refine ⟨hac, ?_⟩
  by_cases he : ac = i + 1
  · refine ⟨_, if_pos he, fun wi hb => ?_⟩
    have h0 : R.l.drop (i + 1) = [] := List.drop_eq_nil_iff.2 (by omega)
    rw [h0]
    exact sl_nil _ _ _
  · refine ⟨_, if_neg he, fun wi hb => ?_⟩
    have := sl_drop' (h.later hb).sl (i + 1)
    rw [Nat.zero_add] at this
    rw [List.map_drop]
    exact this
theorem LxAt.lt (h : LxAt sT eT B w rb R A ac) {k : Nat} (e : lfoot rb A k) : B ≤ k ∧ k < w.heap.size := by
  rcases e with e | e
  · rw [e]; exact ⟨h.low, h.cel.lt⟩
  · exact h.row.lt k (by rw [own_blk]; exact e.symm)
theorem LxStep.same (h : LxAt sT eT B w rb R A ac) (hb : Below w.heap.size w w') : LxStep sT eT B rb A w R w' := ⟨A, ac, h.later hb, Only.of_below hb, fun _ e => Or.inl e⟩
theorem LxStep.before (hb : Below w.heap.size w w1) (h : LxStep sT eT B rb A w1 R w') : LxStep sT eT B rb A w R w' := by
  obtain ⟨A', ac', k1, k2, k3⟩ := h
  exact ⟨A', ac', k1, (Only.of_below hb).trans k2 fun _ _ e => e, fun k e => (k3 k e).imp_right fun h => Nat.le_trans hb.size h⟩
theorem LxStep.after (h : LxStep sT eT B rb A w R w1) (hb : Below w1.heap.size w1 w') : LxStep sT eT B rb A w R w' := by
  obtain ⟨A', ac', k1, k2, k3⟩ := h
  exact ⟨A', ac', k1.later hb, k2.trans (S' := fun _ => False) (Only.of_below hb) fun _ _ e => e.elim, k3⟩
theorem LxStep.below (h : LxStep sT eT B rb A w R' w') (hr : LxAt sT eT B w rb R A ac) (hb : B ≤ w.heap.size) : Below B w w' := by
  obtain ⟨A', ac', _, k2, _⟩ := h
  exact k2.below hb fun k e => (hr.lt e).1
theorem LxStep.next (ho : Only (lfoot rb A) w w1) (hg : ∀ k, some k = blk A1 → some k = blk A ∨ w.heap.size ≤ k) (h : LxStep sT eT B rb A1 w1 R' w') : LxStep sT eT B rb A w R' w' := by
  obtain ⟨A', ac', k1, k2, k3⟩ := h
  refine ⟨A', ac', k1, ho.trans k2 fun k hk e => ?_, fun k e => ?_⟩
  · rcases e with e | e
    · exact Or.inl e
    · rcases hg k e with e2 | e2
      · exact Or.inr e2
      · omega
  · rcases k3 k e with e | e
    · exact hg k e
    · exact Or.inr (Nat.le_trans ho.size e)
/-- A step, then another one. -/
theorem LxStep.trans (h : LxStep sT eT B rb A w R w1) (hn : ∀ A1 c1, LxAt sT eT B w1 rb R A1 c1 → LxStep sT eT B rb A1 w1 R' w') : LxStep sT eT B rb A w R' w' := by
  obtain ⟨A1, c1, k1, k2, k3⟩ := h
  exact LxStep.next k2 k3 (hn A1 c1 k1)
/-- New entries are put in. -/
theorem LxAt.put (h : LxAt sT eT B w rb R A ac) {l : List Dh} {A2 : Option Addr} {c2 : Nat} (hrow : w1.ownsRow B eT 5 (.slice A2 l.length c2) l.length (l.map Dh.vals).flatten) (ho : Only (fun k => some k = blk A) w w1) (hg : ∀ k, blk A2 = some k → some k = blk A ∨ w.heap.size ≤ k) (hl : l.length ≤ 16) :
    w1.cell? ⟨rb, 1, none⟩ = some (.slice A R.l.length ac) ∧ w1.frozen? ⟨rb, 1, none⟩ = false ∧ LxStep sT eT B rb A w { R with l := l } (w1.setCell ⟨rb, 1, none⟩ (.slice A2 l.length c2)) := by
  have hrb := h.cel.lt
  have hc := cells_only h.cel ho fun e => h.nA rb (by rw [own_blk]; exact e.symm) rfl
  have hne : ∀ k, blk A2 = some k → k ≠ rb := fun k e e2 => by
    rcases hg k e with e3 | e3
    · exact h.nA k (by rw [own_blk]; exact e3.symm) e2
    · omega
  refine ⟨hc.cell (j := 1) rfl, hc.frozen (j := 1) (by simp), A2, c2, ⟨hc.set_ 1 _, row_only hrow (Only.of_set w1 ⟨rb, 1, none⟩ _) fun k hk e => hne k (by rw [own_blk] at hk; exact hk) e, h.low, fun k hk e => hne k (by rw [own_blk] at hk; exact hk) e, hl⟩, ?_, fun k e => hg k e.symm⟩
  exact (ho.mono fun k _ e => Or.inr e).trans ((Only.of_set w1 ⟨rb, 1, none⟩ _).mono (S' := lfoot rb A) fun k _ e => Or.inl e) fun _ _ e => e
/-- A new list of entries, in new memory, is put in. -/
theorem LxAt.newL (h : LxAt sT eT B w rb R A ac) {v : Value} {l : List Dh} (hB : B ≤ w.heap.size) (hb : Below w.heap.size w w1) (hr : w1.ownsRow w.heap.size eT 5 v l.length (l.map Dh.vals).flatten) (hl : l.length ≤ 16) :
    LxStep sT eT B rb A w { R with l := l } (w1.setCell ⟨rb, 1, none⟩ v) := by
  obtain ⟨A', ac', rfl⟩ := row_slice hr
  exact (h.put (own_up hB hr) (Only.of_below hb) (fun k e => Or.inr (hr.lt k (by rw [own_blk]; exact e)).1) hl).2.2
theorem LxAt.own (h : LxAt sT eT B w rb R A ac) : OwnG eT 5 Dh.vals B w (.slice A R.l.length ac) R.l := h.row
/-- A hold's time is written. -/
theorem LxAt.til {g : Nat} (h : LxAt sT eT B w rb R (some ⟨g, 0, none⟩) ac) (hb : Below w.heap.size w w1) {k : Nat} (hk : k < R.l.length) (u : Int) :
    LxStep sT eT B rb (some ⟨g, 0, none⟩) w { R with l := R.l.set k ⟨R.l[k].cell, R.l[k].tid, u⟩ } (w1.setCell ⟨g, k * 5 + 4, none⟩ (.int .i64 u)) := by
  have h1 := h.later hb
  have hs := OwnG.setC fit_dh h1.own (j := 4) (u := .int .i64 u) hk (by omega) rfl (x := ⟨R.l[k].cell, R.l[k].tid, u⟩) rfl
  have ho := Only.of_set w1 ⟨g, k * 5 + 4, none⟩ (.int .i64 u)
  have hne : g ≠ rb := h.nA g rfl
  refine ⟨some ⟨g, 0, none⟩, ac, ⟨?_, ?_, h.low, ?_, by rw [List.length_set]; exact h.len⟩, (Only.of_below hb).trans (ho.mono fun k _ e => Or.inr (by rw [e]; rfl)) fun _ _ e => e, fun k e => Or.inl e⟩
  · rw [List.length_set]
    exact cells_only h1.cel ho fun e => hne e.symm
  · rw [List.length_set]
    unfold OwnG at hs
    rw [List.length_set] at hs
    exact hs
  · rw [List.length_set]
    exact h.nA
/-- What lies from the place k on. -/
theorem LxAt.from {g k : Nat} (h : LxAt sT eT B w rb R (some ⟨g, 0, none⟩) ac) (hk : k ≤ R.l.length) : R.l.length ≤ ac ∧ ∃ AD : Addr, (if ac = k then some ⟨g, 0, none⟩ else some ⟨g, k * 5, none⟩ : Option Addr) = some AD ∧ ∀ wi, Below w.heap.size w wi → Sl wi (some AD) 5 ((R.l.drop k).map Dh.vals) := by
  have hac := (cells_of_own h.row).2.1
  refine ⟨hac, ?_⟩
  by_cases he : ac = k
  · refine ⟨_, if_pos he, fun wi hb => ?_⟩
    have h0 : R.l.drop k = [] := List.drop_eq_nil_iff.2 (by omega)
    rw [h0]
    exact sl_nil _ _ _
  · refine ⟨_, if_neg he, fun wi hb => ?_⟩
    have := sl_drop' (h.later hb).sl k
    rw [Nat.zero_add] at this
    rw [List.map_drop]
    exact this
end
end Go.Proofs.Ytiobblmagjbhjaa.Lea
