/-
  Layer 17: a cache in memory, the code's or the document's. Conditions: none.
-/
import Derived.Test.YteedlenelfidcaaCacM
import Derived.Test.YteedlenelfidcaaApp
import Derived.Test.YteedlenelfidcaaReg4
import Derived.Test.YteedlenelfidcaaRow
import Derived.Lib.Hide
import Derived.Deep.CutBlock
import Derived.OpenShut
import Derived.WalkLawsBesides
import Derived.WalkSpells
import Derived.Handy
namespace Go.Proofs.Yteedlenelfidcaa.Cac
set_option maxRecDepth 100000
open Go.RowKit Go.Deep Go.Proofs.Yteedlenelfidcaa.Mem

/-- A cache is there (of struct type sT, its entries of type eT): its struct lies in block rb, its entries at A. -/
structure CxAt (sT eT : TypeId) (B : Nat) (w : World) (rb : Nat) (R : Cc) (A : Option Addr) (ac : Nat) : Prop where
  cel : Cells w rb sT [.int .i64 R.room, .slice A R.l.length ac]
  row : w.ownsRow B eT 4 (.slice A R.l.length ac) R.l.length (R.l.map En.vals).flatten
  low : B ≤ rb
  nA : ∀ k, (Value.slice A R.l.length ac).ownBlock = some k → k ≠ rb
  len : R.l.length ≤ 16
def cfoot (rb : Nat) (A : Option Addr) (k : Nat) : Prop := k = rb ∨ some k = blk A
/-- What a call does: what is written lies in the struct's block or in its row; its new row is the elder one or lies in new memory. -/
def CxStep (sT eT : TypeId) (B rb : Nat) (A : Option Addr) (w : World) (R' : Cc) (w' : World) : Prop :=
  ∃ A' ac', CxAt sT eT B w' rb R' A' ac' ∧ Only (cfoot rb A) w w' ∧ ∀ k, some k = blk A' → some k = blk A ∨ w.heap.size ≤ k
/-- New entries are made, and not yet put in. -/
def PendE (eT : TypeId) (B : Nat) (we : World) (A : Option Addr) (l : List En) (v : Value) (W : World) : Prop :=
  ∃ A2 c2, v = .slice A2 l.length c2 ∧ W.ownsRow B eT 4 (.slice A2 l.length c2) l.length (l.map En.vals).flatten ∧ Only (fun k => some k = blk A) we W ∧ ∀ k, blk A2 = some k → some k = blk A ∨ we.heap.size ≤ k
section
variable {sT eT : TypeId} {B rb ac : Nat} {w w1 w' : World} {R R' : Cc} {A A1 : Option Addr}
theorem CxAt.only {S : Nat → Prop} (h : CxAt sT eT B w rb R A ac) (ho : Only S w w') (h1 : ¬ S rb) (h2 : ∀ k, (Value.slice A R.l.length ac).ownBlock = some k → ¬ S k) : CxAt sT eT B w' rb R A ac :=
  ⟨cells_only h.cel ho h1, row_only h.row ho h2, h.low, h.nA, h.len⟩
theorem CxAt.later (h : CxAt sT eT B w rb R A ac) (hb : Below w.heap.size w w') : CxAt sT eT B w' rb R A ac := h.only (Only.of_below (S := fun _ => False) hb) (fun e => e) fun _ _ e => e
theorem CxAt.sl (h : CxAt sT eT B w rb R A ac) : Sl w A 4 (R.l.map En.vals) := by
  obtain ⟨A', c', e, h1, h2, _⟩ := own_sl (vs := R.l.map En.vals) (by rw [List.length_map]; exact h.row) (fit_es _).len
  simp only [Value.slice.injEq] at e
  obtain ⟨rfl, _, rfl⟩ := e
  exact h1
/-- An entry that stands there; the slice has a block then. -/
theorem CxAt.at (h : CxAt sT eT B w rb R A ac) {k : Nat} (hk : k < R.l.length) : ∃ g, A = some ⟨g, 0, none⟩ ∧ w.rangeAt g (k * 4) (R.l[k]).vals ∧ R.l.length ≤ ac := by
  obtain ⟨A', c', e, h1, h2, _⟩ := own_sl (vs := R.l.map En.vals) (by rw [List.length_map]; exact h.row) (fit_es _).len
  rcases h.row.2 with ⟨e0, e1⟩ | ⟨g, cap, cur, e0, k2, k3, k4, _⟩
  · omega
  · simp only [Value.slice.injEq] at e0
    obtain ⟨rfl, _, rfl⟩ := e0
    obtain ⟨hc, _⟩ := cells_of_own h.row
    refine ⟨g, rfl, fun j v hv => hc.cell ?_, k4⟩
    have hj : j < 4 := (List.getElem?_eq_some_iff.1 hv).1
    rw [flatten_at (sz := 4) (fit_es R.l).len k (by rw [List.length_map]; exact hk) j hj, List.getElem_map]
    exact hv
/-- What lies behind the place i. -/
theorem CxAt.behind {g i : Nat} (h : CxAt sT eT B w rb R (some ⟨g, 0, none⟩) ac) (hi : i < R.l.length) : R.l.length ≤ ac ∧ ∃ AD : Addr, (if ac = i + 1 then some ⟨g, 0, none⟩ else some ⟨g, (i + 1) * 4, none⟩ : Option Addr) = some AD ∧ ∀ wi, Below w.heap.size w wi → Sl wi (some AD) 4 ((R.l.drop (i + 1)).map En.vals) := by
  have hac := (cells_of_own h.row).2.1
  refine ⟨hac, ?_⟩
  by_cases he : ac = i + 1
  · refine ⟨_, if_pos he, fun wi hb => ?_⟩
    have h0 : R.l.drop (i + 1) = [] := List.drop_eq_nil_iff.2 (by omega)
    rw [h0]
    exact sl_nil _ _ _
  · refine ⟨_, if_neg he, fun wi hb => ?_⟩
    have := sl_drop' (h.later hb).sl (i + 1)
    rw [Nat.zero_add] at this
    rw [List.map_drop]
    exact this
theorem CxAt.lt (h : CxAt sT eT B w rb R A ac) {k : Nat} (e : cfoot rb A k) : B ≤ k ∧ k < w.heap.size := by
  rcases e with e | e
  · rw [e]; exact ⟨h.low, h.cel.lt⟩
  · exact h.row.lt k (by rw [own_blk]; exact e.symm)
theorem CxStep.same (h : CxAt sT eT B w rb R A ac) (hb : Below w.heap.size w w') : CxStep sT eT B rb A w R w' := ⟨A, ac, h.later hb, Only.of_below hb, fun _ e => Or.inl e⟩
theorem CxStep.before (hb : Below w.heap.size w w1) (h : CxStep sT eT B rb A w1 R w') : CxStep sT eT B rb A w R w' := by
  obtain ⟨A', ac', k1, k2, k3⟩ := h
  exact ⟨A', ac', k1, (Only.of_below hb).trans k2 fun _ _ e => e, fun k e => (k3 k e).imp_right fun h => Nat.le_trans hb.size h⟩
theorem CxStep.after (h : CxStep sT eT B rb A w R w1) (hb : Below w1.heap.size w1 w') : CxStep sT eT B rb A w R w' := by
  obtain ⟨A', ac', k1, k2, k3⟩ := h
  exact ⟨A', ac', k1.later hb, k2.trans (S' := fun _ => False) (Only.of_below hb) fun _ _ e => e.elim, k3⟩
theorem CxStep.below (h : CxStep sT eT B rb A w R' w') (hr : CxAt sT eT B w rb R A ac) (hb : B ≤ w.heap.size) : Below B w w' := by
  obtain ⟨A', ac', _, k2, _⟩ := h
  exact k2.below hb fun k e => (hr.lt e).1
theorem CxStep.next (ho : Only (cfoot rb A) w w1) (hg : ∀ k, some k = blk A1 → some k = blk A ∨ w.heap.size ≤ k) (h : CxStep sT eT B rb A1 w1 R' w') : CxStep sT eT B rb A w R' w' := by
  obtain ⟨A', ac', k1, k2, k3⟩ := h
  refine ⟨A', ac', k1, ho.trans k2 fun k hk e => ?_, fun k e => ?_⟩
  · rcases e with e | e
    · exact Or.inl e
    · rcases hg k e with e2 | e2
      · exact Or.inr e2
      · omega
  · rcases k3 k e with e | e
    · exact hg k e
    · exact Or.inr (Nat.le_trans ho.size e)
/-- A step, then another one. -/
theorem CxStep.trans (h : CxStep sT eT B rb A w R w1) (hn : ∀ A1 c1, CxAt sT eT B w1 rb R A1 c1 → CxStep sT eT B rb A1 w1 R' w') : CxStep sT eT B rb A w R' w' := by
  obtain ⟨A1, c1, k1, k2, k3⟩ := h
  exact CxStep.next k2 k3 (hn A1 c1 k1)
/-- A variable of the call's own is written into besides. -/
theorem CxStep.aside {wb wf : World} (h : CxAt sT eT B w rb R A ac) (hb : Below w.heap.size w wb) (hs : CxStep sT eT B rb A wb R' wf) {b : Nat} (h1 : w.heap.size ≤ b) (h2 : b < wb.heap.size) (ho : Only (fun k => k = b) wf w') : CxStep sT eT B rb A w R' w' := by
  obtain ⟨A', ac', k1, k2, k3⟩ := hs
  have hr := h.cel.lt
  refine ⟨A', ac', k1.only ho (fun e => by omega) (fun k hk e => ?_), ((Only.of_below hb).trans k2 fun _ _ e => e).trans2 ho (fun i e => by omega), fun k e => (k3 k e).imp_right fun q => Nat.le_trans hb.size q⟩
  rw [own_blk] at hk
  rcases k3 k hk.symm with e2 | e2
  · have := (h.row.lt k (by rw [own_blk]; exact e2.symm)).2
    omega
  · omega
theorem only_set4 (w : World) (b : Nat) (u0 u1 u2 u3 : Value) : Only (fun k => k = b) w ((((w.setCell ⟨b, 0, none⟩ u0).setCell ⟨b, 1, none⟩ u1).setCell ⟨b, 2, none⟩ u2).setCell ⟨b, 3, none⟩ u3) :=
  (((Only.of_set w ⟨b, 0, none⟩ u0).trans (Only.of_set _ ⟨b, 1, none⟩ u1) fun _ _ e => e).trans (Only.of_set _ ⟨b, 2, none⟩ u2) fun _ _ e => e).trans (Only.of_set _ ⟨b, 3, none⟩ u3) fun _ _ e => e
/-- New entries are put in. -/
theorem CxAt.put (h : CxAt sT eT B w rb R A ac) {l : List En} {A2 : Option Addr} {c2 : Nat} (hrow : w1.ownsRow B eT 4 (.slice A2 l.length c2) l.length (l.map En.vals).flatten) (ho : Only (fun k => some k = blk A) w w1) (hg : ∀ k, blk A2 = some k → some k = blk A ∨ w.heap.size ≤ k) (hl : l.length ≤ 16) :
    w1.cell? ⟨rb, 1, none⟩ = some (.slice A R.l.length ac) ∧ w1.frozen? ⟨rb, 1, none⟩ = false ∧ CxStep sT eT B rb A w { R with l := l } (w1.setCell ⟨rb, 1, none⟩ (.slice A2 l.length c2)) := by
  have hrb := h.cel.lt
  have hc := cells_only h.cel ho fun e => h.nA rb (by rw [own_blk]; exact e.symm) rfl
  have hne : ∀ k, blk A2 = some k → k ≠ rb := fun k e e2 => by
    rcases hg k e with e3 | e3
    · exact h.nA k (by rw [own_blk]; exact e3.symm) e2
    · omega
  refine ⟨hc.cell (j := 1) rfl, hc.frozen (j := 1) (by simp), A2, c2, ⟨hc.set_ 1 _, row_only hrow (Only.of_set w1 ⟨rb, 1, none⟩ _) fun k hk e => hne k (by rw [own_blk] at hk; exact hk) e, h.low, fun k hk e => hne k (by rw [own_blk] at hk; exact hk) e, hl⟩, ?_, fun k e => hg k e.symm⟩
  exact (ho.mono fun k _ e => Or.inr e).trans ((Only.of_set w1 ⟨rb, 1, none⟩ _).mono (S' := cfoot rb A) fun k _ e => Or.inl e) fun _ _ e => e
/-- A new list of entries, in new memory, is put in. -/
theorem CxAt.newL (h : CxAt sT eT B w rb R A ac) {v : Value} {l : List En} (hB : B ≤ w.heap.size) (hb : Below w.heap.size w w1) (hr : w1.ownsRow w.heap.size eT 4 v l.length (l.map En.vals).flatten) (hl : l.length ≤ 16) :
    CxStep sT eT B rb A w { R with l := l } (w1.setCell ⟨rb, 1, none⟩ v) := by
  obtain ⟨A', ac', rfl⟩ := row_slice hr
  exact (h.put (own_up hB hr) (Only.of_below hb) (fun k e => Or.inr (hr.lt k (by rw [own_blk]; exact e)).1) hl).2.2
theorem PendE.put {we wi : World} {l : List En} {v : Value} (hp : PendE eT B we A l v wi) (h : CxAt sT eT B we rb R A ac) (hl : l.length ≤ 16) :
    (∃ u, wi.cell? ⟨rb, 1, none⟩ = some u) ∧ wi.frozen? ⟨rb, 1, none⟩ = false ∧ CxStep sT eT B rb A we { R with l := l } (wi.setCell ⟨rb, 1, none⟩ v) := by
  obtain ⟨A2, c2, rfl, hrow, ho, hg⟩ := hp
  obtain ⟨h1, h2, h3⟩ := h.put hrow ho hg hl
  exact ⟨⟨_, h1⟩, h2, h3⟩
/-- An entry is appended, the struct doesn't hold the new row yet. -/
theorem CxAt.grow {lT : TypeId} {zv : Value} {by_ g : Nat} {we wi : World} {e : En} (E : Elem lT eT zv 4 by_) (h : CxAt sT eT B we rb R A ac) (hB : B ≤ we.heap.size) (hb : Below we.heap.size we wi) (hc : Cells wi g eT e.vals) :
    ∃ v w2, (Builtin.append_ #[lT, lT] lT #[.slice A R.l.length ac, .slice (some ⟨g, 0, none⟩) 1 1]).run Try.prog wi = .ok v w2 ∧ PendE eT B we A (R.l ++ [e]) v w2 := by
  have hi := h.later hb
  have hsl : Sl wi (some ⟨g, 0, none⟩) 4 ([e].map En.vals) := cells_sl (by simpa using hc) fun v hv => (fit_es [e]).len v hv
  obtain ⟨v', w2, hrun, hrow, hg, hnb⟩ := run_append_rows E wi lT B (.slice A R.l.length ac) (R.l.map En.vals) ([e].map En.vals) (some ⟨g, 0, none⟩) 1 (fit_es _) (fit_es [e])
    (by rw [List.length_map]; exact hi.row) hsl (fun e => by cases e) (by have := h.len; simp; omega) (Nat.le_trans hB hb.size)
  obtain ⟨A2, c2, rfl⟩ := row_slice hrow
  rw [← List.map_append] at hrow hrun hnb
  have ho := Only.of_grown hg
  rw [own_blk] at ho
  rw [own_blk, own_blk] at hnb
  refine ⟨_, w2, hrun, A2, c2, by rw [List.length_map], by rw [List.length_map] at hrow; exact hrow, (Only.of_below hb).trans ho fun _ _ e => e, fun k e => ?_⟩
  rcases hnb with e2 | e2
  · exact Or.inl (by rw [← e2, e])
  · have e3 : k = wi.heap.size := by rw [e] at e2; exact Option.some.inj e2
    have := hb.size
    exact Or.inr (by omega)
end
end Go.Proofs.Yteedlenelfidcaa.Cac
