/-
  Layer 16, ArrowPlays: what came in; the book and the document's arrows side by side. Conditions: none.
-/
import Derived.Test.YteieehlllfnmcaaArr4
import Derived.Test.YteieehlllfnmcaaArrLaw2
import Derived.Test.YteieehlllfnmcaaOpenS
namespace Go.Proofs.Yteieehlllfnmcaa.Arr
set_option maxRecDepth 100000
open Go.ChangeShapes Go.WideShapes Go.ChangeAt Go.RowKit Go.Deep Go.Proofs.Yteieehlllfnmcaa.Mem Go.Proofs.Yteieehlllfnmcaa.Spn

section
variable {H : Type} {enc : TypeId × Value → H} {W : World}
theorem arg_ints {base : Nat} {v : Value} {d : DataW H} {p : List MemPlace} (hv : Value.okWide Try.prog W .any base 24 v) (h : DataW.Trod enc Try.prog W 0 (fun _ => true) true 24 v d p) (hs : Base.Small Try.prog 24 d) :
    ∃ (A : Option Addr) (ks : List Int) (cap : Nat), v = .slice A ks.length cap ∧ IRow W A ks ∧ ks.length ≤ 140737488351232 := by
  obtain ⟨A0, l0, c0, rfl⟩ := okWide_slice Try.underlying24 hv
  obtain ⟨A, vs, cap, e, h1, h2, h3, h4⟩ := (came_of h hs (by simp [Value.cells])).rowsS Try.underlying24 (of_decide_eq_true (by kernel_rfl)) (of_decide_eq_true (by kernel_rfl))
  have hc : Try.prog.cellsOf 3 = 1 := by kernel_rfl
  rw [hc] at h1 h4
  obtain ⟨ks, rfl, hk⟩ := came_each (vals := fun x : Int => [Value.int .i64 x]) (ok := fun _ => True) (fun v hv => (h4 v hv).2) fun v hv => by
    obtain ⟨n, y, g1, g2⟩ := hv
    obtain ⟨x, e, _, hw⟩ := DataW.trod_int Try.underlying3 g1
    exact ⟨x, e, trivial⟩
  rw [List.length_map] at e h2
  rw [e]
  refine ⟨A, ks, cap, rfl, fun i hi => ?_, h2⟩
  obtain ⟨b, off, e2, hr⟩ := h1 i (by rw [List.length_map]; exact hi)
  rw [List.getElem_map] at hr
  have h5 := hr 0 _ rfl
  rw [Nat.mul_one, Nat.add_zero] at h5
  exact ⟨b, off, e2, h5⟩
/-- An operation. -/
structure Opr where
  k : Int
  cell : Int
  n : Int
def Opr.vals (o : Opr) : List Value := [.int .i64 o.k, .int .i64 o.cell, .int .i64 o.n]
theorem fields_op {fs : Array Field} {v : List Value} (hst : Try.prog.underlying 37 = some (.struct fs)) (h : Fields Try.prog enc W fs v) : ∃ o : Opr, v = o.vals := by
  obtain ⟨f0, f1, f2, hs, e0, e1, e2⟩ : ∃ f0 f1 f2 : Field, Try.prog.underlying 37 = some (.struct #[f0, f1, f2]) ∧ f0.type = 3 ∧ f1.type = 3 ∧ f2.type = 3 :=
    ⟨_, _, _, Try.underlying37, rfl, rfl, rfl⟩
  rw [hs] at hst
  obtain rfl : #[f0, f1, f2] = fs := by simpa using hst
  obtain ⟨hlen, hf⟩ := h
  match v, hlen with
  | [c0, c1, c2], _ =>
    have g0 := hf 0 f0 c0 rfl rfl
    have g1 := hf 1 f1 c1 rfl rfl
    have g2 := hf 2 f2 c2 rfl rfl
    rw [e0] at g0
    rw [e1] at g1
    rw [e2] at g2
    obtain ⟨x0, rfl, _⟩ := g0.int Try.underlying3
    obtain ⟨x1, rfl, _⟩ := g1.int Try.underlying3
    obtain ⟨x2, rfl, _⟩ := g2.int Try.underlying3
    exact ⟨⟨x0, x1, x2⟩, rfl⟩
theorem cellsOp : Try.prog.cellsOf 37 = 3 := by kernel_rfl
theorem oneOp : ∃ fs : Array Field, Try.prog.underlying 37 = some (.struct fs) ∧ fs.size = 3 ∧ oneCellFields Try.prog fs = true := ⟨_, Try.underlying37, rfl, by kernel_rfl⟩
theorem came_ops {c : Value} (h : Came Try.prog enc W 25 c) : ∃ (A : Option Addr) (os : List Opr) (cap : Nat), c = .slice A os.length cap ∧ Sl W A 3 (os.map Opr.vals) ∧ os.length ≤ 140737488351232 := by
  obtain ⟨fs, hst, hsz, hone⟩ := oneOp
  obtain ⟨A, vs, cap, rfl, h1, h2, h3, h4⟩ := h.rows Try.underlying25 hst hone (by rw [hsz]; exact cellsOp) (by omega) (of_decide_eq_true (by kernel_rfl))
  have each : ∀ vs : List (List Value), (∀ v ∈ vs, Fields Try.prog enc W fs v) → ∃ l : List Opr, vs = l.map Opr.vals := by
    intro vs
    induction vs with
    | nil => intro _; exact ⟨[], rfl⟩
    | cons v vs ih =>
      intro hv
      obtain ⟨l, rfl⟩ := ih fun x hx => hv x (List.mem_cons_of_mem _ hx)
      obtain ⟨o, rfl⟩ := fields_op hst (hv v List.mem_cons_self)
      exact ⟨o :: l, rfl⟩
  obtain ⟨l, rfl⟩ := each vs h4
  rw [hsz] at h1
  rw [List.length_map] at h2 ⊢
  exact ⟨A, l, cap, rfl, h1, h2⟩
theorem fields_place {fs : Array Field} {v : List Value} (hst : Try.prog.underlying 23 = some (.struct fs)) (h : Fields Try.prog enc W fs v) : ∃ x y : Int, v = [.int .i64 x, .int .i64 y] := by
  obtain ⟨f0, f1, hs, e0, e1⟩ : ∃ f0 f1 : Field, Try.prog.underlying 23 = some (.struct #[f0, f1]) ∧ f0.type = 3 ∧ f1.type = 3 :=
    ⟨_, _, Try.underlying23, rfl, rfl⟩
  rw [hs] at hst
  obtain rfl : #[f0, f1] = fs := by simpa using hst
  obtain ⟨hlen, hf⟩ := h
  match v, hlen with
  | [c0, c1], _ =>
    have g0 := hf 0 f0 c0 rfl rfl
    have g1 := hf 1 f1 c1 rfl rfl
    rw [e0] at g0
    rw [e1] at g1
    obtain ⟨x0, rfl, _⟩ := g0.int Try.underlying3
    obtain ⟨x1, rfl, _⟩ := g1.int Try.underlying3
    exact ⟨x0, x1, rfl⟩
theorem onePl : ∃ fs : Array Field, Try.prog.underlying 23 = some (.struct fs) ∧ fs.size = 2 ∧ oneCellFields Try.prog fs = true := ⟨_, Try.underlying23, rfl, by kernel_rfl⟩
theorem cellsPl : Try.prog.cellsOf 23 = 2 := by kernel_rfl
end
theorem el_rar : Elem 31 33 (.agg #[.int .i64 0, .int .i64 0, .int .i64 0]) 3 24 := ⟨Try.underlying31, by kernel_rfl, rfl, by decide, by decide⟩
/-- What holds of each arrow of a place. -/
structure AOk (x m : Int) (a : Ar) : Prop where
  nd : a.node = x
  nn : a.nodes = m
  n1 : 1 ≤ a.node
  t1 : 1 ≤ a.tgt
theorem newAr_ok {x m o : Int} {a : Ar} (h : newAr x m o = some a) : AOk x m a := by
  unfold newAr at h
  split at h
  · cases h
  · rename_i h0
    obtain rfl := Option.some.inj h
    obtain ⟨p1, p2⟩ := path_pos (n := x) (o := o) (m := m) rfl
    match hp : pathI x o m, p1, p2, h0 with
    | [], _, _, h0 => exact absurd rfl h0
    | [y], p1, _, _ => exact ⟨rfl, rfl, p1 (by simp), p1 (by simp)⟩
    | y :: z :: r, p1, p2, _ => exact ⟨rfl, rfl, p1 (by simp), by have := p2 z (by simp); show (1 : Int) ≤ (z : Int); omega⟩
/-- The book and the document's arrows. -/
structure PM (B C : Nat) (w : World) (bb vc rc : Nat) (gv gr : Nat) (l : List Ar) : Prop where
  book : Bk B w bb l (some ⟨gv, 0, none⟩) vc
  row : OwnG 33 3 Ar.vals C w (.slice (some ⟨gr, 0, none⟩) l.length rc) l
  gv_ : B ≤ gv ∧ gv < C
  bb_ : B ≤ bb ∧ bb < C
  gr_ : C ≤ gr ∧ gr < w.heap.size
section
variable {B C bb vc rc gv gr : Nat} {w w1 : World} {l : List Ar}
theorem PM.later (h : PM B C w bb vc rc gv gr l) (hb : Below w.heap.size w w1) : PM B C w1 bb vc rc gv gr l := ⟨h.book.later hb, OwnG.later h.row hb, h.gv_, h.bb_, ⟨h.gr_.1, Nat.lt_of_lt_of_le h.gr_.2 hb.size⟩⟩
/-- Between the two turns: the book has turned. -/
structure PH (B C : Nat) (w : World) (bb vc rc : Nat) (gv gr : Nat) (l l' : List Ar) : Prop where
  book : Bk B w bb l' (some ⟨gv, 0, none⟩) vc
  row : OwnG 33 3 Ar.vals C w (.slice (some ⟨gr, 0, none⟩) l.length rc) l
  gv_ : B ≤ gv ∧ gv < C
  bb_ : B ≤ bb ∧ bb < C
  gr_ : C ≤ gr ∧ gr < w.heap.size
theorem PM.half (h : PM B C w bb vc rc gv gr l) {l' : List Ar} (hb : Bk B w1 bb l' (some ⟨gv, 0, none⟩) vc) (ho : Only (fun j => j = gv) w w1) : PH B C w1 bb vc rc gv gr l l' ∧ Below B w w1 := by
  have h1 := h.gv_
  have h2 := h.gr_
  refine ⟨⟨hb, row_only h.row ho fun k e => ?_, h.gv_, h.bb_, ⟨h.gr_.1, Nat.lt_of_lt_of_le h.gr_.2 ho.size⟩⟩, ho.below (by omega) fun k e => by omega⟩
  have e2 : gr = k := Option.some.inj e
  omega
theorem PH.later {l' : List Ar} (h : PH B C w bb vc rc gv gr l l') (hb : Below w.heap.size w w1) : PH B C w1 bb vc rc gv gr l l' := ⟨h.book.later hb, OwnG.later h.row hb, h.gv_, h.bb_, ⟨h.gr_.1, Nat.lt_of_lt_of_le h.gr_.2 hb.size⟩⟩
theorem PH.cells {l' : List Ar} (h : PH B C w bb vc rc gv gr l l') {k : Nat} (hk : k < l.length) : CellsO w gr (k * 3) l[k].vals := by
  obtain ⟨g2, e, hc⟩ := OwnG.elem fit_ar h.row hk
  obtain rfl : gr = g2 := by simpa using e
  exact hc
theorem PM.cells (h : PM B C w bb vc rc gv gr l) {k : Nat} (hk : k < l.length) : CellsO w gr (k * 3) l[k].vals := by
  obtain ⟨g2, e, hc⟩ := OwnG.elem fit_ar h.row hk
  obtain rfl : gr = g2 := by simpa using e
  exact hc
theorem PH.turn {k : Nat} {x : Int} (hk : k < l.length) (h : PH B C w bb vc rc gv gr l (l.set k (l[k].put x))) (hb : Below w.heap.size w w1) : PM B C (w1.setCell ⟨gr, k * 3 + 2, none⟩ (.int .i64 x)) bb vc rc gv gr (l.set k (l[k].put x)) ∧ Below B w (w1.setCell ⟨gr, k * 3 + 2, none⟩ (.int .i64 x)) := by
  have h1 := h.later hb
  have h2 := h.gr_
  have h3 := h.bb_
  have h4 := h.gv_
  have ho := Only.of_set w1 ⟨gr, k * 3 + 2, none⟩ (.int .i64 x)
  refine ⟨⟨h1.book.only ho (fun e => by have e2 : bb = gr := e; omega) (fun j e e2 => by have e3 : gv = j := Option.some.inj e; have e4 : j = gr := e2; omega), ?_, h.gv_, h.bb_, ⟨h2.1, by have := ho.size; have := hb.size; omega⟩⟩, (hb.mono (by omega)).setCell (by show B ≤ gr; omega) _⟩
  have := OwnG.setC fit_ar h1.row (j := 2) (u := .int .i64 x) hk (by omega) rfl (x := l[k].put x) rfl
  rw [List.length_set]
  exact this
theorem PH.place {k : Nat} {a : Ar} (hk : k < l.length) (h : PH B C w bb vc rc gv gr l (l.set k a)) (hb : Below w.heap.size w w1) :
    PM B C (((w1.setCell ⟨gr, k * 3, none⟩ (.int .i64 a.node)).setCell ⟨gr, k * 3 + 1, none⟩ (.int .i64 a.nodes)).setCell ⟨gr, k * 3 + 2, none⟩ (.int .i64 a.tgt)) bb vc rc gv gr (l.set k a) ∧
      Below B w (((w1.setCell ⟨gr, k * 3, none⟩ (.int .i64 a.node)).setCell ⟨gr, k * 3 + 1, none⟩ (.int .i64 a.nodes)).setCell ⟨gr, k * 3 + 2, none⟩ (.int .i64 a.tgt)) := by
  have h1 := h.later hb
  have h2 := h.gr_
  have h3 := h.bb_
  have h4 := h.gv_
  have ho : Only (fun j => j = gr) w1 (((w1.setCell ⟨gr, k * 3, none⟩ (.int .i64 a.node)).setCell ⟨gr, k * 3 + 1, none⟩ (.int .i64 a.nodes)).setCell ⟨gr, k * 3 + 2, none⟩ (.int .i64 a.tgt)) :=
    ((Only.of_set w1 ⟨gr, k * 3, none⟩ _).trans (Only.of_set _ ⟨gr, k * 3 + 1, none⟩ _) fun _ _ e => e).trans (Only.of_set _ ⟨gr, k * 3 + 2, none⟩ _) fun _ _ e => e
  refine ⟨⟨h1.book.only ho (fun e => by have e2 : bb = gr := e; omega) (fun j e e2 => by have e3 : gv = j := Option.some.inj e; have e4 : j = gr := e2; omega), ?_, h.gv_, h.bb_, ⟨h2.1, by have := ho.size; have := hb.size; omega⟩⟩, (hb.mono (by omega)).trans (ho.below (by have := hb.size; omega) fun j e => by have e4 : j = gr := e; omega)⟩
  have r0 := OwnG.setC fit_ar h1.row (j := 0) (u := .int .i64 a.node) hk (by omega) rfl (x := ⟨a.node, l[k].nodes, l[k].tgt⟩) rfl
  have r1 := OwnG.setC fit_ar r0 (k := k) (j := 1) (u := .int .i64 a.nodes) (by rw [List.length_set]; exact hk) (by omega) rfl (x := ⟨a.node, a.nodes, l[k].tgt⟩) (by rw [List.getElem_set_self]; rfl)
  have r2 := OwnG.setC fit_ar r1 (k := k) (j := 2) (u := .int .i64 a.tgt) (by rw [List.length_set, List.length_set]; exact hk) (by omega) rfl (x := a) (by rw [List.getElem_set_self]; rfl)
  rw [List.set_set, List.set_set] at r2
  rw [List.length_set]
  exact r2
end
end Go.Proofs.Yteieehlllfnmcaa.Arr
