/-
  Layer 10: a record's fields are read. Conditions: none.
-/
import Derived.Test.YtfnkjdkckpdfhaaMsgMath
namespace Go.Proofs.Ytfnkjdkckpdfhaa.Msg
set_option maxRecDepth 100000
open Go.RowKit Go.Proofs.Ytfnkjdkckpdfhaa.Mem Go.Proofs.Ytfnkjdkckpdfhaa.Item Go.Proofs.Ytfnkjdkckpdfhaa.Wire

theorem own_off {w : World} {base : Nat} {e : TypeId} {size n m c : Nat} {A : Option Addr} {xs : List Value} (h : w.ownsRow base e size (.slice A m c) n xs) : ∀ b off, A = some ⟨b, off, none⟩ → base ≤ b := by
  intro b off e
  subst e
  have h0 := h
  rcases h.2 with ⟨h1, _⟩ | ⟨g, cap, cur, h1, _⟩
  · simp at h1
  · simp only [Value.slice.injEq, Option.some.injEq, Addr.mk.injEq] at h1
    rw [h1.1.1]
    exact (h0.lt g (by rw [h1.1.1, h1.1.2.1]; rfl)).1
/-- A record's cells while its numbers are kept elsewhere. -/
def recC (x : Rc) (y : Lay) : List Value := [.int .i64 x.kind, .int .i64 x.tid.node, .int .i64 x.tid.epoch, .int .i64 x.tid.seq, .slice y.A x.items.length y.c, .slice y.B x.nodes.length y.d, .int .i64 0, .int .i64 0, .int .i64 0, .int .i64 0, .int .i64 0, .int .i64 0, .bool x.yes]
def arrC (x : Rc) : List Value := [.int .i64 x.cell, .int .i64 x.node, .int .i64 x.num, .int .i64 x.hop, .int .i64 x.version, .int .i64 x.value]
def zeroC : List Value := [.int .i64 0, .int .i64 0, .int .i64 0, .int .i64 0, .slice none 0 0, .slice none 0 0, .int .i64 0, .int .i64 0, .int .i64 0, .int .i64 0, .int .i64 0, .int .i64 0, .bool false]
/-- While a record is read: S: the heap's size when the call began. -/
structure rdSt (w wr : World) (p g : Nat) (x : Rc) (s : ByteArray) (b : Bool) (y : Lay) : Prop where
  it : IRd wr p g s b
  foot : Wire.Foot (some g) w wr
  low : p < w.heap.size ∧ g < w.heap.size ∧ w.heap.size + 3 ≤ wr.heap.size
  rcd : Cells wr (w.heap.size + 1) 27 (recC x y)
  arr : Cells wr (w.heap.size + 1 + 1) 85 (arrC x)
  res : Cells wr w.heap.size 27 zeroC
  has : Has wr x y
  offA : 0 < x.items.length → ∀ b off, y.A = some ⟨b, off, none⟩ → w.heap.size + 3 ≤ b
  offB : 0 < x.nodes.length → ∀ b off, y.B = some ⟨b, off, none⟩ → w.heap.size + 3 ≤ b
section
variable {w wr wq : World} {p g : Nat} {x : Rc} {s s' : ByteArray} {b b' : Bool} {y : Lay}
theorem rdSt.only {S : Nat → Prop} (h : rdSt w wr p g x s b y) (ho : Only S wr wq) (hS : ∀ k, S k → k < w.heap.size + 3) : Has wq x y :=
  ⟨Items.only h.has.items ho fun h0 b off e hs => by have := h.offA h0 b off e; have := hS b hs; omega, Nums.only h.has.nodes ho fun h0 b off e hs => by have := h.offB h0 b off e; have := hS b hs; omega⟩
theorem rdSt.move (h : rdSt w wr p g x s b y) (hr : IRd wq p g s' b') (hf : Wire.Foot (some g) wr wq) : rdSt w wq p g x s' b' y := by
  have hl := h.low
  have hn : ∀ k, k ≠ g → ¬ (some k = some g) := fun k hk e => hk (Option.some.inj e)
  exact ⟨hr, foot_trans h.foot hf, ⟨hl.1, hl.2.1, Nat.le_trans hl.2.2 hf.size⟩, cells_only h.rcd hf (hn _ (by omega)), cells_only h.arr hf (hn _ (by omega)), cells_only h.res hf (hn _ (by omega)),
    h.only hf (fun k e => by have := Option.some.inj e; omega), h.offA, h.offB⟩
theorem rdSt.foot_set' (h : rdSt w wr p g x s b y) (j : Nat) (u : Value) : Wire.Foot (some g) w (wr.setCell ⟨w.heap.size + 1, j, none⟩ u) := foot_set h.foot (by show w.heap.size ≤ w.heap.size + 1; omega) u
theorem rdSt.it_set (h : rdSt w wr p g x s b y) (a : Addr) (ha : w.heap.size ≤ a.block) (u : Value) : IRd (wr.setCell a u) p g s b :=
  h.it.only (S := fun k => k = a.block) (Only.of_set wr a u) (by have := h.low; omega) (by have := h.low; omega)
/-- A cell of the record is written: all else stays. -/
theorem rdSt.put {x' : Rc} {y' : Lay} (h : rdSt w wr p g x s b y) (j : Nat) (u : Value) (hr : (recC x y).set j u = recC x' y') (ha : arrC x' = arrC x) (hh : Has (wr.setCell ⟨w.heap.size + 1, j, none⟩ u) x' y')
    (oA : 0 < x'.items.length → ∀ b off, y'.A = some ⟨b, off, none⟩ → w.heap.size + 3 ≤ b) (oB : 0 < x'.nodes.length → ∀ b off, y'.B = some ⟨b, off, none⟩ → w.heap.size + 3 ≤ b) : rdSt w (wr.setCell ⟨w.heap.size + 1, j, none⟩ u) p g x' s b y' := by
  refine ⟨h.it_set _ (by show w.heap.size ≤ w.heap.size + 1; omega) u, foot_set h.foot (by show w.heap.size ≤ w.heap.size + 1; omega) u, ⟨h.low.1, h.low.2.1, by have := h.low.2.2; simpa [World.setCell] using this⟩, ?_, ?_, ?_, hh, oA, oB⟩
  · rw [← hr]; exact h.rcd.set_ j u
  · rw [ha]; exact h.arr.far (by show w.heap.size + 1 + 1 ≠ w.heap.size + 1; omega) u
  · exact h.res.far (by show w.heap.size ≠ w.heap.size + 1; omega) u
theorem rdSt.has_set (h : rdSt w wr p g x s b y) (a : Addr) (ha : a.block < w.heap.size + 3) (u : Value) : Has (wr.setCell a u) x y := h.only (S := fun k => k = a.block) (Only.of_set wr a u) (fun k e => by omega)
theorem rdSt.yes (h : rdSt w wr p g x s b y) (v : Bool) : rdSt w (wr.setCell ⟨w.heap.size + 1, 12, none⟩ (.bool v)) p g { x with yes := v } s b y :=
  h.put (x' := { x with yes := v }) 12 (.bool v) rfl rfl (by have := h.has_set ⟨w.heap.size + 1, 12, none⟩ (by show w.heap.size + 1 < _; omega) (.bool v); exact ⟨this.items, this.nodes⟩) h.offA h.offB
theorem rdSt.tid (h : rdSt w wr p g x s b y) (t : Tid) : rdSt w (((wr.setCell ⟨w.heap.size + 1, 1, none⟩ (.int .i64 t.node)).setCell ⟨w.heap.size + 1, 2, none⟩ (.int .i64 t.epoch)).setCell ⟨w.heap.size + 1, 3, none⟩ (.int .i64 t.seq)) p g { x with tid := t } s b y := by
  have h1 := h.put (x' := { x with tid := ⟨t.node, x.tid.epoch, x.tid.seq⟩ }) (y' := y) 1 (.int .i64 t.node) rfl rfl (by have := h.has_set ⟨w.heap.size + 1, 1, none⟩ (by show w.heap.size + 1 < _; omega) (.int .i64 t.node); exact ⟨this.items, this.nodes⟩) h.offA h.offB
  have h2 := h1.put (x' := { x with tid := ⟨t.node, t.epoch, x.tid.seq⟩ }) (y' := y) 2 (.int .i64 t.epoch) rfl rfl (by have := h1.has_set ⟨w.heap.size + 1, 2, none⟩ (by show w.heap.size + 1 < _; omega) (.int .i64 t.epoch); exact ⟨this.items, this.nodes⟩) h.offA h.offB
  exact h2.put (x' := { x with tid := t }) (y' := y) 3 (.int .i64 t.seq) rfl rfl (by have := h2.has_set ⟨w.heap.size + 1, 3, none⟩ (by show w.heap.size + 1 < _; omega) (.int .i64 t.seq); exact ⟨this.items, this.nodes⟩) h.offA h.offB
theorem rdSt.items {A : Option Addr} {c : Nat} {l : List It} (h : rdSt w wr p g x s b y) (hi : Items wr A l) (ho : ∀ b off, A = some ⟨b, off, none⟩ → w.heap.size + 3 ≤ b) :
    rdSt w (wr.setCell ⟨w.heap.size + 1, 4, none⟩ (.slice A l.length c)) p g { x with items := l } s b { y with A := A, c := c } :=
  h.put (x' := { x with items := l }) (y' := { y with A := A, c := c }) 4 (.slice A l.length c) rfl rfl (by
    have h1 := h.has_set ⟨w.heap.size + 1, 4, none⟩ (by show w.heap.size + 1 < _; omega) (.slice A l.length c)
    refine ⟨Items.only hi (S := fun k => k = w.heap.size + 1) (Only.of_set wr ⟨w.heap.size + 1, 4, none⟩ _) fun _ b off e hs => ?_, h1.nodes⟩
    have := ho b off e
    omega) (fun _ => ho) h.offB
theorem rdSt.nodes {A : Option Addr} {c : Nat} {l : List Int} (h : rdSt w wr p g x s b y) (hi : Nums wr A l) (ho : ∀ b off, A = some ⟨b, off, none⟩ → w.heap.size + 3 ≤ b) :
    rdSt w (wr.setCell ⟨w.heap.size + 1, 5, none⟩ (.slice A l.length c)) p g { x with nodes := l } s b { y with B := A, d := c } :=
  h.put (x' := { x with nodes := l }) (y' := { y with B := A, d := c }) 5 (.slice A l.length c) rfl rfl (by
    have h1 := h.has_set ⟨w.heap.size + 1, 5, none⟩ (by show w.heap.size + 1 < _; omega) (.slice A l.length c)
    refine ⟨h1.items, Nums.only hi (S := fun k => k = w.heap.size + 1) (Only.of_set wr ⟨w.heap.size + 1, 5, none⟩ _) fun _ b off e hs => ?_⟩
    have := ho b off e
    omega) h.offA (fun _ => ho)
theorem arrC_set (x : Rc) (f : Nat) (hf : f < 6) (n : Int) : (arrC x).set f (.int .i64 n) = arrC (setN x f n) := by
  rcases lt6 hf with rfl | rfl | rfl | rfl | rfl | rfl <;> rfl
theorem recC_setN (x : Rc) (y : Lay) (f : Nat) (n : Int) : recC (setN x f n) y = recC x y := by
  obtain ⟨s0, s1, s2, s3, s4⟩ := setN_rest x f n
  unfold recC
  rw [s0, s1, s2, s3, s4]
theorem rdSt.num (h : rdSt w wr p g x s b y) (f : Nat) (hf : f < 6) (n : Int) : rdSt w (wr.setCell ⟨w.heap.size + 1 + 1, f, none⟩ (.int .i64 n)) p g (setN x f n) s b y := by
  obtain ⟨s0, s1, s2, s3, s4⟩ := setN_rest x f n
  have h1 := h.has_set ⟨w.heap.size + 1 + 1, f, none⟩ (by show w.heap.size + 1 + 1 < _; omega) (.int .i64 n)
  refine ⟨h.it_set _ (by show w.heap.size ≤ w.heap.size + 1 + 1; omega) _, foot_set h.foot (by show w.heap.size ≤ w.heap.size + 1 + 1; omega) _, ⟨h.low.1, h.low.2.1, by have := h.low.2.2; simpa [World.setCell] using this⟩, ?_, ?_, ?_, ⟨by rw [s2]; exact h1.items, by rw [s3]; exact h1.nodes⟩, by rw [s2]; exact h.offA, by rw [s3]; exact h.offB⟩
  · rw [recC_setN]; exact h.rcd.far (by show w.heap.size + 1 ≠ w.heap.size + 1 + 1; omega) _
  · rw [← arrC_set x f hf n]; exact h.arr.set_ f _
  · exact h.res.far (by show w.heap.size ≠ w.heap.size + 1 + 1; omega) _
end
/-- Four numbers that are being written, one by one, behind pre. -/
def fin1 (pre post : List Value) (a0 a1 a2 a3 : Int) (d0 d1 d2 d3 : Bool) : List Value := pre ++ ([.int .i64 (cond d0 a0 0), .int .i64 (cond d1 a1 0), .int .i64 (cond d2 a2 0), .int .i64 (cond d3 a3 0)] ++ post)
structure wrSt (S : Nat) (wr : World) (n : Nat) (pre post : List Value) (a0 a1 a2 a3 : Int) (d0 d1 d2 d3 : Bool) (W : World) : Prop where
  len : pre.length = n
  cells : Cells W (S + 1) 27 (fin1 pre post a0 a1 a2 a3 d0 d1 d2 d3)
  only : Only (fun k => k = S + 1) wr W
section
variable {S n : Nat} {wr W : World} {pre post : List Value} {a0 a1 a2 a3 : Int} {d0 d1 d2 d3 : Bool}
theorem fin1_length (h : pre.length = n) : n + 4 ≤ (fin1 pre post a0 a1 a2 a3 d0 d1 d2 d3).length := by unfold fin1; simp; omega
theorem wrSt.c0 (h : wrSt S wr n pre post a0 a1 a2 a3 d0 d1 d2 d3 W) : W.cell? ⟨S + 1, n, none⟩ = some (.int .i64 (cond d0 a0 0)) := h.cells.cell (by unfold fin1; rw [List.getElem?_append_right (by have := h.len; omega)]; simp [h.len])
theorem wrSt.f0 (h : wrSt S wr n pre post a0 a1 a2 a3 d0 d1 d2 d3 W) : W.frozen? ⟨S + 1, n, none⟩ = false := h.cells.frozen (by have := fin1_length (post := post) (a0 := a0) (a1 := a1) (a2 := a2) (a3 := a3) (d0 := d0) (d1 := d1) (d2 := d2) (d3 := d3) h.len; omega)
theorem wrSt.st0 (h : wrSt S wr n pre post a0 a1 a2 a3 d0 d1 d2 d3 W) : wrSt S wr n pre post a0 a1 a2 a3 true d1 d2 d3 (W.setCell ⟨S + 1, n, none⟩ (.int .i64 a0)) := by
  refine ⟨h.len, ?_, h.only.trans (S' := fun k => k = S + 1) (Only.of_set W ⟨S + 1, n, none⟩ _) fun k _ e => e⟩
  have h1 := h.cells.set_ (n) (.int .i64 a0)
  have e : (fin1 pre post a0 a1 a2 a3 d0 d1 d2 d3).set (n) (.int .i64 a0) = fin1 pre post a0 a1 a2 a3 true d1 d2 d3 := by
    unfold fin1
    rw [List.set_append_right _ _ (by have := h.len; omega)]
    have := h.len
    subst this
    simp
  rw [e] at h1
  exact h1
theorem wrSt.c1 (h : wrSt S wr n pre post a0 a1 a2 a3 d0 d1 d2 d3 W) : W.cell? ⟨S + 1, n + 1, none⟩ = some (.int .i64 (cond d1 a1 0)) := h.cells.cell (by unfold fin1; rw [List.getElem?_append_right (by have := h.len; omega)]; simp [h.len])
theorem wrSt.f1 (h : wrSt S wr n pre post a0 a1 a2 a3 d0 d1 d2 d3 W) : W.frozen? ⟨S + 1, n + 1, none⟩ = false := h.cells.frozen (by have := fin1_length (post := post) (a0 := a0) (a1 := a1) (a2 := a2) (a3 := a3) (d0 := d0) (d1 := d1) (d2 := d2) (d3 := d3) h.len; omega)
theorem wrSt.st1 (h : wrSt S wr n pre post a0 a1 a2 a3 d0 d1 d2 d3 W) : wrSt S wr n pre post a0 a1 a2 a3 d0 true d2 d3 (W.setCell ⟨S + 1, n + 1, none⟩ (.int .i64 a1)) := by
  refine ⟨h.len, ?_, h.only.trans (S' := fun k => k = S + 1) (Only.of_set W ⟨S + 1, n + 1, none⟩ _) fun k _ e => e⟩
  have h1 := h.cells.set_ (n + 1) (.int .i64 a1)
  have e : (fin1 pre post a0 a1 a2 a3 d0 d1 d2 d3).set (n + 1) (.int .i64 a1) = fin1 pre post a0 a1 a2 a3 d0 true d2 d3 := by
    unfold fin1
    rw [List.set_append_right _ _ (by have := h.len; omega)]
    have := h.len
    subst this
    simp
  rw [e] at h1
  exact h1
theorem wrSt.c2 (h : wrSt S wr n pre post a0 a1 a2 a3 d0 d1 d2 d3 W) : W.cell? ⟨S + 1, n + 2, none⟩ = some (.int .i64 (cond d2 a2 0)) := h.cells.cell (by unfold fin1; rw [List.getElem?_append_right (by have := h.len; omega)]; simp [h.len])
theorem wrSt.f2 (h : wrSt S wr n pre post a0 a1 a2 a3 d0 d1 d2 d3 W) : W.frozen? ⟨S + 1, n + 2, none⟩ = false := h.cells.frozen (by have := fin1_length (post := post) (a0 := a0) (a1 := a1) (a2 := a2) (a3 := a3) (d0 := d0) (d1 := d1) (d2 := d2) (d3 := d3) h.len; omega)
theorem wrSt.st2 (h : wrSt S wr n pre post a0 a1 a2 a3 d0 d1 d2 d3 W) : wrSt S wr n pre post a0 a1 a2 a3 d0 d1 true d3 (W.setCell ⟨S + 1, n + 2, none⟩ (.int .i64 a2)) := by
  refine ⟨h.len, ?_, h.only.trans (S' := fun k => k = S + 1) (Only.of_set W ⟨S + 1, n + 2, none⟩ _) fun k _ e => e⟩
  have h1 := h.cells.set_ (n + 2) (.int .i64 a2)
  have e : (fin1 pre post a0 a1 a2 a3 d0 d1 d2 d3).set (n + 2) (.int .i64 a2) = fin1 pre post a0 a1 a2 a3 d0 d1 true d3 := by
    unfold fin1
    rw [List.set_append_right _ _ (by have := h.len; omega)]
    have := h.len
    subst this
    simp
  rw [e] at h1
  exact h1
theorem wrSt.c3 (h : wrSt S wr n pre post a0 a1 a2 a3 d0 d1 d2 d3 W) : W.cell? ⟨S + 1, n + 3, none⟩ = some (.int .i64 (cond d3 a3 0)) := h.cells.cell (by unfold fin1; rw [List.getElem?_append_right (by have := h.len; omega)]; simp [h.len])
theorem wrSt.f3 (h : wrSt S wr n pre post a0 a1 a2 a3 d0 d1 d2 d3 W) : W.frozen? ⟨S + 1, n + 3, none⟩ = false := h.cells.frozen (by have := fin1_length (post := post) (a0 := a0) (a1 := a1) (a2 := a2) (a3 := a3) (d0 := d0) (d1 := d1) (d2 := d2) (d3 := d3) h.len; omega)
theorem wrSt.st3 (h : wrSt S wr n pre post a0 a1 a2 a3 d0 d1 d2 d3 W) : wrSt S wr n pre post a0 a1 a2 a3 d0 d1 d2 true (W.setCell ⟨S + 1, n + 3, none⟩ (.int .i64 a3)) := by
  refine ⟨h.len, ?_, h.only.trans (S' := fun k => k = S + 1) (Only.of_set W ⟨S + 1, n + 3, none⟩ _) fun k _ e => e⟩
  have h1 := h.cells.set_ (n + 3) (.int .i64 a3)
  have e : (fin1 pre post a0 a1 a2 a3 d0 d1 d2 d3).set (n + 3) (.int .i64 a3) = fin1 pre post a0 a1 a2 a3 d0 d1 d2 true := by
    unfold fin1
    rw [List.set_append_right _ _ (by have := h.len; omega)]
    have := h.len
    subst this
    simp
  rw [e] at h1
  exact h1
end
end Go.Proofs.Ytfnkjdkckpdfhaa.Msg
