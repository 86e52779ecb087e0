/-
  Layer 10: what lies where while the document reads a message. Conditions: none.
-/
import Derived.Test.YtfnkjdkckpdfhaaMsgRd4
import Derived.Test.YtfnkjdkckpdfhaaMsgIn
import Derived.Test.YtfnkjdkckpdfhaaRow
import Derived.Test.YtfnkjdkckpdfhaaSub
namespace Go.Proofs.Ytfnkjdkckpdfhaa.Msg
set_option maxRecDepth 100000
open Go.RowKit Go.Proofs.Ytfnkjdkckpdfhaa.Mem Go.Proofs.Ytfnkjdkckpdfhaa.Item Go.Proofs.Ytfnkjdkckpdfhaa.Wire

/-- While the document's answer reads a record (w: the world at its beginning, S its heap's size): the answer's cells at S, the bytes' place at S + 1, the message at m, its two lists own rows behind it, apart. -/
structure rfSt (w : World) (m : Nat) (wr : World) (x : Rc) (s : ByteArray) (a : Nat) (b : Bool) (y : Lay) : Prop where
  inn : In wr (w.heap.size + 1) s a b
  foot : Below w.heap.size w wr
  gt : w.heap.size + 2 ≤ m
  low : m + 1 ≤ wr.heap.size
  rcd : Cells wr (m) 31 (x.vals y)
  res : Cells wr w.heap.size 31 zeroC
  rowA : wr.ownsRow (m + 1) 83 5 (.slice y.A x.items.length y.c) x.items.length (flat x.items)
  rowB : wr.ownsRow (m + 1) 3 1 (.slice y.B x.nodes.length y.d) x.nodes.length (x.nodes.map (Value.int .i64))
  apart : ∀ i, (Value.slice y.A x.items.length y.c).ownBlock = some i → (Value.slice y.B x.nodes.length y.d).ownBlock ≠ some i
section
variable {w wr wq : World} {m : Nat} {x x' : Rc} {s : ByteArray} {a a' : Nat} {b b' : Bool} {y y' : Lay}
theorem rfSt.ownA (h : rfSt w m wr x s a b y) {i : Nat} (hi : (Value.slice y.A x.items.length y.c).ownBlock = some i) : m + 1 ≤ i ∧ i < wr.heap.size := h.rowA.lt i hi
theorem rfSt.ownB (h : rfSt w m wr x s a b y) {i : Nat} (hi : (Value.slice y.B x.nodes.length y.d).ownBlock = some i) : m + 1 ≤ i ∧ i < wr.heap.size := h.rowB.lt i hi
theorem rfSt.has (h : rfSt w m wr x s a b y) : Has wr x y := by
  obtain ⟨A, c, h1, h2⟩ := items_of_row h.rowA
  obtain ⟨B, d, h3, h4⟩ := nums_of_row h.rowB
  simp only [Value.slice.injEq] at h1 h3
  exact ⟨by rw [h1.1]; exact h2, by rw [h3.1]; exact h4⟩
/-- Nothing old is touched. -/
theorem rfSt.later (h : rfSt w m wr x s a b y) (hb : Below wr.heap.size wr wq) : rfSt w m wq x s a b y :=
  ⟨Cells.later h.inn hb, h.foot.trans (hb.mono h.foot.size), h.gt, Nat.le_trans h.low hb.size, h.rcd.later hb, h.res.later hb, row_only (S := fun _ => False) h.rowA (Only.of_below hb) fun _ _ e => e, row_only (S := fun _ => False) h.rowB (Only.of_below hb) fun _ _ e => e, h.apart⟩
/-- The place goes on. -/
theorem rfSt.step (h : rfSt w m wr x s a b y) (hi : In wq (w.heap.size + 1) s a' b') (ho : Only (fun k => k = w.heap.size + 1) wr wq) : rfSt w m wq x s a' b' y := by
  have hg := h.gt
  exact ⟨hi, h.foot.trans (ho.below h.foot.size fun k hk => by rw [hk]; omega), h.gt, Nat.le_trans h.low ho.size, cells_only h.rcd ho (by omega), cells_only h.res ho (by omega),
    row_only h.rowA ho fun i hi e => by have := (h.ownA hi).1; omega, row_only h.rowB ho fun i hi e => by have := (h.ownB hi).1; omega, h.apart⟩
/-- The record's cells turn, its lists stay. -/
theorem rfSt.put (h : rfSt w m wr x s a b y) (ho : Only (fun k => k = m) wr wq) (hr : Cells wq (m) 31 (x'.vals y)) (e1 : x'.items = x.items) (e2 : x'.nodes = x.nodes) : rfSt w m wq x' s a b y := by
  have hg := h.gt
  refine ⟨cells_only h.inn ho (by omega), h.foot.trans (ho.below h.foot.size fun k hk => by rw [hk]; omega), h.gt, Nat.le_trans h.low ho.size, hr, cells_only h.res ho (by omega), ?_, ?_, ?_⟩
  · rw [e1]; exact row_only h.rowA ho fun i hi e => by have := (h.ownA hi).1; omega
  · rw [e2]; exact row_only h.rowB ho fun i hi e => by have := (h.ownB hi).1; omega
  · rw [e1, e2]; exact h.apart
end
/-- Is it refused (o)? -/
def FinOut (s : ByteArray) (w : World) (m : Nat) (x : Rc) (a : Nat) (b : Bool) (y : Lay) (v : Value) (wx : World) : Prop := ∃ o : Bool, v = .bool o ∧ rfSt w m wx x s a b y ∧ (o = true → dec s = none) ∧ (o = false → dec s = some x)
theorem only_cell {S : Nat → Prop} {w w' : World} {p : Addr} {v : Value} (ho : Only S w w') (hc : w.cell? p = some v) (hn : ¬ S p.block) : w'.cell? p = some v :=
  (World.cell?_of_block (w := w) (w' := w') (a := p) (ho.block _ (block_of_cell hc) hn)).trans hc
theorem rfSt.both {w wr wq : World} {m : Nat} {x : Rc} {s : ByteArray} {a a' : Nat} {b b' : Bool} {y : Lay} (h : rfSt w m wr x s a b y) (hi : In wq (w.heap.size + 1) s a' b') (ho : Only (fun k => k = w.heap.size + 1 ∨ wr.heap.size ≤ k) wr wq) : rfSt w m wq x s a' b' y := by
  have hl := h.low
  have hg := h.gt
  refine ⟨hi, h.foot.trans (ho.below h.foot.size fun k hk => by have := h.foot.size; omega), h.gt, Nat.le_trans h.low ho.size, cells_only h.rcd ho (by omega), cells_only h.res ho (by omega),
    row_only h.rowA ho fun i hi e => by have := h.ownA hi; omega, row_only h.rowB ho fun i hi e => by have := h.ownB hi; omega, h.apart⟩
/-- The answer is written: all else stays. -/
theorem rfSt.ended {w wr wq : World} {m : Nat} {x : Rc} {s : ByteArray} {a : Nat} {b : Bool} {y : Lay} (h : rfSt w m wr x s a b y) (ho : Only (fun k => k = w.heap.size) wr wq) : Has wq x y ∧ Below w.heap.size w wq := by
  have hg := h.gt
  exact ⟨⟨Items.only h.has.items ho fun h0 b off e hs => by have := own_off h.rowA b off e; omega, Nums.only h.has.nodes ho fun h0 b off e hs => by have := own_off h.rowB b off e; omega⟩,
    h.foot.trans (ho.below h.foot.size fun k hk => by rw [hk]; exact Nat.le_refl _)⟩
theorem itsA_le (s : ByteArray) (n : Nat) {a : Nat} {b : Bool} (h : a ≤ s.size) : (itsA s n a b).1 ≤ s.size := by
  induction n with
  | zero => exact h
  | succ n ih => exact inA_le 3 s _ _ (inA_le 1 s _ _ (inA_le 3 s _ _ (inA_le 3 s _ _ (inA_le 3 s _ _ ih))))
theorem ndsA_le (s : ByteArray) (n : Nat) {a : Nat} {b : Bool} (h : a ≤ s.size) : (ndsA s n a b).1 ≤ s.size := by
  induction n with
  | zero => exact h
  | succ n ih => exact inA_le 3 s _ _ ih
theorem flat_push (l : List It) (x : It) : flat (l ++ [x]) = flat l ++ x.vals := by unfold flat; rw [List.flatMap_append]; simp
/-- An item is put behind the record's. -/
theorem rfSt.push_item {w W W1 wq : World} {m : Nat} {x : Rc} {s : ByteArray} {a : Nat} {b : Bool} {y : Lay} {it : It} {A' : Option Addr} {c' n' : Nat} (h : rfSt w m W x s a b y) (hb : Below W.heap.size W W1)
    (hrow : wq.ownsRow (m + 1) 83 5 (.slice A' n' c') (x.items.length + 1) (flat x.items ++ it.vals)) (hg : W1.grownBy wq (Value.slice y.A x.items.length y.c).ownBlock)
    (hat : (Value.slice A' n' c').ownBlock = (Value.slice y.A x.items.length y.c).ownBlock ∨ (Value.slice A' n' c').ownBlock = some W1.heap.size) :
    rfSt w m (wq.setCell ⟨m, 4, none⟩ (.slice A' n' c')) { x with items := x.items ++ [it] } s a b { y with A := A', c := c' } := by
  have h1 := h.later hb
  have ho := Only.of_grown hg
  have ho2 : Only (fun k => some k = (Value.slice y.A x.items.length y.c).ownBlock ∨ k = m) W1 (wq.setCell ⟨m, 4, none⟩ (.slice A' n' c')) :=
    (ho.mono fun k _ e => Or.inl e).trans (Only.of_set wq ⟨m, 4, none⟩ _) fun k _ e => Or.inr e
  have hA : ∀ i, (Value.slice y.A x.items.length y.c).ownBlock = some i → m + 1 ≤ i ∧ i < W1.heap.size := fun i hi => h1.ownA hi
  have hlow := h1.low
  have hgt := h1.gt
  obtain ⟨A2, c2, hv, _⟩ := items_of_row (l := x.items ++ [it]) (v := .slice A' n' c') (by rw [List.length_append, flat_push]; exact hrow)
  have hn : n' = (x.items ++ [it]).length := by
    simp only [Value.slice.injEq] at hv
    exact hv.2.1
  subst hn
  have hrow2 : (wq.setCell ⟨m, 4, none⟩ (.slice A' (x.items ++ [it]).length c')).ownsRow (m + 1) 83 5 (.slice A' (x.items ++ [it]).length c') (x.items ++ [it]).length (flat (x.items ++ [it])) := by
    rw [flat_push]
    have hr : wq.ownsRow (m + 1) 83 5 (.slice A' (x.items ++ [it]).length c') (x.items ++ [it]).length (flat x.items ++ it.vals) := by
      have h := hrow
      rw [List.length_append] at h ⊢
      exact h
    exact row_only hr (Only.of_set wq ⟨m, 4, none⟩ _) fun i hi e => by have := (hrow.lt i hi).1; have e2 : i = m := e; omega
  refine ⟨cells_only h1.inn ho2 ?_, h1.foot.trans (ho2.below h1.foot.size ?_), hgt, Nat.le_trans hlow ho2.size, ?_, cells_only h1.res ho2 ?_, hrow2, row_only h1.rowB ho2 ?_, ?_⟩
  · rintro (e | e)
    · have := hA _ e.symm; omega
    · omega
  · rintro k (e | e)
    · have := hA _ e.symm; omega
    · omega
  · exact (cells_only h1.rcd ho (fun e => by have := hA _ e.symm; omega)).set_ 4 (.slice A' (x.items ++ [it]).length c')
  · rintro (e | e)
    · have := hA _ e.symm; omega
    · omega
  · rintro i hi (e | e)
    · exact h1.apart i e.symm hi
    · have := h1.ownB hi; omega
  · intro i hi hj
    rcases hat with e | e
    · exact h1.apart i (e.symm.trans hi) hj
    · have h2 := Option.some.inj (e.symm.trans hi)
      have := (h1.ownB hj).2
      omega
/-- While a node is read and put behind the others. -/
structure ndSt (s : ByteArray) (a : Nat) (b : Bool) (x : Rc) (y : Lay) (w : World) (m : Nat) (wr : World) (d3 d4 d5 d7 : Bool) (v4 v5 : Value) (W : World) : Prop where
  inn : In W (w.heap.size + 1) s (cond d3 (inA 3 s a b) a) (cond d3 (inB 3 s a b) b)
  foot : Only (fun k => k = w.heap.size + 1 ∨ some k = (Value.slice y.B x.nodes.length y.d).ownBlock ∨ k = m) wr W
  base : rfSt w m wr x s a b y
  rcd : d7 = false → Cells W (m) 31 (x.vals y)
  blk : d4 = true → d5 = false → ∃ j, v4 = .slice (some ⟨j, 0, none⟩) 1 1 ∧ wr.heap.size ≤ j ∧ Cells W j 3 [.int .i64 (inV 3 s a b)]
  old : d5 = false → W.ownsRow (m + 1) 3 1 (.slice y.B x.nodes.length y.d) x.nodes.length (x.nodes.map (Value.int .i64))
  new : d5 = true → W.ownsRow (m + 1) 3 1 v5 (x.nodes.length + 1) (x.nodes.map (Value.int .i64) ++ [.int .i64 (inV 3 s a b)]) ∧ (v5.ownBlock = (Value.slice y.B x.nodes.length y.d).ownBlock ∨ ∃ i, v5.ownBlock = some i ∧ wr.heap.size ≤ i)
  fin : d7 = true → Cells W (m) 31 ((x.vals y).set 5 v5)
section
variable {s : ByteArray} {a : Nat} {b : Bool} {x : Rc} {y : Lay} {w : World} {m : Nat} {wr : World} {d3 d4 d5 d7 : Bool} {v4 v5 : Value} {W W' : World}
theorem ndSt.B (h : ndSt s a b x y w m wr d3 d4 d5 d7 v4 v5 W) : ∀ i, (Value.slice y.B x.nodes.length y.d).ownBlock = some i → m + 1 ≤ i := fun _ hi => (h.base.ownB hi).1
theorem ndSt.call (h : ndSt s a b x y w m wr false d4 d5 d7 v4 v5 W) (hi : In W' (w.heap.size + 1) s (inA 3 s a b) (inB 3 s a b)) (ho : Only (fun k => k = w.heap.size + 1) W W') : ndSt s a b x y w m wr true d4 d5 d7 v4 v5 W' := by
  have hl := h.base.low
  have hgt := h.base.gt
  refine ⟨hi, h.foot.trans ho fun _ _ e => Or.inl e, h.base, fun e => cells_only (h.rcd e) ho (by omega), fun e1 e2 => ?_, fun e => row_only (h.old e) ho fun i hi _ => by have := h.B i hi; omega, fun e => ⟨row_only (h.new e).1 ho fun i hi e2 => by have := ((h.new e).1.lt i hi).1; omega, (h.new e).2⟩, fun e => cells_only (h.fin e) ho (by omega)⟩
  obtain ⟨j, h1, h2, h3⟩ := h.blk e1 e2
  exact ⟨j, h1, h2, cells_only h3 ho (by omega)⟩
theorem ndSt.alloc (h : ndSt s a b x y w m wr d3 false false d7 v4 v5 W) : ndSt s a b x y w m wr d3 true false d7 (.slice (some ⟨W.heap.size, 0, none⟩) 1 1) v5 (W.alloc (.cells #[.int .i64 (inV 3 s a b)] 3)) :=
  ⟨Cells.later h.inn (below_alloc _ _), h.foot.trans (S' := fun _ => False) (Only.of_below (below_alloc _ _)) fun _ _ e => e.elim, h.base, fun e => (h.rcd e).later (below_alloc _ _), fun _ _ => ⟨_, rfl, h.foot.size, cells_new W _ _ _ rfl⟩, fun e => (h.old e).alloc _, fun e => (by cases e), fun e => (h.fin e).later (below_alloc _ _)⟩
theorem ndSt.append {v' : Value} (h : ndSt s a b x y w m wr d3 d4 false false v4 v5 W) (hrow : W'.ownsRow (m + 1) 3 1 v' (x.nodes.length + 1) (x.nodes.map (Value.int .i64) ++ [.int .i64 (inV 3 s a b)])) (hg : W.grownBy W' (Value.slice y.B x.nodes.length y.d).ownBlock)
    (hat : v'.ownBlock = (Value.slice y.B x.nodes.length y.d).ownBlock ∨ v'.ownBlock = some W.heap.size) : ndSt s a b x y w m wr d3 d4 true false v4 v' W' := by
  have ho := Only.of_grown hg
  have hl := h.base.low
  have hgt := h.base.gt
  refine ⟨cells_only h.inn ho (fun e => by have := h.B _ e.symm; omega), h.foot.trans ho fun _ _ e => Or.inr (Or.inl e), h.base, fun e => cells_only (h.rcd e) ho (fun e => by have := h.B _ e.symm; omega), fun _ e => (by cases e), fun e => (by cases e), fun _ => ⟨hrow, ?_⟩, fun e => (by cases e)⟩
  rcases hat with e | e
  · exact Or.inl e
  · exact Or.inr ⟨_, e, h.foot.size⟩
theorem ndSt.store (h : ndSt s a b x y w m wr d3 d4 true false v4 v5 W) : ndSt s a b x y w m wr d3 d4 true true v4 v5 (W.setCell ⟨m, 5, none⟩ v5) := by
  have ho := Only.of_set W ⟨m, 5, none⟩ v5
  have hl := h.base.low
  have hgt := h.base.gt
  exact ⟨cells_only h.inn ho (by show ¬ (w.heap.size + 1 = m); omega), h.foot.trans ho fun _ _ e => Or.inr (Or.inr e), h.base, fun e => (by cases e), fun _ e => (by cases e), fun e => (by cases e),
    fun e => ⟨row_only (h.new e).1 ho fun i hi e2 => by have := ((h.new e).1.lt i hi).1; have e3 : i = m := e2; omega, (h.new e).2⟩, fun _ => (h.rcd rfl).set_ 5 v5⟩
/-- The node stands behind the others. -/
theorem ndSt.done (h : ndSt s a b x y w m wr true d4 true true v4 v5 W) : ∃ B' d', rfSt w m W { x with nodes := x.nodes ++ [inV 3 s a b] } s (inA 3 s a b) (inB 3 s a b) { y with B := B', d := d' } := by
  obtain ⟨hrow, hat⟩ := h.new rfl
  have hb := h.base
  have hl := hb.low
  have hgt := hb.gt
  have hB : ∀ i, (Value.slice y.B x.nodes.length y.d).ownBlock = some i → m + 1 ≤ i ∧ i < wr.heap.size := fun i hi => hb.ownB hi
  have e : (x.nodes ++ [inV 3 s a b]).map (Value.int .i64) = x.nodes.map (Value.int .i64) ++ [.int .i64 (inV 3 s a b)] := by simp
  obtain ⟨B', d', rfl, _⟩ := nums_of_row (l := x.nodes ++ [inV 3 s a b]) (v := v5) (by rw [List.length_append, e]; exact hrow)
  refine ⟨B', d', h.inn, hb.foot.trans (h.foot.below hb.foot.size ?_), hgt, Nat.le_trans hl h.foot.size, h.fin rfl, cells_only hb.res h.foot ?_, row_only hb.rowA h.foot ?_, ?_, ?_⟩
  · rintro k (e1 | e1 | e1)
    · omega
    · have := hB _ e1.symm; omega
    · omega
  · rintro (e1 | e1 | e1)
    · omega
    · have := hB _ e1.symm; omega
    · omega
  · rintro i hi (e1 | e1 | e1)
    · have := hb.ownA hi; omega
    · exact hb.apart i hi e1.symm
    · have := hb.ownA hi; omega
  · show W.ownsRow _ _ _ (.slice B' (x.nodes ++ [inV 3 s a b]).length d') (x.nodes ++ [inV 3 s a b]).length ((x.nodes ++ [inV 3 s a b]).map (Value.int .i64))
    rw [e]
    have := hrow
    rw [List.length_append] at this ⊢
    exact this
  · intro i hi hj
    rcases hat with e1 | ⟨j, e1, e2⟩
    · exact hb.apart i hi (e1.symm.trans hj)
    · have h2 := Option.some.inj (e1.symm.trans hj)
      have := (hb.ownA hi).2
      omega
end
theorem append_node {w : World} {base : Nat} {v : Value} {n : Nat} {xs : List Value} {k : Nat} {x : Int} (ho : w.ownsRow base 3 1 v n xs) (hc : Cells w k 3 [.int .i64 x]) (hn : n ≤ 1000000) (hb : base ≤ w.heap.size) :
    ∃ v' w', (Builtin.append_ #[25, 25] 25 #[v, .slice (some ⟨k, 0, none⟩) 1 1]).run Try.prog w = .ok v' w' ∧ w'.ownsRow base 3 1 v' (n + 1) (xs ++ [.int .i64 x]) ∧ w.grownBy w' v.ownBlock ∧ (v'.ownBlock = v.ownBlock ∨ v'.ownBlock = some w.heap.size) := by
  obtain ⟨i0, hi, hz0, hz1, hz2⟩ := info_parts infoInt
  obtain ⟨v', w', h1, h2, h3, _, h5⟩ := run_append_own_at (P := Try.prog) (w := w) base 25 25 3 i0 _ 1 8 Try.underlying25 hi hz0 hz1 hz2 rfl (by decide) v n xs ho ⟨k, 0, none⟩ 1 1 [.int .i64 x] rfl
    (fun j u hu => by rw [addr_add]; exact hc.cell hu) (by intro u hu; simp at hu; subst hu; rfl) (by unfold maxLen; omega) (by omega) hb
  exact ⟨v', w', h1, h2, h3, h5⟩
/-- Six numbers that are being written, one by one. -/
def six (pre post : List Value) (a0 a1 a2 a3 a4 a5 : Int) (d0 d1 d2 d3 d4 d5 : Bool) : List Value := pre ++ ([.int .i64 (cond d0 a0 0), .int .i64 (cond d1 a1 0), .int .i64 (cond d2 a2 0), .int .i64 (cond d3 a3 0), .int .i64 (cond d4 a4 0), .int .i64 (cond d5 a5 0)] ++ post)
structure wr6 (m : Nat) (wr : World) (n : Nat) (pre post : List Value) (a0 a1 a2 a3 a4 a5 : Int) (d0 d1 d2 d3 d4 d5 : Bool) (W : World) : Prop where
  len : pre.length = n
  cells : Cells W m 31 (six pre post a0 a1 a2 a3 a4 a5 d0 d1 d2 d3 d4 d5)
  only : Only (fun k => k = m) wr W
section
variable {m n : Nat} {wr W : World} {pre post : List Value} {a0 a1 a2 a3 a4 a5 : Int} {d0 d1 d2 d3 d4 d5 : Bool}
theorem six_length (h : pre.length = n) : n + 6 ≤ (six pre post a0 a1 a2 a3 a4 a5 d0 d1 d2 d3 d4 d5).length := by unfold six; simp; omega
theorem wr6.c0 (h : wr6 m wr n pre post a0 a1 a2 a3 a4 a5 d0 d1 d2 d3 d4 d5 W) : W.cell? ⟨m, n, none⟩ = some (.int .i64 (cond d0 a0 0)) := h.cells.cell (by unfold six; rw [List.getElem?_append_right (by have := h.len; omega)]; simp [h.len])
theorem wr6.f0 (h : wr6 m wr n pre post a0 a1 a2 a3 a4 a5 d0 d1 d2 d3 d4 d5 W) : W.frozen? ⟨m, n, none⟩ = false := h.cells.frozen (by have := six_length (post := post) (a0 := a0) (a1 := a1) (a2 := a2) (a3 := a3) (a4 := a4) (a5 := a5) (d0 := d0) (d1 := d1) (d2 := d2) (d3 := d3) (d4 := d4) (d5 := d5) h.len; omega)
theorem wr6.st0 (h : wr6 m wr n pre post a0 a1 a2 a3 a4 a5 d0 d1 d2 d3 d4 d5 W) : wr6 m wr n pre post a0 a1 a2 a3 a4 a5 true d1 d2 d3 d4 d5 (W.setCell ⟨m, n, none⟩ (.int .i64 a0)) := by
  refine ⟨h.len, ?_, h.only.trans (S' := fun k => k = m) (Only.of_set W ⟨m, n, none⟩ _) fun k _ e => e⟩
  have h1 := h.cells.set_ (n) (.int .i64 a0)
  have e : (six pre post a0 a1 a2 a3 a4 a5 d0 d1 d2 d3 d4 d5).set (n) (.int .i64 a0) = six pre post a0 a1 a2 a3 a4 a5 true d1 d2 d3 d4 d5 := by
    unfold six
    rw [List.set_append_right _ _ (by have := h.len; omega)]
    have := h.len
    subst this
    simp
  rw [e] at h1
  exact h1
theorem wr6.c1 (h : wr6 m wr n pre post a0 a1 a2 a3 a4 a5 d0 d1 d2 d3 d4 d5 W) : W.cell? ⟨m, n + 1, none⟩ = some (.int .i64 (cond d1 a1 0)) := h.cells.cell (by unfold six; rw [List.getElem?_append_right (by have := h.len; omega)]; simp [h.len])
theorem wr6.f1 (h : wr6 m wr n pre post a0 a1 a2 a3 a4 a5 d0 d1 d2 d3 d4 d5 W) : W.frozen? ⟨m, n + 1, none⟩ = false := h.cells.frozen (by have := six_length (post := post) (a0 := a0) (a1 := a1) (a2 := a2) (a3 := a3) (a4 := a4) (a5 := a5) (d0 := d0) (d1 := d1) (d2 := d2) (d3 := d3) (d4 := d4) (d5 := d5) h.len; omega)
theorem wr6.st1 (h : wr6 m wr n pre post a0 a1 a2 a3 a4 a5 d0 d1 d2 d3 d4 d5 W) : wr6 m wr n pre post a0 a1 a2 a3 a4 a5 d0 true d2 d3 d4 d5 (W.setCell ⟨m, n + 1, none⟩ (.int .i64 a1)) := by
  refine ⟨h.len, ?_, h.only.trans (S' := fun k => k = m) (Only.of_set W ⟨m, n + 1, none⟩ _) fun k _ e => e⟩
  have h1 := h.cells.set_ (n + 1) (.int .i64 a1)
  have e : (six pre post a0 a1 a2 a3 a4 a5 d0 d1 d2 d3 d4 d5).set (n + 1) (.int .i64 a1) = six pre post a0 a1 a2 a3 a4 a5 d0 true d2 d3 d4 d5 := by
    unfold six
    rw [List.set_append_right _ _ (by have := h.len; omega)]
    have := h.len
    subst this
    simp
  rw [e] at h1
  exact h1
theorem wr6.c2 (h : wr6 m wr n pre post a0 a1 a2 a3 a4 a5 d0 d1 d2 d3 d4 d5 W) : W.cell? ⟨m, n + 2, none⟩ = some (.int .i64 (cond d2 a2 0)) := h.cells.cell (by unfold six; rw [List.getElem?_append_right (by have := h.len; omega)]; simp [h.len])
theorem wr6.f2 (h : wr6 m wr n pre post a0 a1 a2 a3 a4 a5 d0 d1 d2 d3 d4 d5 W) : W.frozen? ⟨m, n + 2, none⟩ = false := h.cells.frozen (by have := six_length (post := post) (a0 := a0) (a1 := a1) (a2 := a2) (a3 := a3) (a4 := a4) (a5 := a5) (d0 := d0) (d1 := d1) (d2 := d2) (d3 := d3) (d4 := d4) (d5 := d5) h.len; omega)
theorem wr6.st2 (h : wr6 m wr n pre post a0 a1 a2 a3 a4 a5 d0 d1 d2 d3 d4 d5 W) : wr6 m wr n pre post a0 a1 a2 a3 a4 a5 d0 d1 true d3 d4 d5 (W.setCell ⟨m, n + 2, none⟩ (.int .i64 a2)) := by
  refine ⟨h.len, ?_, h.only.trans (S' := fun k => k = m) (Only.of_set W ⟨m, n + 2, none⟩ _) fun k _ e => e⟩
  have h1 := h.cells.set_ (n + 2) (.int .i64 a2)
  have e : (six pre post a0 a1 a2 a3 a4 a5 d0 d1 d2 d3 d4 d5).set (n + 2) (.int .i64 a2) = six pre post a0 a1 a2 a3 a4 a5 d0 d1 true d3 d4 d5 := by
    unfold six
    rw [List.set_append_right _ _ (by have := h.len; omega)]
    have := h.len
    subst this
    simp
  rw [e] at h1
  exact h1
theorem wr6.c3 (h : wr6 m wr n pre post a0 a1 a2 a3 a4 a5 d0 d1 d2 d3 d4 d5 W) : W.cell? ⟨m, n + 3, none⟩ = some (.int .i64 (cond d3 a3 0)) := h.cells.cell (by unfold six; rw [List.getElem?_append_right (by have := h.len; omega)]; simp [h.len])
theorem wr6.f3 (h : wr6 m wr n pre post a0 a1 a2 a3 a4 a5 d0 d1 d2 d3 d4 d5 W) : W.frozen? ⟨m, n + 3, none⟩ = false := h.cells.frozen (by have := six_length (post := post) (a0 := a0) (a1 := a1) (a2 := a2) (a3 := a3) (a4 := a4) (a5 := a5) (d0 := d0) (d1 := d1) (d2 := d2) (d3 := d3) (d4 := d4) (d5 := d5) h.len; omega)
theorem wr6.st3 (h : wr6 m wr n pre post a0 a1 a2 a3 a4 a5 d0 d1 d2 d3 d4 d5 W) : wr6 m wr n pre post a0 a1 a2 a3 a4 a5 d0 d1 d2 true d4 d5 (W.setCell ⟨m, n + 3, none⟩ (.int .i64 a3)) := by
  refine ⟨h.len, ?_, h.only.trans (S' := fun k => k = m) (Only.of_set W ⟨m, n + 3, none⟩ _) fun k _ e => e⟩
  have h1 := h.cells.set_ (n + 3) (.int .i64 a3)
  have e : (six pre post a0 a1 a2 a3 a4 a5 d0 d1 d2 d3 d4 d5).set (n + 3) (.int .i64 a3) = six pre post a0 a1 a2 a3 a4 a5 d0 d1 d2 true d4 d5 := by
    unfold six
    rw [List.set_append_right _ _ (by have := h.len; omega)]
    have := h.len
    subst this
    simp
  rw [e] at h1
  exact h1
theorem wr6.c4 (h : wr6 m wr n pre post a0 a1 a2 a3 a4 a5 d0 d1 d2 d3 d4 d5 W) : W.cell? ⟨m, n + 4, none⟩ = some (.int .i64 (cond d4 a4 0)) := h.cells.cell (by unfold six; rw [List.getElem?_append_right (by have := h.len; omega)]; simp [h.len])
theorem wr6.f4 (h : wr6 m wr n pre post a0 a1 a2 a3 a4 a5 d0 d1 d2 d3 d4 d5 W) : W.frozen? ⟨m, n + 4, none⟩ = false := h.cells.frozen (by have := six_length (post := post) (a0 := a0) (a1 := a1) (a2 := a2) (a3 := a3) (a4 := a4) (a5 := a5) (d0 := d0) (d1 := d1) (d2 := d2) (d3 := d3) (d4 := d4) (d5 := d5) h.len; omega)
theorem wr6.st4 (h : wr6 m wr n pre post a0 a1 a2 a3 a4 a5 d0 d1 d2 d3 d4 d5 W) : wr6 m wr n pre post a0 a1 a2 a3 a4 a5 d0 d1 d2 d3 true d5 (W.setCell ⟨m, n + 4, none⟩ (.int .i64 a4)) := by
  refine ⟨h.len, ?_, h.only.trans (S' := fun k => k = m) (Only.of_set W ⟨m, n + 4, none⟩ _) fun k _ e => e⟩
  have h1 := h.cells.set_ (n + 4) (.int .i64 a4)
  have e : (six pre post a0 a1 a2 a3 a4 a5 d0 d1 d2 d3 d4 d5).set (n + 4) (.int .i64 a4) = six pre post a0 a1 a2 a3 a4 a5 d0 d1 d2 d3 true d5 := by
    unfold six
    rw [List.set_append_right _ _ (by have := h.len; omega)]
    have := h.len
    subst this
    simp
  rw [e] at h1
  exact h1
theorem wr6.c5 (h : wr6 m wr n pre post a0 a1 a2 a3 a4 a5 d0 d1 d2 d3 d4 d5 W) : W.cell? ⟨m, n + 5, none⟩ = some (.int .i64 (cond d5 a5 0)) := h.cells.cell (by unfold six; rw [List.getElem?_append_right (by have := h.len; omega)]; simp [h.len])
theorem wr6.f5 (h : wr6 m wr n pre post a0 a1 a2 a3 a4 a5 d0 d1 d2 d3 d4 d5 W) : W.frozen? ⟨m, n + 5, none⟩ = false := h.cells.frozen (by have := six_length (post := post) (a0 := a0) (a1 := a1) (a2 := a2) (a3 := a3) (a4 := a4) (a5 := a5) (d0 := d0) (d1 := d1) (d2 := d2) (d3 := d3) (d4 := d4) (d5 := d5) h.len; omega)
theorem wr6.st5 (h : wr6 m wr n pre post a0 a1 a2 a3 a4 a5 d0 d1 d2 d3 d4 d5 W) : wr6 m wr n pre post a0 a1 a2 a3 a4 a5 d0 d1 d2 d3 d4 true (W.setCell ⟨m, n + 5, none⟩ (.int .i64 a5)) := by
  refine ⟨h.len, ?_, h.only.trans (S' := fun k => k = m) (Only.of_set W ⟨m, n + 5, none⟩ _) fun k _ e => e⟩
  have h1 := h.cells.set_ (n + 5) (.int .i64 a5)
  have e : (six pre post a0 a1 a2 a3 a4 a5 d0 d1 d2 d3 d4 d5).set (n + 5) (.int .i64 a5) = six pre post a0 a1 a2 a3 a4 a5 d0 d1 d2 d3 d4 true := by
    unfold six
    rw [List.set_append_right _ _ (by have := h.len; omega)]
    have := h.len
    subst this
    simp
  rw [e] at h1
  exact h1
end
/-- What is still read from some place on: whether; nodes; items; the name. -/
def e39 (k : Int) (T : Rc × ByteArray × Bool) : Rc × ByteArray × Bool := if says k = true then stepF 9 T else T
def e31 (k : Int) (T : Rc × ByteArray × Bool) : Rc × ByteArray × Bool := e39 k (if k = 7 ∨ k = 9 then stepF 8 T else T)
def e17 (k : Int) (T : Rc × ByteArray × Bool) : Rc × ByteArray × Bool := e31 k (if k = 9 then stepF 7 T else T)
def e13 (k : Int) (T : Rc × ByteArray × Bool) : Rc × ByteArray × Bool := e17 k (if named k = true then stepF 6 T else T)
theorem e13_eq {k : Int} (h : 1 ≤ k ∧ k ≤ 15) (T : Rc × ByteArray × Bool) : foldF (tl k) T = e13 k T := by
  rcases (show k = 1 ∨ k = 2 ∨ k = 3 ∨ k = 4 ∨ k = 5 ∨ k = 6 ∨ k = 7 ∨ k = 8 ∨ k = 9 ∨ k = 10 ∨ k = 11 ∨ k = 12 ∨ k = 13 ∨ k = 14 ∨ k = 15 by omega) with rfl | rfl | rfl | rfl | rfl | rfl | rfl | rfl | rfl | rfl | rfl | rfl | rfl | rfl | rfl <;> rfl
theorem e39_true {k : Int} {T : Rc × ByteArray × Bool} (h : T.2.2 = true) : (e39 k T).2.2 = true := by
  unfold e39
  split
  · exact step_true _ _ h
  · exact h
theorem e31_true {k : Int} {T : Rc × ByteArray × Bool} (h : T.2.2 = true) : (e31 k T).2.2 = true := by
  unfold e31
  apply e39_true
  split
  · exact step_true _ _ h
  · exact h
end Go.Proofs.Ytfnkjdkckpdfhaa.Msg
