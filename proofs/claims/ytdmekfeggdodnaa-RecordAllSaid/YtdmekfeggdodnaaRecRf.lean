/-
  Layer 7: while the document's answer reads a record: what lies where. Conditions: none.
-/
import Derived.Test.YtdmekfeggdodnaaRecSim
namespace Go.Proofs.Ytdmekfeggdodnaa.Rec
set_option maxRecDepth 100000
open Go.RowKit Go.Proofs.Ytdmekfeggdodnaa.Mem Go.Proofs.Ytdmekfeggdodnaa.Item Go.Proofs.Ytdmekfeggdodnaa.Wire

/-- While the document's answer reads a record (w: the world at its beginning, S its heap's size): the answer's cells at S, the bytes' place at S + 1, the record at S + 2, its two lists own rows from S + 3 on, apart. -/
structure rfSt (w wr : World) (x : Rc) (s : ByteArray) (a : Nat) (b : Bool) (y : Lay) : Prop where
  inn : In wr (w.heap.size + 1) s a b
  foot : Below w.heap.size w wr
  low : w.heap.size + 3 ≤ wr.heap.size
  rcd : Cells wr (w.heap.size + 1 + 1) 39 (x.vals y)
  res : Cells wr w.heap.size 39 zeroC
  rowA : wr.ownsRow (w.heap.size + 3) 29 5 (.slice y.A x.items.length y.c) x.items.length (flat x.items)
  rowB : wr.ownsRow (w.heap.size + 3) 3 1 (.slice y.B x.nodes.length y.d) x.nodes.length (x.nodes.map (Value.int .i64))
  apart : ∀ i, (Value.slice y.A x.items.length y.c).ownBlock = some i → (Value.slice y.B x.nodes.length y.d).ownBlock ≠ some i
section
variable {w wr wq : World} {x x' : Rc} {s : ByteArray} {a a' : Nat} {b b' : Bool} {y y' : Lay}
theorem rfSt.ownA (h : rfSt w wr x s a b y) {i : Nat} (hi : (Value.slice y.A x.items.length y.c).ownBlock = some i) : w.heap.size + 3 ≤ i ∧ i < wr.heap.size := h.rowA.lt i hi
theorem rfSt.ownB (h : rfSt w wr x s a b y) {i : Nat} (hi : (Value.slice y.B x.nodes.length y.d).ownBlock = some i) : w.heap.size + 3 ≤ i ∧ i < wr.heap.size := h.rowB.lt i hi
theorem rfSt.has (h : rfSt w wr x s a b y) : Has wr x y := by
  obtain ⟨A, c, h1, h2⟩ := items_of_row h.rowA
  obtain ⟨B, d, h3, h4⟩ := nums_of_row h.rowB
  simp only [Value.slice.injEq] at h1 h3
  exact ⟨by rw [h1.1]; exact h2, by rw [h3.1]; exact h4⟩
/-- Nothing old is touched. -/
theorem rfSt.later (h : rfSt w wr x s a b y) (hb : Below wr.heap.size wr wq) : rfSt w wq x s a b y :=
  ⟨Cells.later h.inn hb, h.foot.trans (hb.mono h.foot.size), Nat.le_trans h.low hb.size, h.rcd.later hb, h.res.later hb, row_only (S := fun _ => False) h.rowA (Only.of_below hb) fun _ _ e => e, row_only (S := fun _ => False) h.rowB (Only.of_below hb) fun _ _ e => e, h.apart⟩
/-- The place goes on. -/
theorem rfSt.step (h : rfSt w wr x s a b y) (hi : In wq (w.heap.size + 1) s a' b') (ho : Only (fun k => k = w.heap.size + 1) wr wq) : rfSt w wq x s a' b' y :=
  ⟨hi, h.foot.trans (ho.below h.foot.size fun k hk => by rw [hk]; omega), Nat.le_trans h.low ho.size, cells_only h.rcd ho (by omega), cells_only h.res ho (by omega),
    row_only h.rowA ho fun i hi e => by have := (h.ownA hi).1; omega, row_only h.rowB ho fun i hi e => by have := (h.ownB hi).1; omega, h.apart⟩
/-- The record's cells turn, its lists stay. -/
theorem rfSt.put (h : rfSt w wr x s a b y) (ho : Only (fun k => k = w.heap.size + 1 + 1) wr wq) (hr : Cells wq (w.heap.size + 1 + 1) 39 (x'.vals y)) (e1 : x'.items = x.items) (e2 : x'.nodes = x.nodes) : rfSt w wq x' s a b y := by
  refine ⟨cells_only h.inn ho (by omega), h.foot.trans (ho.below h.foot.size fun k hk => by rw [hk]; omega), Nat.le_trans h.low ho.size, hr, cells_only h.res ho (by omega), ?_, ?_, ?_⟩
  · rw [e1]; exact row_only h.rowA ho fun i hi e => by have := (h.ownA hi).1; omega
  · rw [e2]; exact row_only h.rowB ho fun i hi e => by have := (h.ownB hi).1; omega
  · rw [e1, e2]; exact h.apart
end
end Go.Proofs.Ytdmekfeggdodnaa.Rec
