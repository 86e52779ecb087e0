/-
  Layer 7: what lies where while the document reads a record. Conditions: none.
-/
import Derived.Test.YtdmekfeggdodnaaRecRd4
import Derived.Test.YtdmekfeggdodnaaRow
namespace Go.Proofs.Ytdmekfeggdodnaa.Rec
set_option maxRecDepth 100000
open Go.RowKit Go.Proofs.Ytdmekfeggdodnaa.Mem Go.Proofs.Ytdmekfeggdodnaa.Item Go.Proofs.Ytdmekfeggdodnaa.Wire

/-- Is it refused (o)? -/
def FinOut (s : ByteArray) (w : World) (x : Rc) (a : Nat) (b : Bool) (y : Lay) (v : Value) (wx : World) : Prop := ∃ o : Bool, v = .bool o ∧ rfSt w wx x s a b y ∧ (o = true → dec s = none) ∧ (o = false → dec s = some x)
theorem only_cell {S : Nat → Prop} {w w' : World} {p : Addr} {v : Value} (ho : Only S w w') (hc : w.cell? p = some v) (hn : ¬ S p.block) : w'.cell? p = some v :=
  (World.cell?_of_block (w := w) (w' := w') (a := p) (ho.block _ (block_of_cell hc) hn)).trans hc
theorem rfSt.both {w wr wq : World} {x : Rc} {s : ByteArray} {a a' : Nat} {b b' : Bool} {y : Lay} (h : rfSt w wr x s a b y) (hi : In wq (w.heap.size + 1) s a' b') (ho : Only (fun k => k = w.heap.size + 1 ∨ wr.heap.size ≤ k) wr wq) : rfSt w wq x s a' b' y := by
  have hl := h.low
  refine ⟨hi, h.foot.trans (ho.below h.foot.size fun k hk => by have := h.foot.size; omega), Nat.le_trans h.low ho.size, cells_only h.rcd ho (by omega), cells_only h.res ho (by omega),
    row_only h.rowA ho fun i hi e => by have := h.ownA hi; omega, row_only h.rowB ho fun i hi e => by have := h.ownB hi; omega, h.apart⟩
/-- The answer is written: all else stays. -/
theorem rfSt.ended {w wr wq : World} {x : Rc} {s : ByteArray} {a : Nat} {b : Bool} {y : Lay} (h : rfSt w wr x s a b y) (ho : Only (fun k => k = w.heap.size) wr wq) : Has wq x y ∧ Below w.heap.size w wq :=
  ⟨⟨Items.only h.has.items ho fun h0 b off e hs => by have := own_off h.rowA b off e; omega, Nums.only h.has.nodes ho fun h0 b off e hs => by have := own_off h.rowB b off e; omega⟩,
    h.foot.trans (ho.below h.foot.size fun k hk => by rw [hk]; exact Nat.le_refl _)⟩
theorem numN_plain (s : ByteArray) (l : List Int) : ∀ {t : Rc × Nat × Bool} {k : Int}, Plain t.1 k → Plain (numN s l t).1 k := by
  induction l with
  | nil => intro t k h; exact h
  | cons z l ih => intro t k h; exact ih (plain_set h _ _)
theorem numN_le (s : ByteArray) (l : List Int) : ∀ {t : Rc × Nat × Bool}, t.2.1 ≤ s.size → (numN s l t).2.1 ≤ s.size := by
  induction l with
  | nil => intro t h; exact h
  | cons z l ih => intro t h; exact ih (inA_le 3 s _ _ h)
theorem itsA_le (s : ByteArray) (n : Nat) {a : Nat} {b : Bool} (h : a ≤ s.size) : (itsA s n a b).1 ≤ s.size := by
  induction n with
  | zero => exact h
  | succ n ih => exact inA_le 3 s _ _ (inA_le 1 s _ _ (inA_le 3 s _ _ (inA_le 3 s _ _ (inA_le 3 s _ _ ih))))
theorem ndsA_le (s : ByteArray) (n : Nat) {a : Nat} {b : Bool} (h : a ≤ s.size) : (ndsA s n a b).1 ≤ s.size := by
  induction n with
  | zero => exact h
  | succ n ih => exact inA_le 3 s _ _ ih
theorem flat_push (l : List It) (x : It) : flat (l ++ [x]) = flat l ++ x.vals := by unfold flat; rw [List.flatMap_append]; simp
/-- An item is put behind the record's. -/
theorem rfSt.push_item {w W W1 wq : World} {x : Rc} {s : ByteArray} {a : Nat} {b : Bool} {y : Lay} {it : It} {A' : Option Addr} {c' n' : Nat} (h : rfSt w W x s a b y) (hb : Below W.heap.size W W1)
    (hrow : wq.ownsRow (w.heap.size + 3) 29 5 (.slice A' n' c') (x.items.length + 1) (flat x.items ++ it.vals)) (hg : W1.grownBy wq (Value.slice y.A x.items.length y.c).ownBlock)
    (hat : (Value.slice A' n' c').ownBlock = (Value.slice y.A x.items.length y.c).ownBlock ∨ (Value.slice A' n' c').ownBlock = some W1.heap.size) :
    rfSt w (wq.setCell ⟨w.heap.size + 1 + 1, 4, none⟩ (.slice A' n' c')) { x with items := x.items ++ [it] } s a b { y with A := A', c := c' } := by
  have h1 := h.later hb
  have ho := Only.of_grown hg
  have ho2 : Only (fun k => some k = (Value.slice y.A x.items.length y.c).ownBlock ∨ k = w.heap.size + 1 + 1) W1 (wq.setCell ⟨w.heap.size + 1 + 1, 4, none⟩ (.slice A' n' c')) :=
    (ho.mono fun k _ e => Or.inl e).trans (Only.of_set wq ⟨w.heap.size + 1 + 1, 4, none⟩ _) fun k _ e => Or.inr e
  have hA : ∀ i, (Value.slice y.A x.items.length y.c).ownBlock = some i → w.heap.size + 3 ≤ i ∧ i < W1.heap.size := fun i hi => h1.ownA hi
  have hlow := h1.low
  obtain ⟨A2, c2, hv, _⟩ := items_of_row (l := x.items ++ [it]) (v := .slice A' n' c') (by rw [List.length_append, flat_push]; exact hrow)
  have hn : n' = (x.items ++ [it]).length := by
    simp only [Value.slice.injEq] at hv
    exact hv.2.1
  subst hn
  have hrow2 : (wq.setCell ⟨w.heap.size + 1 + 1, 4, none⟩ (.slice A' (x.items ++ [it]).length c')).ownsRow (w.heap.size + 3) 29 5 (.slice A' (x.items ++ [it]).length c') (x.items ++ [it]).length (flat (x.items ++ [it])) := by
    rw [flat_push]
    have hr : wq.ownsRow (w.heap.size + 3) 29 5 (.slice A' (x.items ++ [it]).length c') (x.items ++ [it]).length (flat x.items ++ it.vals) := by
      have h := hrow
      rw [List.length_append] at h ⊢
      exact h
    exact row_only hr (Only.of_set wq ⟨w.heap.size + 1 + 1, 4, none⟩ _) fun i hi e => by have := (hrow.lt i hi).1; have e2 : i = w.heap.size + 1 + 1 := e; omega
  refine ⟨cells_only h1.inn ho2 ?_, h1.foot.trans (ho2.below h1.foot.size ?_), Nat.le_trans hlow ho2.size, ?_, cells_only h1.res ho2 ?_, hrow2, row_only h1.rowB ho2 ?_, ?_⟩
  · rintro (e | e)
    · have := hA _ e.symm; omega
    · omega
  · rintro k (e | e)
    · have := hA _ e.symm; omega
    · omega
  · exact (cells_only h1.rcd ho (fun e => by have := hA _ e.symm; omega)).set_ 4 (.slice A' (x.items ++ [it]).length c')
  · rintro (e | e)
    · have := hA _ e.symm; omega
    · omega
  · rintro i hi (e | e)
    · exact h1.apart i e.symm hi
    · have := h1.ownB hi; omega
  · intro i hi hj
    rcases hat with e | e
    · exact h1.apart i (e.symm.trans hi) hj
    · have h2 := Option.some.inj (e.symm.trans hi)
      have := (h1.ownB hj).2
      omega
/-- While a node is read and put behind the others. -/
structure ndSt (s : ByteArray) (a : Nat) (b : Bool) (x : Rc) (y : Lay) (w wr : World) (d3 d4 d5 d7 : Bool) (v4 v5 : Value) (W : World) : Prop where
  inn : In W (w.heap.size + 1) s (cond d3 (inA 3 s a b) a) (cond d3 (inB 3 s a b) b)
  foot : Only (fun k => k = w.heap.size + 1 ∨ some k = (Value.slice y.B x.nodes.length y.d).ownBlock ∨ k = w.heap.size + 1 + 1) wr W
  base : rfSt w wr x s a b y
  rcd : d7 = false → Cells W (w.heap.size + 1 + 1) 39 (x.vals y)
  blk : d4 = true → d5 = false → ∃ j, v4 = .slice (some ⟨j, 0, none⟩) 1 1 ∧ wr.heap.size ≤ j ∧ Cells W j 3 [.int .i64 (inV 3 s a b)]
  old : d5 = false → W.ownsRow (w.heap.size + 3) 3 1 (.slice y.B x.nodes.length y.d) x.nodes.length (x.nodes.map (Value.int .i64))
  new : d5 = true → W.ownsRow (w.heap.size + 3) 3 1 v5 (x.nodes.length + 1) (x.nodes.map (Value.int .i64) ++ [.int .i64 (inV 3 s a b)]) ∧ (v5.ownBlock = (Value.slice y.B x.nodes.length y.d).ownBlock ∨ ∃ i, v5.ownBlock = some i ∧ wr.heap.size ≤ i)
  fin : d7 = true → Cells W (w.heap.size + 1 + 1) 39 ((x.vals y).set 5 v5)
section
variable {s : ByteArray} {a : Nat} {b : Bool} {x : Rc} {y : Lay} {w wr : World} {d3 d4 d5 d7 : Bool} {v4 v5 : Value} {W W' : World}
theorem ndSt.B (h : ndSt s a b x y w wr d3 d4 d5 d7 v4 v5 W) : ∀ i, (Value.slice y.B x.nodes.length y.d).ownBlock = some i → w.heap.size + 3 ≤ i := fun _ hi => (h.base.ownB hi).1
theorem ndSt.call (h : ndSt s a b x y w wr false d4 d5 d7 v4 v5 W) (hi : In W' (w.heap.size + 1) s (inA 3 s a b) (inB 3 s a b)) (ho : Only (fun k => k = w.heap.size + 1) W W') : ndSt s a b x y w wr true d4 d5 d7 v4 v5 W' := by
  have hl := h.base.low
  refine ⟨hi, h.foot.trans ho fun _ _ e => Or.inl e, h.base, fun e => cells_only (h.rcd e) ho (by omega), fun e1 e2 => ?_, fun e => row_only (h.old e) ho fun i hi _ => by have := h.B i hi; omega, fun e => ⟨row_only (h.new e).1 ho fun i hi e2 => by have := ((h.new e).1.lt i hi).1; omega, (h.new e).2⟩, fun e => cells_only (h.fin e) ho (by omega)⟩
  obtain ⟨j, h1, h2, h3⟩ := h.blk e1 e2
  exact ⟨j, h1, h2, cells_only h3 ho (by omega)⟩
theorem ndSt.alloc (h : ndSt s a b x y w wr d3 false false d7 v4 v5 W) : ndSt s a b x y w wr d3 true false d7 (.slice (some ⟨W.heap.size, 0, none⟩) 1 1) v5 (W.alloc (.cells #[.int .i64 (inV 3 s a b)] 3)) :=
  ⟨Cells.later h.inn (below_alloc _ _), h.foot.trans (S' := fun _ => False) (Only.of_below (below_alloc _ _)) fun _ _ e => e.elim, h.base, fun e => (h.rcd e).later (below_alloc _ _), fun _ _ => ⟨_, rfl, h.foot.size, cells_new W _ _ _ rfl⟩, fun e => (h.old e).alloc _, fun e => (by cases e), fun e => (h.fin e).later (below_alloc _ _)⟩
theorem ndSt.append {v' : Value} (h : ndSt s a b x y w wr d3 d4 false false v4 v5 W) (hrow : W'.ownsRow (w.heap.size + 3) 3 1 v' (x.nodes.length + 1) (x.nodes.map (Value.int .i64) ++ [.int .i64 (inV 3 s a b)])) (hg : W.grownBy W' (Value.slice y.B x.nodes.length y.d).ownBlock)
    (hat : v'.ownBlock = (Value.slice y.B x.nodes.length y.d).ownBlock ∨ v'.ownBlock = some W.heap.size) : ndSt s a b x y w wr d3 d4 true false v4 v' W' := by
  have ho := Only.of_grown hg
  have hl := h.base.low
  refine ⟨cells_only h.inn ho (fun e => by have := h.B _ e.symm; omega), h.foot.trans ho fun _ _ e => Or.inr (Or.inl e), h.base, fun e => cells_only (h.rcd e) ho (fun e => by have := h.B _ e.symm; omega), fun _ e => (by cases e), fun e => (by cases e), fun _ => ⟨hrow, ?_⟩, fun e => (by cases e)⟩
  rcases hat with e | e
  · exact Or.inl e
  · exact Or.inr ⟨_, e, h.foot.size⟩
theorem ndSt.store (h : ndSt s a b x y w wr d3 d4 true false v4 v5 W) : ndSt s a b x y w wr d3 d4 true true v4 v5 (W.setCell ⟨w.heap.size + 1 + 1, 5, none⟩ v5) := by
  have ho := Only.of_set W ⟨w.heap.size + 1 + 1, 5, none⟩ v5
  have hl := h.base.low
  exact ⟨cells_only h.inn ho (by show ¬ (w.heap.size + 1 = w.heap.size + 1 + 1); omega), h.foot.trans ho fun _ _ e => Or.inr (Or.inr e), h.base, fun e => (by cases e), fun _ e => (by cases e), fun e => (by cases e),
    fun e => ⟨row_only (h.new e).1 ho fun i hi e2 => by have := ((h.new e).1.lt i hi).1; have e3 : i = w.heap.size + 1 + 1 := e2; omega, (h.new e).2⟩, fun _ => (h.rcd rfl).set_ 5 v5⟩
/-- The node stands behind the others. -/
theorem ndSt.done (h : ndSt s a b x y w wr true d4 true true v4 v5 W) : ∃ B' d', rfSt w W { x with nodes := x.nodes ++ [inV 3 s a b] } s (inA 3 s a b) (inB 3 s a b) { y with B := B', d := d' } := by
  obtain ⟨hrow, hat⟩ := h.new rfl
  have hb := h.base
  have hl := hb.low
  have hB : ∀ i, (Value.slice y.B x.nodes.length y.d).ownBlock = some i → w.heap.size + 3 ≤ i ∧ i < wr.heap.size := fun i hi => hb.ownB hi
  have e : (x.nodes ++ [inV 3 s a b]).map (Value.int .i64) = x.nodes.map (Value.int .i64) ++ [.int .i64 (inV 3 s a b)] := by simp
  obtain ⟨B', d', rfl, _⟩ := nums_of_row (l := x.nodes ++ [inV 3 s a b]) (v := v5) (by rw [List.length_append, e]; exact hrow)
  refine ⟨B', d', h.inn, hb.foot.trans (h.foot.below hb.foot.size ?_), Nat.le_trans hl h.foot.size, h.fin rfl, cells_only hb.res h.foot ?_, row_only hb.rowA h.foot ?_, ?_, ?_⟩
  · rintro k (e1 | e1 | e1)
    · omega
    · have := hB _ e1.symm; omega
    · omega
  · rintro (e1 | e1 | e1)
    · omega
    · have := hB _ e1.symm; omega
    · omega
  · rintro i hi (e1 | e1 | e1)
    · have := hb.ownA hi; omega
    · exact hb.apart i hi e1.symm
    · have := hb.ownA hi; omega
  · show W.ownsRow _ _ _ (.slice B' (x.nodes ++ [inV 3 s a b]).length d') (x.nodes ++ [inV 3 s a b]).length ((x.nodes ++ [inV 3 s a b]).map (Value.int .i64))
    rw [e]
    have := hrow
    rw [List.length_append] at this ⊢
    exact this
  · intro i hi hj
    rcases hat with e1 | ⟨j, e1, e2⟩
    · exact hb.apart i hi (e1.symm.trans hj)
    · have h2 := Option.some.inj (e1.symm.trans hj)
      have := (hb.ownA hi).2
      omega
end
theorem append_node {w : World} {base : Nat} {v : Value} {n : Nat} {xs : List Value} {k : Nat} {x : Int} (ho : w.ownsRow base 3 1 v n xs) (hc : Cells w k 3 [.int .i64 x]) (hn : n ≤ 1000000) (hb : base ≤ w.heap.size) :
    ∃ v' w', (Builtin.append_ #[33, 33] 33 #[v, .slice (some ⟨k, 0, none⟩) 1 1]).run Try.prog w = .ok v' w' ∧ w'.ownsRow base 3 1 v' (n + 1) (xs ++ [.int .i64 x]) ∧ w.grownBy w' v.ownBlock ∧ (v'.ownBlock = v.ownBlock ∨ v'.ownBlock = some w.heap.size) := by
  obtain ⟨i0, hi, hz0, hz1, hz2⟩ := info_parts infoInt
  obtain ⟨v', w', h1, h2, h3, _, h5⟩ := run_append_own_at (P := Try.prog) (w := w) base 33 33 3 i0 _ 1 8 Try.underlying33 hi hz0 hz1 hz2 rfl (by decide) v n xs ho ⟨k, 0, none⟩ 1 1 [.int .i64 x] rfl
    (fun j u hu => by rw [addr_add]; exact hc.cell hu) (by intro u hu; simp at hu; subst hu; rfl) (by unfold maxLen; omega) (by omega) hb
  exact ⟨v', w', h1, h2, h3, h5⟩
end Go.Proofs.Ytdmekfeggdodnaa.Rec
