/-
  Layer 8's laws: rows of records of the call's own.
  Conditions: none.
-/
import Derived.Test.YtalhbblmnahcdaaGreatPa50
import Derived.Test.YtalhbblmnahcdaaGreatPa47
namespace Go.Proofs.YtalhbblmnahcdaaGreat.Led
set_option maxRecDepth 100000
open Go.RowKit Go.Deep Go.Proofs.YtalhbblmnahcdaaGreat.Mem Go.Proofs.YtalhbblmnahcdaaGreat.Item Go.Proofs.YtalhbblmnahcdaaGreat.Rec
theorem rc_one (r : Rc) (y : Lay) : ∀ u ∈ r.vals y, u.oneCell' = true := fun u hu => by
 unfold Rc.vals at hu
 simp only [List.mem_cons, List.not_mem_nil, or_false] at hu
 rcases hu with rfl | rfl | rfl | rfl | rfl | rfl | rfl | rfl | rfl | rfl | rfl | rfl | rfl | rfl | rfl <;> rfl
theorem fit_recs (l : List Rc) (ys : List Lay) : Fit 15 (List.zipWith Rc.vals l ys) := ⟨fun v hv => by obtain ⟨p, y, rfl⟩ := mem_zip hv; rfl, fun v hv => by obtain ⟨p, y, rfl⟩ := mem_zip hv; exact rc_one p y⟩
/-- A row of records of the call's own; their lists stay whatever is written into the row. -/
def RwR (T : TypeId) (B : Nat) (l : List Rc) (v : Value) (w : World) : Prop := ∃ zs : List Lay, zs.length = l.length ∧ w.ownsRow B T 15 v l.length (List.zipWith Rc.vals l zs).flatten ∧
 ∀ k (h : k < l.length) (h' : k < zs.length), Fr (fun j => some j = v.ownBlock) w l[k].items l[k].nodes zs[k]
/-- A type of records, the type of slices of them. -/
structure RT (sT T : TypeId) : Prop where
 slice : Tryz.prog.underlying sT = some (.slice T)
 info : (Tryz.prog.info? T).map (fun i => (i.zero, i.size, i.bytes)) = some (some (.agg #[.int .i64 0, .int .i64 0, .int .i64 0, .int .i64 0, .slice none 0 0, .slice none 0 0, .int .i64 0, .int .i64 0, .int .i64 0, .int .i64 0, .int .i64 0, .int .i64 0, .int .i64 0, .int .i64 0, .bool false]), 15, 152)
theorem rt_code : RT 24 51 := ⟨Tryz.underlying24, by kernel_rfl⟩
theorem rt_ref : RT 67 55 := ⟨Tryz.underlying67, by kernel_rfl⟩
section
variable {sT T : TypeId} {B : Nat} {l : List Rc} {v : Value} {w w' : World}
theorem RwR.later (h : RwR T B l v w) (hb : Below w.heap.size w w') : RwR T B l v w' := by
 obtain ⟨zs, hz, hrow, hin⟩ := h
 exact ⟨zs, hz, row_only hrow (Only.of_below (S := fun _ => False) hb) fun _ _ e => e, fun k h1 h2 => (hin k h1 h2).later hb⟩
theorem two_nil (w : World) (A B : Option Addr) : Two w [] [] ⟨A, 0, B, 0⟩ := ⟨items_nil _ _, nums_nil _ _, fun _ => rfl, fun _ => rfl⟩
theorem fr_nil (S : Nat → Prop) (w : World) {r : Rc} (h1 : r.items = []) (h2 : r.nodes = []) : Fr S w r.items r.nodes ⟨none, 0, none, 0⟩ := fun w' _ => by rw [h1, h2]; exact two_nil _ _ _
theorem RwR.one (hB : B ≤ w.heap.size) (r : Rc) (h1 : r.items = []) (h2 : r.nodes = []) : RwR T B [r] (.slice (some ⟨w.heap.size, 0, none⟩) 1 1) (w.alloc (.cells (r.vals ⟨none, 0, none, 0⟩).toArray T)) :=
 ⟨[⟨none, 0, none, 0⟩], rfl, ⟨by simp [Rc.vals], .inr ⟨w.heap.size, 1, _, rfl, hB, heap_alloc_new w _, Nat.le_refl _, by unfold maxLen; omega, by simp [Rc.vals], by simp [Rc.vals]⟩⟩, fun k hk _ => by
  obtain rfl : k = 0 := by simp at hk; omega
  exact fr_nil _ _ h1 h2⟩
/-- One record more. -/
theorem RwR.more (hT : RT sT T) (h : RwR T B l v w) (hB : B ≤ w.heap.size) (r : Rc) (zl : Lay) (wb : World) (hb : Below w.heap.size w wb) (hf : Fr (fun j => some j = v.ownBlock) wb r.items r.nodes zl) (hl : l.length ≤ 1000000000) (g : Nat) (hg : Cells wb g T (r.vals zl)) :
  ∃ A n m w', (Builtin.append_ #[sT, sT] sT #[v, .slice (some ⟨g, 0, none⟩) 1 1]).run Tryz.prog wb = .ok (.slice A n m) w' ∧ RwR T B (l ++ [r]) (.slice A n m) w' ∧ Only (fun j => some j = v.ownBlock) wb w' := by
 obtain ⟨zs, hz, hrow, hin⟩ := h
 have hlen : (List.zipWith Rc.vals l zs).length = l.length := by rw [List.length_zipWith, hz]; exact Nat.min_self _
 have hrow' := row_only hrow (Only.of_below (S := fun _ => False) hb) fun _ _ e => e
 have hfx : Fit 15 [r.vals zl] := ⟨fun u hu => by rw [List.mem_singleton.1 hu]; rfl, fun u hu => by rw [List.mem_singleton.1 hu]; exact rc_one r zl⟩
 obtain ⟨i0, hi, hz0, hz1, hz2⟩ := info_parts hT.info
 have hsl : Sl wb (some ⟨g, 0, none⟩) 15 [r.vals zl] := cells_sl (by simpa using hg) hfx.len
 obtain ⟨v', w', hrun, hr2, hgr, _, hnew⟩ := run_append_own_at (P := Tryz.prog) wb B sT sT T i0 (.agg #[.int .i64 0, .int .i64 0, .int .i64 0, .int .i64 0, .slice none 0 0, .slice none 0 0, .int .i64 0, .int .i64 0, .int .i64 0, .int .i64 0, .int .i64 0, .int .i64 0, .int .i64 0, .int .i64 0, .bool false]) 15 152 hT.slice hi hz0 hz1 hz2 rfl (by decide) v l.length (List.zipWith Rc.vals l zs).flatten hrow'
  ⟨g, 0, none⟩ [r.vals zl].length 1 [r.vals zl].flatten (flatten_len hfx.len) (fun j u hu => sl_cell hsl hfx.len (by decide) hu) (flatten_one hfx) (by unfold maxLen; simp only [List.length_singleton]; omega) (by simp only [List.length_singleton]; omega) (Nat.le_trans hB hb.size)
 have hgo := Only.of_grown hgr
 have hvlt : ∀ k, some k = v.ownBlock → k < wb.heap.size := fun k hk => (hrow'.lt k hk.symm).2
 have e2 : (List.zipWith Rc.vals (l ++ [r]) (zs ++ [zl])) = List.zipWith Rc.vals l zs ++ [r.vals zl] := by rw [List.zipWith_append hz.symm]; rfl
 have hr3 : w'.ownsRow B T 15 v' (l ++ [r]).length (List.zipWith Rc.vals (l ++ [r]) (zs ++ [zl])).flatten := by
  rw [e2, List.flatten_append, List.length_append]
  exact hr2
 have hT2 : ∀ k, some k = v'.ownBlock → some k = v.ownBlock ∨ wb.heap.size ≤ k := fun k hk => by
  rcases hnew with e | e
  ·rw [e] at hk; exact Or.inl hk
  ·rw [e] at hk; obtain rfl := Option.some.inj hk; exact Or.inr (Nat.le_refl _)
 have hrw : RwR T B (l ++ [r]) v' w' := ⟨zs ++ [zl], by simp [hz], hr3, fun k hk hk' => by
  by_cases hlt : k < l.length
  ·rw [List.getElem_append_left hlt, List.getElem_append_left (by omega)]
   exact ((hin k hlt (by omega)).later hb).next hgo hT2
  ·have hk2 : k = l.length := by simp at hk; omega
   subst hk2
   rw [List.getElem_append_right (Nat.le_refl _), List.getElem_append_right (by omega)]
   simp only [Nat.sub_self, hz, List.getElem_singleton]
   exact hf.next hgo hT2⟩
 rcases hr3.2 with ⟨_, h0⟩ | ⟨g2, c2, cur, h0, _⟩
 ·rw [List.length_append] at h0; simp at h0
 ·subst h0
  exact ⟨_, _, _, w', hrun, hrw, hgo⟩
theorem RwR.bel {wb : World} (h : RwR T B l v w) (hb : Below w.heap.size w wb) (hB : B ≤ w.heap.size) (ho : Only (fun j => some j = v.ownBlock) wb w') : Below B w w' := by
 obtain ⟨_, _, hrow, _⟩ := h
 exact (hb.mono hB).trans (ho.below (Nat.le_trans hB hb.size) fun j hj => (hrow.lt j hj.symm).1)
theorem RwR.fr {wb : World} (h : RwR T B l v w) (hb : Below w.heap.size w wb) (hB : B ≤ w.heap.size) {x : List It} {n : List Int} {z : Lay} (ht : ∀ w2, Below B w w2 → Two w2 x n z) : Fr (fun j => some j = v.ownBlock) wb x n z := fun w2 h2 => ht w2 (h.bel hb hB h2)
theorem RwR.recs (h : RwR T B l v w) : ∃ A c zs, v = .slice A l.length c ∧ Recs w A l zs ∧ (A = none → c = 0) := by
 obtain ⟨zs, hz, hrow, hin⟩ := h
 have hlen : (List.zipWith Rc.vals l zs).length = l.length := by rw [List.length_zipWith, hz]; exact Nat.min_self _
 have hrow2 : w.ownsRow B T 15 v (List.zipWith Rc.vals l zs).length (List.zipWith Rc.vals l zs).flatten := by rw [hlen]; exact hrow
 obtain ⟨A, c, e, h1, h2, _⟩ := own_sl hrow2 (fit_recs l zs).len
 rw [hlen] at e
 exact ⟨A, c, zs, e, ⟨h1, hz, fun k h3 h4 => (hin k h3 h4).two⟩, h2⟩
end
theorem cellsFrom_app (q : Pl) : ∀ (l : List Pl) (c : Nat), cellsFrom c (l ++ [q]) = cellsFrom c l ++ (if q = pl0 then [] else [rcC ((c + l.length : Nat) : Int) q])
 | [], c => by simp [cellsFrom]
 | x :: l, c => by
  rw [List.cons_append, cellsFrom, cellsFrom, cellsFrom_app q l (c + 1), List.append_assoc, List.length_cons, show c + 1 + l.length = c + (l.length + 1) by omega]
theorem cellsFrom_len : ∀ (l : List Pl) (c : Nat), (cellsFrom c l).length ≤ l.length
 | [], _ => Nat.le_refl _
 | x :: l, c => by
  rw [cellsFrom, List.length_append, List.length_cons]
  have := cellsFrom_len l (c + 1)
  split
  ·simp; omega
  ·simp; omega
theorem flatK_len : ∀ (l : List Co), (l.flatMap rcK).length ≤ 2 * l.length
 | [] => Nat.le_refl _
 | x :: l => by
  have h := flatK_len l
  have hk : (rcK x).length ≤ 2 := by unfold rcK; split <;> simp
  rw [List.flatMap_cons, List.length_append, List.length_cons]
  omega
theorem recs_len {s : St} (h : Small s) : (recordsL s).length ≤ 1000000 := by
 have h1 := cellsFrom_len s.places 0
 have h2 := flatK_len s.com
 have h3 := h.places
 have h4 := h.prep
 have h5 := h.dec
 have h6 := h.com
 have hE : (if s.epoch = 0 then [] else [rcE s.epoch] : List Rc).length ≤ 1 := by split <;> simp
 unfold recordsL
 simp only [List.length_cons, List.length_append, List.length_map]
 omega
/-- Where a state lies whose records are to be told. -/
structure Rx (S : TypeId) (w0 w1 : World) (g1 : Nat) (s : St) (y : Sy) : Prop where
 low : Below w0.heap.size w0 w1
 box : Cells w1 g1 S (s.vals y)
 see : Sees w1 s y
 sm : Small s
/-- While reads and an append go on, in open order. -/
structure apR (T : TypeId) (B : Nat) (l : List Rc) (r : Rc) (zl : Lay) (wr : World) (v : Value) (d10 d11 : Bool) (v10 v11 : Value) (W : World) : Prop where
 low : d11 = false → Below wr.heap.size wr W
 blk : d10 = true → d11 = false → ∃ g, v10 = .slice (some ⟨g, 0, none⟩) 1 1 ∧ Cells W g T (r.vals zl)
 fin : d11 = true → RwR T B (l ++ [r]) v11 W ∧ Only (fun j => some j = v.ownBlock) wr W
/-- While two clones are made and a record with them is put behind the others, in open order. -/
structure cpR (T : TypeId) (B : Nat) (l : List Rc) (r : Rc) (wr : World) (v : Value) (d5 d8 d9 d10 d11 : Bool) (v5 v8 v9 v10 v11 : Value) (W : World) : Prop where
 low : d11 = false → Below wr.heap.size wr W
 r5 : d5 = true → d11 = false → W.ownsRow wr.heap.size 72 5 v5 r.items.length (r.items.map It.vals).flatten
 r8 : d8 = true → d11 = false → W.ownsRow wr.heap.size 3 1 v8 r.nodes.length (r.nodes.map fun k => [Value.int .i64 k]).flatten
 r9 : d9 = true → v9 = .agg #[.int .i64 r.kind, .int .i64 r.tid.node, .int .i64 r.tid.epoch, .int .i64 r.tid.seq, v5, v8, .int .i64 r.node, .int .i64 r.count, .int .i64 r.num, .int .i64 r.cell, .int .i64 r.status, .int .i64 r.hop, .int .i64 r.version, .int .i64 r.value, .bool r.yes]
 blk : d10 = true → d11 = false → ∃ g zl, v10 = .slice (some ⟨g, 0, none⟩) 1 1 ∧ Cells W g T (r.vals zl) ∧ Fresh wr.heap.size W r.items r.nodes zl
 fin : d11 = true → RwR T B (l ++ [r]) v11 W ∧ Only (fun j => some j = v.ownBlock) wr W
section
variable {T : TypeId} {B : Nat} {l : List Rc} {r : Rc} {wr W W' : World} {d5 d8 d9 d10 d11 : Bool} {v v5 v8 v9 v10 v11 v' : Value}
theorem own_later {w w' : World} {B n sz : Nat} {eT : TypeId} {v : Value} {xs : List Value} (h : w.ownsRow B eT sz v n xs) (hb : Below w.heap.size w w') : w'.ownsRow B eT sz v n xs := row_only h (Only.of_below (S := fun _ => False) hb) fun _ _ e => e
theorem cpR.call5 (h : cpR T B l r wr v false d8 false false false v5 v8 v9 v10 v11 W) (hr : W'.ownsRow W.heap.size 72 5 v' r.items.length (r.items.map It.vals).flatten) (hb : Below W.heap.size W W') : cpR T B l r wr v true d8 false false false v' v8 v9 v10 v11 W' :=
 ⟨fun _ => (h.low rfl).trans (hb.mono (h.low rfl).size), fun _ _ => own_up (h.low rfl).size hr, fun e1 e2 => own_later (h.r8 e1 e2) hb, fun e => (by cases e), fun e => (by cases e), fun e => (by cases e)⟩
theorem cpR.call8 (h : cpR T B l r wr v d5 false false false false v5 v8 v9 v10 v11 W) (hr : W'.ownsRow W.heap.size 3 1 v' r.nodes.length (r.nodes.map fun k => [Value.int .i64 k]).flatten) (hb : Below W.heap.size W W') : cpR T B l r wr v d5 true false false false v5 v' v9 v10 v11 W' :=
 ⟨fun _ => (h.low rfl).trans (hb.mono (h.low rfl).size), fun e1 e2 => own_later (h.r5 e1 e2) hb, fun _ _ => own_up (h.low rfl).size hr, fun e => (by cases e), fun e => (by cases e), fun e => (by cases e)⟩
theorem cpR.build (h : cpR T B l r wr v true true false false false v5 v8 v9 v10 v11 W) : ∃ yy : Lay, v5 = .slice yy.A r.items.length yy.c ∧ v8 = .slice yy.B r.nodes.length yy.d ∧ cpR T B l r wr v true true true false false v5 v8 (.agg #[.int .i64 r.kind, .int .i64 r.tid.node, .int .i64 r.tid.epoch, .int .i64 r.tid.seq, .slice yy.A r.items.length yy.c, .slice yy.B r.nodes.length yy.d, .int .i64 r.node, .int .i64 r.count, .int .i64 r.num, .int .i64 r.cell, .int .i64 r.status, .int .i64 r.hop, .int .i64 r.version, .int .i64 r.value, .bool r.yes]) v10 v11 W := by
 obtain ⟨yy, e1, e2, _⟩ := fresh_of (h.r5 rfl rfl) (h.r8 rfl rfl)
 exact ⟨yy, e1, e2, h.low, h.r5, h.r8, fun _ => by rw [e1, e2], h.blk, h.fin⟩
theorem cpR.make (h : cpR T B l r wr v true true true false false v5 v8 v9 v10 v11 W) : ∃ yy : Lay, v9 = .agg #[.int .i64 r.kind, .int .i64 r.tid.node, .int .i64 r.tid.epoch, .int .i64 r.tid.seq, .slice yy.A r.items.length yy.c, .slice yy.B r.nodes.length yy.d, .int .i64 r.node, .int .i64 r.count, .int .i64 r.num, .int .i64 r.cell, .int .i64 r.status, .int .i64 r.hop, .int .i64 r.version, .int .i64 r.value, .bool r.yes] ∧ cpR T B l r wr v true true true true false v5 v8 v9 (.slice (some ⟨W.heap.size, 0, none⟩) 1 1) v11 (W.alloc (.cells #[.int .i64 r.kind, .int .i64 r.tid.node, .int .i64 r.tid.epoch, .int .i64 r.tid.seq, .slice yy.A r.items.length yy.c, .slice yy.B r.nodes.length yy.d, .int .i64 r.node, .int .i64 r.count, .int .i64 r.num, .int .i64 r.cell, .int .i64 r.status, .int .i64 r.hop, .int .i64 r.version, .int .i64 r.value, .bool r.yes] T)) := by
 obtain ⟨yy, e1, e2, hf⟩ := fresh_of (h.r5 rfl rfl) (h.r8 rfl rfl)
 have hb := below_alloc W (.cells #[.int .i64 r.kind, .int .i64 r.tid.node, .int .i64 r.tid.epoch, .int .i64 r.tid.seq, .slice yy.A r.items.length yy.c, .slice yy.B r.nodes.length yy.d, .int .i64 r.node, .int .i64 r.count, .int .i64 r.num, .int .i64 r.cell, .int .i64 r.status, .int .i64 r.hop, .int .i64 r.version, .int .i64 r.value, .bool r.yes] T)
 refine ⟨yy, by rw [h.r9 rfl, e1, e2], fun _ => (h.low rfl).trans (hb.mono (h.low rfl).size), fun e1 e2 => own_later (h.r5 e1 e2) hb, fun e1 e2 => own_later (h.r8 e1 e2) hb, h.r9, fun _ _ => ⟨_, yy, rfl, cells_new W T (r.vals yy) _ rfl, fun w2 h2 => hf w2 ((Only.of_below hb).trans h2 fun _ _ e => e)⟩, fun e => (by cases e)⟩
theorem cpR.put {sT : TypeId} (hT : RT sT T) (h : cpR T B l r wr v true true true true false v5 v8 v9 v10 v11 W) (hw : RwR T B l v wr) (hB : B ≤ wr.heap.size) (hl : l.length ≤ 1000000000) :
  ∃ g A n m w', v10 = .slice (some ⟨g, 0, none⟩) 1 1 ∧ (Builtin.append_ #[sT, sT] sT #[v, .slice (some ⟨g, 0, none⟩) 1 1]).run Tryz.prog W = .ok (.slice A n m) w' ∧ cpR T B l r wr v true true true true true v5 v8 v9 v10 (.slice A n m) w' := by
 obtain ⟨g, zl, e1, hg, hf⟩ := h.blk rfl rfl
 have hv : ∀ j, some j = v.ownBlock → j < wr.heap.size := fun j hj => by
  obtain ⟨_, _, hrow, _⟩ := hw
  exact (hrow.lt j hj.symm).2
 obtain ⟨A, n, m, w', h1, h2, h3⟩ := hw.more hT hB r zl W (h.low rfl) (fun w2 h4 => hf w2 (h4.mono fun k _ e => hv k e)) hl g hg
 exact ⟨g, A, n, m, w', e1, h1, fun e => (by cases e), fun _ e => (by cases e), fun _ e => (by cases e), h.r9, fun _ e => (by cases e), fun _ => ⟨h2, (Only.of_below (h.low rfl)).trans h3 fun _ _ e => e⟩⟩
variable {zl : Lay}
theorem apR.start {W : World} (hb : Below wr.heap.size wr W) (v10 v11 : Value) : apR T B l r zl wr v false false v10 v11 W := ⟨fun _ => hb, fun e => (by cases e), fun e => (by cases e)⟩
theorem apR.make (h : apR T B l r zl wr v false false v10 v11 W) : apR T B l r zl wr v true false (.slice (some ⟨W.heap.size, 0, none⟩) 1 1) v11 (W.alloc (.cells (r.vals zl).toArray T)) := by
 have hb := below_alloc W (.cells (r.vals zl).toArray T)
 exact ⟨fun _ => (h.low rfl).trans (hb.mono (h.low rfl).size), fun _ _ => ⟨_, rfl, cells_new W T (r.vals zl) _ rfl⟩, fun e => (by cases e)⟩
theorem apR.put {sT : TypeId} (hT : RT sT T) (h : apR T B l r zl wr v true false v10 v11 W) (hw : RwR T B l v wr) (hB : B ≤ wr.heap.size) (hl : l.length ≤ 1000000000) (hf : Fr (fun j => some j = v.ownBlock) W r.items r.nodes zl) :
  ∃ g A n m w', v10 = .slice (some ⟨g, 0, none⟩) 1 1 ∧ (Builtin.append_ #[sT, sT] sT #[v, .slice (some ⟨g, 0, none⟩) 1 1]).run Tryz.prog W = .ok (.slice A n m) w' ∧ apR T B l r zl wr v true true v10 (.slice A n m) w' := by
 obtain ⟨g, e1, hg⟩ := h.blk rfl rfl
 obtain ⟨A, n, m, w', h1, h2, h3⟩ := hw.more hT hB r zl W (h.low rfl) hf hl g hg
 exact ⟨g, A, n, m, w', e1, h1, fun e => (by cases e), fun _ e => (by cases e), fun _ => ⟨h2, (Only.of_below (h.low rfl)).trans h3 fun _ _ e => e⟩⟩
end
end Go.Proofs.YtalhbblmnahcdaaGreat.Led
