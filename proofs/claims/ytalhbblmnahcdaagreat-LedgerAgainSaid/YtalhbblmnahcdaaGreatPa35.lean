/-
  Layer 8: Prepared.
  Conditions: none.
-/
import Derived.Test.YtalhbblmnahcdaaGreatPa30
namespace Go.Proofs.YtalhbblmnahcdaaGreat.Led
set_option maxRecDepth 100000
open Go.RowKit Go.Deep Go.Proofs.YtalhbblmnahcdaaGreat.Mem Go.Proofs.YtalhbblmnahcdaaGreat.Item Go.Proofs.YtalhbblmnahcdaaGreat.Rec
def isPart (s : St) (l : List Int) : Bool := l.any fun x => decide (x = s.node)
def insI (l : List Pr) (p : Pr) : Nat := bsAt (l.map fun x => ord x.tid p.tid)
theorem insI_le (l : List Pr) (p : Pr) : insI l p ≤ l.length := by
 have h := bsAt_le (l.map fun x => ord x.tid p.tid)
 rw [List.length_map] at h
 exact h
def insAt {α : Type} (l : List α) (i : Nat) (x : α) : List α := l.take i ++ x :: l.drop i
theorem insAt_len {α : Type} {l : List α} {i : Nat} (x : α) (h : i ≤ l.length) : (insAt l i x).length = l.length + 1 := by unfold insAt; simp; omega
theorem insAt_at {α : Type} {l : List α} {i j : Nat} {x : α} (hi : i ≤ l.length) : (insAt l i x)[j]? = if j < i then l[j]? else if j = i then some x else l[j - 1]? := by
 unfold insAt
 rw [List.getElem?_append, List.length_take, Nat.min_eq_left hi]
 split
 ·rename_i h
  rw [List.getElem?_take_of_lt h]
 ·rename_i h
  split
  ·rename_i h2
   rw [h2, Nat.sub_self]
   rfl
  ·rename_i h2
   obtain ⟨m, hm⟩ : ∃ m, j - i = m + 1 := ⟨j - i - 1, by omega⟩
   rw [hm, List.getElem?_cons_succ, List.getElem?_drop]
   congr 1
   omega
theorem zip_ins (l : List Pr) (ys : List Lay) (i : Nat) (p : Pr) (lay : Lay) (hy : ys.length = l.length) : List.zipWith Pr.vals (insAt l i p) (insAt ys i lay) = (List.zipWith Pr.vals l ys).take i ++ p.vals lay :: (List.zipWith Pr.vals l ys).drop i := by
 unfold insAt
 rw [List.zipWith_append (by rw [List.length_take, List.length_take]; omega), List.take_zipWith, List.zipWith_cons_cons, List.drop_zipWith]
section
variable {base b : Nat} {s : St} {y : Sy} {w w0 w1 w' : World}
/-- A clone that has just been made. -/
def KP (b : Nat) (y : Sy) (p : Pr) (w0 : World) (v : Value) (W : World) : Prop := Below w0.heap.size w0 W ∧ ∃ lay, v = .agg (p.vals lay).toArray ∧ Fr (fun j => sb b j ∨ rowsOf y j) W p.items p.nodes lay
theorem KP.make {p : Pr} {lay : Lay} (h : Own base w b s y) (hb : Below w0.heap.size w0 w) (hf : Fresh w.heap.size w' p.items p.nodes lay) (hb' : Below w.heap.size w w') : KP b y p w0 (.agg (p.vals lay).toArray) w' :=
 ⟨hb.trans (hb'.mono hb.size), lay, rfl, (Fr.of_fresh hf).next (Only.refl _ _) fun _ e => Or.inl (h.sb_lt e)⟩
theorem insQ_call {p : Pr} {lay : Lay} (h0 : Own base w0 b s y) (hb : Below w0.heap.size w0 w) (hbase : base ≤ w0.heap.size) (hs : s.prep.length ≤ 100000) (hf : Fr (fun j => sb b j ∨ rowsOf y j) w p.items p.nodes lay) :
  Calls Tryz.prog 101 #[.slice y.Q s.prep.length y.q, .func (.func 48) #[] #[], .agg (p.vals lay).toArray] w fun e w' => ∃ v, e = .returned v ∧ InsQ base b y (insAt s.prep (insI s.prep p) p) (insAt y.ps (insI s.prep p) lay) w0 v w' := by
 have h := h0.later hb
 have hps := h.lists.ps
 have hzl := zip_len Pr.vals hps
 have hi := insert_prep (.slice y.Q s.prep.length y.q) (List.zipWith Pr.vals s.prep y.ps) (s.prep.map fun x => ord x.tid p.tid) p lay base w (Nat.le_trans hbase hb.size) (fit_prep _ _) (by rw [hzl]; exact h.lists.rowQ) (by rw [List.length_map, hzl]) (by rw [hzl]; exact hs) (fun k hk hk' => ⟨s.prep[k]'(by simpa using hk'), y.ps[k]'(by rw [hzl] at hk; omega), by rw [List.getElem_zipWith], by rw [List.getElem_map]⟩)
 refine hi.mono ?_
 rintro e w' ⟨v, rfl, h1, h2, h3⟩
 have hle := insI_le s.prep p
 have hl2 : (insAt y.ps (insI s.prep p) lay).length = (insAt s.prep (insI s.prep p) p).length := by rw [insAt_len _ (by omega), insAt_len _ hle, hps]
 have e1 := zip_ins s.prep y.ps (insI s.prep p) p lay hps
 change w'.ownsRow base 86 5 v ((List.zipWith Pr.vals s.prep y.ps).take (insI s.prep p) ++ p.vals lay :: (List.zipWith Pr.vals s.prep y.ps).drop (insI s.prep p)).length ((List.zipWith Pr.vals s.prep y.ps).take (insI s.prep p) ++ p.vals lay :: (List.zipWith Pr.vals s.prep y.ps).drop (insI s.prep p)).flatten at h1
 rw [← e1, zip_len Pr.vals hl2] at h1
 obtain ⟨A, c, rfl⟩ := row_slice h1
 rw [own_blk, own_blk] at h3
 have hon' : Only (fun k => some k = blk y.Q) w w' := h2.mono fun k _ e => by rw [own_blk] at e; exact e
 have hnw : ∀ j, blk A = some j → blk y.Q = some j ∨ w.heap.size ≤ j := fun j e => by
  rcases h3 with h3 | ⟨k, h3, hk⟩
  ·exact Or.inl (h3.symm.trans e)
  ·have : j = k := Option.some.inj (e.symm.trans h3)
   exact Or.inr (by omega)
 refine ⟨_, rfl, A, c, rfl, h1, (Only.of_below hb).trans hon' fun _ _ e => e, fun j e => (hnw j e).imp_right fun h => Nat.le_trans hb.size h, hl2, fun j j1 j2 => ?_⟩
 have g1 := insAt_at (l := s.prep) (j := j) (x := p) hle
 have g2 := insAt_at (l := y.ps) (j := j) (x := lay) (i := insI s.prep p) (by omega)
 rw [List.getElem?_eq_getElem j1] at g1
 rw [List.getElem?_eq_getElem j2] at g2
 by_cases c1 : j < insI s.prep p
 ·rw [if_pos c1, List.getElem?_eq_getElem (by omega)] at g1 g2
  rw [Option.some.inj g1, Option.some.inj g2]
  exact frQ hon' hnw (h.lists.pin j (by omega) (by omega))
 ·rw [if_neg c1] at g1 g2
  by_cases c2 : j = insI s.prep p
  ·rw [if_pos c2] at g1 g2
   rw [Option.some.inj g1, Option.some.inj g2]
   exact frQ hon' hnw hf
  ·rw [insAt_len _ hle] at j1
   rw [if_neg c2, List.getElem?_eq_getElem (by omega)] at g1 g2
   rw [Option.some.inj g1, Option.some.inj g2]
   exact frQ hon' hnw (h.lists.pin (j - 1) (by omega) (by omega))
end
/-- Why the first of some items can't be prepared. -/
def firstE (s : St) : List It → Int
 | [] => 0
 | x :: l => if lockE s x = 0 then firstE s l else lockE s x
def rcPr (r : Rc) : Pr := ⟨r.tid, r.items, r.nodes⟩
def prepS (s : St) (r : Rc) : St := { s with prep := insAt s.prep (insI s.prep (rcPr r)) (rcPr r) }
def fPrepare (s : St) (r : Rc) : St × Int := if known s r.tid = true then (s, 9) else if allC s r.items = false then (s, 1) else if above s [r.tid.node] = true then (s, 1) else if above s r.nodes = true then (s, 1) else if isPart s r.nodes = false then (s, 1) else if firstE s r.items = 0 then (if room s = false then (s, 6) else (prepS s r, 0)) else (s, firstE s r.items)
def ledM_pr1 (s : St) (y : Sy) (r : Rc) (b : Nat) (g : Nat) : Nat → Value → World → Prop
 | 0, v, _ => v = .pointer (some ⟨b, 0, none⟩)
 | 1, v, _ => v = .pointer (some ⟨b, 0, none⟩)
 | 2, v, _ => v = s.val y
 | 3, v, _ => v = .pointer (some ⟨g, 1, none⟩)
 | 4, v, _ => v = .agg #[.int .i64 r.tid.node, .int .i64 r.tid.epoch, .int .i64 r.tid.seq]
 | 5, v, _ => v = .bool (known s r.tid)
 | 6, v, _ => v = .bool (known s r.tid)
 | _, _, _ => True
theorem ledM_pr1_later {s : St} {y : Sy} {r : Rc} {b : Nat} {g : Nat} {j : Nat} {v : Value} {w w' : World} (_hb : Below w.heap.size w w') (h : ledM_pr1 s y r b g j v w) : ledM_pr1 s y r b g j v w' := by
 match j, h with
 | 0, h | 1, h | 2, h | 3, h | 4, h | 5, h | 6, h => exact h
 | _ + 7, _ => exact trivial
def ledM_pr3a (r : Rc) (z : Lay) (b : Nat) (g : Nat) : Nat → Value → World → Prop
 | 0, v, _ => v = .pointer (some ⟨b, 0, none⟩)
 | 1, v, _ => v = .pointer (some ⟨g, 4, none⟩)
 | 2, v, _ => v = .slice z.A r.items.length z.c
 | 3, v, _ => v = .bool false
 | 4, v, _ => v = .bool true
 | 5, v, _ => v = .bool true
 | 6, v, _ => v = undef
 | 7, v, _ => v = undef
 | 8, v, _ => v = undef
 | 9, v, _ => v = undef
 | 10, v, _ => v = undef
 | 11, v, _ => v = undef
 | 12, v, _ => v = undef
 | 13, v, _ => v = undef
 | 14, v, _ => v = .bool true
 | 15, v, _ => v = .bool true
 | 16, v, _ => v = undef
 | 17, v, _ => v = undef
 | 18, v, _ => v = undef
 | 19, v, _ => v = undef
 | 20, v, _ => v = undef
 | 21, v, _ => v = undef
 | 22, v, _ => v = .bool true
 | 23, v, _ => v = .bool true
 | 24, v, _ => v = undef
 | 25, v, _ => v = undef
 | 26, v, _ => v = undef
 | 27, v, _ => v = undef
 | 28, v, _ => v = undef
 | 29, v, _ => v = undef
 | 30, v, _ => v = undef
 | 31, v, _ => v = undef
 | 32, v, _ => v = .bool true
 | 33, v, _ => v = .bool true
 | _, _, _ => True
theorem ledM_pr3a_later {r : Rc} {z : Lay} {b : Nat} {g : Nat} {j : Nat} {v : Value} {w w' : World} (_hb : Below w.heap.size w w') (h : ledM_pr3a r z b g j v w) : ledM_pr3a r z b g j v w' := by
 match j, h with
 | 0, h | 1, h | 2, h | 3, h | 4, h | 5, h | 6, h | 7, h | 8, h | 9, h | 10, h | 11, h | 12, h | 13, h | 14, h | 15, h | 16, h | 17, h | 18, h | 19, h | 20, h | 21, h | 22, h | 23, h | 24, h | 25, h | 26, h | 27, h | 28, h | 29, h | 30, h | 31, h | 32, h | 33, h => exact h
 | _ + 34, _ => exact trivial
def ledM_pr3b (s : St) (y : Sy) (r : Rc) (z : Lay) (b : Nat) (g : Nat) : Nat → Value → World → Prop
 | 0, v, _ => v = .pointer (some ⟨b, 0, none⟩)
 | 1, v, _ => v = .pointer (some ⟨g, 4, none⟩)
 | 2, v, _ => v = .slice z.A r.items.length z.c
 | 3, v, _ => v = .bool true
 | 4, v, _ => v = .bool false
 | 5, v, _ => v = .bool false
 | 6, v, _ => v = .pointer (some ⟨b, 0, none⟩)
 | 7, v, _ => v = .pointer (some ⟨b, 0, none⟩)
 | 8, v, _ => v = s.val y
 | 9, v, _ => v = .pointer (some ⟨g, 1, none⟩)
 | 10, v, _ => v = .pointer (some ⟨g, 1, none⟩)
 | 11, v, _ => v = .int .i64 r.tid.node
 | 12, v, w => ∃ kk, v = .slice (some ⟨kk, 0, none⟩) 1 1 ∧ Cells w kk 3 ([r.tid.node].map (Value.int .i64))
 | 13, v, _ => v = .bool true
 | 14, v, _ => v = .bool true
 | 15, v, _ => v = .bool true
 | 16, v, _ => v = undef
 | 17, v, _ => v = undef
 | 18, v, _ => v = undef
 | 19, v, _ => v = undef
 | 20, v, _ => v = undef
 | 21, v, _ => v = undef
 | 22, v, _ => v = .bool true
 | 23, v, _ => v = .bool true
 | 24, v, _ => v = undef
 | 25, v, _ => v = undef
 | 26, v, _ => v = undef
 | 27, v, _ => v = undef
 | 28, v, _ => v = undef
 | 29, v, _ => v = undef
 | 30, v, _ => v = undef
 | 31, v, _ => v = undef
 | 32, v, _ => v = .bool true
 | 33, v, _ => v = .bool true
 | _, _, _ => True
theorem ledM_pr3b_later {s : St} {y : Sy} {r : Rc} {z : Lay} {b : Nat} {g : Nat} {j : Nat} {v : Value} {w w' : World} (hb : Below w.heap.size w w') (h : ledM_pr3b s y r z b g j v w) : ledM_pr3b s y r z b g j v w' := by
 match j, h with
 | 0, h | 1, h | 2, h | 3, h | 4, h | 5, h | 6, h | 7, h | 8, h | 9, h | 10, h | 11, h | 13, h | 14, h | 15, h | 16, h | 17, h | 18, h | 19, h | 20, h | 21, h | 22, h | 23, h | 24, h | 25, h | 26, h | 27, h | 28, h | 29, h | 30, h | 31, h | 32, h | 33, h => exact h
 | 12, h =>
  obtain ⟨kk, h1, h2⟩ := h
  exact ⟨kk, h1, h2.later hb⟩
 | _ + 34, _ => exact trivial
def ledM_pr3c (s : St) (y : Sy) (r : Rc) (z : Lay) (b : Nat) (g : Nat) : Nat → Value → World → Prop
 | 0, v, _ => v = .pointer (some ⟨b, 0, none⟩)
 | 1, v, _ => v = .pointer (some ⟨g, 4, none⟩)
 | 2, v, _ => v = .slice z.A r.items.length z.c
 | 3, v, _ => v = .bool true
 | 4, v, _ => v = .bool false
 | 5, v, _ => v = .bool false
 | 6, v, _ => v = .pointer (some ⟨b, 0, none⟩)
 | 7, v, _ => v = .pointer (some ⟨b, 0, none⟩)
 | 8, v, _ => v = s.val y
 | 9, v, _ => v = .pointer (some ⟨g, 1, none⟩)
 | 10, v, _ => v = .pointer (some ⟨g, 1, none⟩)
 | 11, v, _ => v = .int .i64 r.tid.node
 | 12, v, w => ∃ kk, v = .slice (some ⟨kk, 0, none⟩) 1 1 ∧ Cells w kk 3 ([r.tid.node].map (Value.int .i64))
 | 13, v, _ => v = .bool false
 | 14, v, _ => v = .bool false
 | 15, v, _ => v = .bool false
 | 16, v, _ => v = .pointer (some ⟨b, 0, none⟩)
 | 17, v, _ => v = .pointer (some ⟨b, 0, none⟩)
 | 18, v, _ => v = s.val y
 | 19, v, _ => v = .pointer (some ⟨g, 5, none⟩)
 | 20, v, _ => v = .slice z.B r.nodes.length z.d
 | 21, v, _ => v = .bool true
 | 22, v, _ => v = .bool true
 | 23, v, _ => v = .bool true
 | 24, v, _ => v = undef
 | 25, v, _ => v = undef
 | 26, v, _ => v = undef
 | 27, v, _ => v = undef
 | 28, v, _ => v = undef
 | 29, v, _ => v = undef
 | 30, v, _ => v = undef
 | 31, v, _ => v = undef
 | 32, v, _ => v = .bool true
 | 33, v, _ => v = .bool true
 | _, _, _ => True
theorem ledM_pr3c_later {s : St} {y : Sy} {r : Rc} {z : Lay} {b : Nat} {g : Nat} {j : Nat} {v : Value} {w w' : World} (hb : Below w.heap.size w w') (h : ledM_pr3c s y r z b g j v w) : ledM_pr3c s y r z b g j v w' := by
 match j, h with
 | 0, h | 1, h | 2, h | 3, h | 4, h | 5, h | 6, h | 7, h | 8, h | 9, h | 10, h | 11, h | 13, h | 14, h | 15, h | 16, h | 17, h | 18, h | 19, h | 20, h | 21, h | 22, h | 23, h | 24, h | 25, h | 26, h | 27, h | 28, h | 29, h | 30, h | 31, h | 32, h | 33, h => exact h
 | 12, h =>
  obtain ⟨kk, h1, h2⟩ := h
  exact ⟨kk, h1, h2.later hb⟩
 | _ + 34, _ => exact trivial
def ledM_pr3d (s : St) (y : Sy) (r : Rc) (z : Lay) (b : Nat) (g : Nat) : Nat → Value → World → Prop
 | 0, v, _ => v = .pointer (some ⟨b, 0, none⟩)
 | 1, v, _ => v = .pointer (some ⟨g, 4, none⟩)
 | 2, v, _ => v = .slice z.A r.items.length z.c
 | 3, v, _ => v = .bool true
 | 4, v, _ => v = .bool false
 | 5, v, _ => v = .bool false
 | 6, v, _ => v = .pointer (some ⟨b, 0, none⟩)
 | 7, v, _ => v = .pointer (some ⟨b, 0, none⟩)
 | 8, v, _ => v = s.val y
 | 9, v, _ => v = .pointer (some ⟨g, 1, none⟩)
 | 10, v, _ => v = .pointer (some ⟨g, 1, none⟩)
 | 11, v, _ => v = .int .i64 r.tid.node
 | 12, v, w => ∃ kk, v = .slice (some ⟨kk, 0, none⟩) 1 1 ∧ Cells w kk 3 ([r.tid.node].map (Value.int .i64))
 | 13, v, _ => v = .bool false
 | 14, v, _ => v = .bool false
 | 15, v, _ => v = .bool false
 | 16, v, _ => v = .pointer (some ⟨b, 0, none⟩)
 | 17, v, _ => v = .pointer (some ⟨b, 0, none⟩)
 | 18, v, _ => v = s.val y
 | 19, v, _ => v = .pointer (some ⟨g, 5, none⟩)
 | 20, v, _ => v = .slice z.B r.nodes.length z.d
 | 21, v, _ => v = .bool false
 | 22, v, _ => v = .bool false
 | 23, v, _ => v = .bool false
 | 24, v, _ => v = .pointer (some ⟨g, 5, none⟩)
 | 25, v, _ => v = .slice z.B r.nodes.length z.d
 | 26, v, _ => v = .pointer (some ⟨b, 0, none⟩)
 | 27, v, _ => v = .pointer (some ⟨b, 0, none⟩)
 | 28, v, _ => v = .pointer (some ⟨b, 0, none⟩)
 | 29, v, _ => v = .int .i64 s.node
 | 30, v, _ => v = .bool (isPart s r.nodes)
 | 31, v, _ => v = .bool (!(isPart s r.nodes))
 | 32, v, _ => v = .bool (!(isPart s r.nodes))
 | 33, v, _ => v = .bool (!(isPart s r.nodes))
 | _, _, _ => True
theorem ledM_pr3d_later {s : St} {y : Sy} {r : Rc} {z : Lay} {b : Nat} {g : Nat} {j : Nat} {v : Value} {w w' : World} (hb : Below w.heap.size w w') (h : ledM_pr3d s y r z b g j v w) : ledM_pr3d s y r z b g j v w' := by
 match j, h with
 | 0, h | 1, h | 2, h | 3, h | 4, h | 5, h | 6, h | 7, h | 8, h | 9, h | 10, h | 11, h | 13, h | 14, h | 15, h | 16, h | 17, h | 18, h | 19, h | 20, h | 21, h | 22, h | 23, h | 24, h | 25, h | 26, h | 27, h | 28, h | 29, h | 30, h | 31, h | 32, h | 33, h => exact h
 | 12, h =>
  obtain ⟨kk, h1, h2⟩ := h
  exact ⟨kk, h1, h2.later hb⟩
 | _ + 34, _ => exact trivial
set_option maxHeartbeats 8000000 in
theorem prepare_any (s : St) (y : Sy) (r : Rc) (z : Lay) (base b : Nat) (w : World) (ho : Own base w b s y) (hh : Two w r.items r.nodes z) (hs : Small s) (hr : r.items.length ≤ 1000 ∧ r.nodes.length ≤ 1000) :
  Calls Tryz.prog 67 #[.pointer (some ⟨b, 0, none⟩), r.val z] w fun e w' => e = .returned (.int .i64 (fPrepare s r).2) ∧ Step base b s y w (fPrepare s r).1 w' := by
 obtain ⟨wb, hwb⟩ : ∃ v, v = w.alloc (.cells #[.int .i64 r.kind, .int .i64 r.tid.node, .int .i64 r.tid.epoch, .int .i64 r.tid.seq, .slice z.A r.items.length z.c, .slice z.B r.nodes.length z.d, .int .i64 r.node, .int .i64 r.count, .int .i64 r.num, .int .i64 r.cell, .int .i64 r.status, .int .i64 r.hop, .int .i64 r.version, .int .i64 r.value, .bool r.yes] 51) := ⟨_, rfl⟩
 have hb : Below w.heap.size w wb := by rw [hwb]; exact below_alloc _ _
 have HOwb := Lib.hid (ho.later hb)
 have HRwb : Hid (Cells wb w.heap.size 51 (r.vals z)) := Lib.hid (by rw [hwb]; exact cells_new _ _ _ _ rfl)
 have HHwb := Lib.hid (hh.later hb)
 have HBwb := Lib.hid hb
 have HSM := Lib.hid hs
 have HRS := Lib.hid hr
 have HLO : Hid (base ≤ w.heap.size) := Lib.hid (Nat.le_trans ho.low (Nat.le_of_lt ho.cel.lt))
 obtain ⟨F, hF⟩ : ∃ F, fPrepare s r = F := ⟨_, rfl⟩
 have HF := Lib.hid hF.symm
 rw [hF]
 unfold Rc.val
 clear ho hh hs hr hb hF
 go_enter Tryz.func67, Tryz.ntmps67
 go_wp2_with fail
 rw [← hwb]
 clear hwb
 refine Reg.region_heavy (by kernel_rfl) 6 [6] (ledM_pr1 s y r b w.heap.size) (fun a => Below wb.heap.size wb a) (fun a => Below wb.heap.size wb a) (fun V => [(some 10, V 0), (some 11, V 1), (some 12, V 2), (some 13, V 3), (some 14, V 4), (some 15, V 5), (some 9, V 6)]) (by kernel_rfl) (by kernel_rfl) (by kernel_rfl) (fun V => rfl) ?_ ?_ ?_
 ·exact (Below.refl _ _).drew
 ·intro i o ho
  have hi : i < 7 := (Array.getElem?_eq_some_iff.1 ho).1
  rcases i with _ | _ | _ | _ | _ | _ | _ | i
  rotate_right
  ·omega
  all_goals obtain rfl := Option.some.inj ho
  all_goals intro ρ wi hE hI hs hd
  all_goals try dsimp only at hI
  ·have e0 : ρ (.tmp 0) = .pointer (some ⟨b, 0, none⟩) := hs 0; exact Reg.gw hI
  ·obtain ⟨_, rfl, e10⟩ := hd 0 10; exact Reg.gw hI
  ·obtain ⟨_, rfl, e11⟩ := hd 1 11
   exact Reg.Gives.value (v := s.val y) (w' := wi) (exec_load _ _ rfl _ _ (by assumption) (state_load (HOwb.out.later hI))) (Reg.OwedH.same hI rfl)
  ·have e3 : ρ (.tmp 3) = .pointer (some ⟨w.heap.size, 0, none⟩) := hs 3; exact Reg.gw hI
  ·obtain ⟨_, rfl, e13⟩ := hd 3 13; have x0 := (HRwb.out.later hI).cell (j := 1) rfl; have x1 := (HRwb.out.later hI).cell (j := 2) rfl; have x2 := (HRwb.out.later hI).cell (j := 3) rfl; exact Reg.gw hI
  ·obtain ⟨_, rfl, e12⟩ := hd 2 12; obtain ⟨_, rfl, e14⟩ := hd 4 14; have hf := hE.func
   refine Reg.Gives.call (f := 96) (args := #[s.val y, .agg #[.int .i64 r.tid.node, .int .i64 r.tid.epoch, .int .i64 r.tid.seq]]) (w' := wi) (by go_simp) ?_
   refine (known_any s y r.tid wi (HOwb.out.later hI).sees (Nat.le_trans HSM.out.prep (by decide)) (Nat.le_trans HSM.out.dec (by decide))).mono ?_
   rintro e w'' ⟨rfl, hbb⟩
   exact ⟨_, rfl, ⟨rfl, hI.trans (hbb.mono hI.size), fun j u _ _ h => ledM_pr1_later hbb h⟩⟩
  ·obtain ⟨_, rfl, e15⟩ := hd 5 15; exact Reg.gw hI
 ·intro V wc hV hI
  have hV6 : V 6 = .bool (known s r.tid) := hV 6 (by decide) rfl
  simp only [Reg.putsO, List.foldl_cons, List.foldl_nil, Act.put, List.setIfInBounds_toArray, List.set_cons_succ, List.set_cons_zero, hV6]
  replace hI : (fun a => Below wb.heap.size wb a) wc := hI
  clear hV hV6
  have HOwc := Lib.hid (HOwb.out.later hI)
  have HRwc := Lib.hid (HRwb.out.later hI)
  have HHwc := Lib.hid (HHwb.out.later hI)
  have HBwc := Lib.hid (HBwb.out.trans (hI.mono HBwb.out.size))
  clear hI
  cases h0 : known s r.tid with
  | true =>
   have HK0 := Lib.hid h0
   clear h0
   have HFX : Hid (F = (s, 9)) := Lib.hid (by rw [HF.out]; unfold fPrepare; rw [if_pos HK0.out])
   go_wp2_with fail
   go_returns
   exact ⟨ret_int (by rw [HFX.out]), by rw [HFX.out]; exact Step.same HOwc.out HBwc.out⟩
  | false =>
   have HK0 := Lib.hid h0
   clear h0
   go_upto_region 3 with (fail)
   cases h1 : allC s r.items with
   | false =>
    have HK1 := Lib.hid h1
    clear h1
    refine Reg.region_heavy (by kernel_rfl) 33 [33] (ledM_pr3a r z b w.heap.size) (fun a => Below wc.heap.size wc a) (fun a => Below wc.heap.size wc a) (fun V => [(some 17, V 0), (some 18, V 1), (some 19, V 2), (some 20, V 3), (some 21, V 4), (some 22, V 5), (some 23, V 6), (some 24, V 7), (some 25, V 8), (some 26, V 9), (some 27, V 10), (some 28, V 11), (some 29, V 12), (some 30, V 13), (some 31, V 14), (some 32, V 15), (some 33, V 16), (some 34, V 17), (some 35, V 18), (some 36, V 19), (some 37, V 20), (some 38, V 21), (some 39, V 22), (some 40, V 23), (some 41, V 24), (some 42, V 25), (some 43, V 26), (some 44, V 27), (some 45, V 28), (some 46, V 29), (some 47, V 30), (some 48, V 31), (some 49, V 32), (some 16, V 33)]) (by kernel_rfl) (by kernel_rfl) (by kernel_rfl) (fun V => rfl) ?_ ?_ ?_
    ·exact (Below.refl _ _).drew
    ·intro i o ho
     have hi : i < 34 := (Array.getElem?_eq_some_iff.1 ho).1
     rcases i with _ | _ | _ | _ | _ | _ | _ | _ | _ | _ | _ | _ | _ | _ | _ | _ | _ | _ | _ | _ | _ | _ | _ | _ | _ | _ | _ | _ | _ | _ | _ | _ | _ | _ | i
     rotate_right
     ·omega
     all_goals obtain rfl := Option.some.inj ho
     all_goals intro ρ wi hE hI hs hd
     all_goals try dsimp only at hI
     ·have e0 : ρ (.tmp 0) = .pointer (some ⟨b, 0, none⟩) := hs 0; exact Reg.gw hI
     ·have e3 : ρ (.tmp 3) = .pointer (some ⟨w.heap.size, 0, none⟩) := hs 3; exact Reg.gw hI
     ·obtain ⟨_, rfl, e18⟩ := hd 1 18; have x0 := (HRwc.out.later hI).cell (j := 4) rfl; exact Reg.gw hI
     ·obtain ⟨_, rfl, e17⟩ := hd 0 17; obtain ⟨_, rfl, e19⟩ := hd 2 19; have hf := hE.func
      refine Reg.Gives.call (f := 97) (args := #[.pointer (some ⟨b, 0, none⟩), .slice z.A r.items.length z.c]) (w' := wi) (by go_simp) ?_
      refine (calls_bool (hasAll_any s y z.A r.items z.c b wi (HHwc.out.later hI).1 (HOwc.out.later hI).cel (Nat.le_trans HRS.out.1 (by decide))) HK1.out).mono ?_
      rintro e w'' ⟨rfl, hbb⟩
      exact ⟨_, rfl, ⟨rfl, hI.trans (hbb.mono hI.size), fun j u _ _ h => ledM_pr3a_later hbb h⟩⟩
     ·obtain ⟨_, rfl, e20⟩ := hd 3 20; exact Reg.gw hI
     ·obtain ⟨_, rfl, e21⟩ := hd 4 21; exact Reg.gw hI
     ·exact Reg.no hI
     ·exact Reg.no hI
     ·exact Reg.no hI
     ·exact Reg.no hI
     ·exact Reg.no hI
     ·exact Reg.no hI
     ·exact Reg.no hI
     ·exact Reg.no hI
     ·obtain ⟨_, rfl, e22⟩ := hd 5 22; obtain ⟨_, rfl, e30⟩ := hd 13 30; have hc := hE.const; exact Reg.gw hI
     ·obtain ⟨_, rfl, e31⟩ := hd 14 31; exact Reg.gw hI
     ·exact Reg.no hI
     ·exact Reg.no hI
     ·exact Reg.no hI
     ·exact Reg.no hI
     ·exact Reg.no hI
     ·exact Reg.no hI
     ·obtain ⟨_, rfl, e32⟩ := hd 15 32; obtain ⟨_, rfl, e38⟩ := hd 21 38; have hc := hE.const; exact Reg.gw hI
     ·obtain ⟨_, rfl, e39⟩ := hd 22 39; exact Reg.gw hI
     ·exact Reg.no hI
     ·exact Reg.no hI
     ·exact Reg.no hI
     ·exact Reg.no hI
     ·exact Reg.no hI
     ·exact Reg.no hI
     ·exact Reg.no hI
     ·exact Reg.no hI
     ·obtain ⟨_, rfl, e40⟩ := hd 23 40; obtain ⟨_, rfl, e48⟩ := hd 31 48; have hc := hE.const; exact Reg.gw hI
     ·obtain ⟨_, rfl, e49⟩ := hd 32 49; exact Reg.gw hI
    ·intro V wd hV hI
     have hV33 : V 33 = .bool true := hV 33 (by decide) rfl
     simp only [Reg.putsO, List.foldl_cons, List.foldl_nil, Act.put, List.setIfInBounds_toArray, List.set_cons_succ, List.set_cons_zero, hV33]
     replace hI : (fun a => Below wc.heap.size wc a) wd := hI
     clear hV hV33
     have HOwd := Lib.hid (HOwc.out.later hI)
     have HRwd := Lib.hid (HRwc.out.later hI)
     have HHwd := Lib.hid (HHwc.out.later hI)
     have HBwd := Lib.hid (HBwc.out.trans (hI.mono HBwc.out.size))
     clear hI
     have HFX : Hid (F = (s, 1)) := Lib.hid (by rw [HF.out]; unfold fPrepare; rw [HK0.out, if_neg (by decide), if_pos HK1.out])
     go_wp2_with fail
     go_returns
     exact ⟨ret_int (by rw [HFX.out]), by rw [HFX.out]; exact Step.same HOwd.out HBwd.out⟩
   | true =>
    have HK1 := Lib.hid h1
    clear h1
    cases h2 : above s [r.tid.node] with
    | true =>
     have HK2 := Lib.hid h2
     clear h2
     refine Reg.region_heavy (by kernel_rfl) 33 [33] (ledM_pr3b s y r z b w.heap.size) (fun a => Below wc.heap.size wc a) (fun a => Below wc.heap.size wc a) (fun V => [(some 17, V 0), (some 18, V 1), (some 19, V 2), (some 20, V 3), (some 21, V 4), (some 22, V 5), (some 23, V 6), (some 24, V 7), (some 25, V 8), (some 26, V 9), (some 27, V 10), (some 28, V 11), (some 29, V 12), (some 30, V 13), (some 31, V 14), (some 32, V 15), (some 33, V 16), (some 34, V 17), (some 35, V 18), (some 36, V 19), (some 37, V 20), (some 38, V 21), (some 39, V 22), (some 40, V 23), (some 41, V 24), (some 42, V 25), (some 43, V 26), (some 44, V 27), (some 45, V 28), (some 46, V 29), (some 47, V 30), (some 48, V 31), (some 49, V 32), (some 16, V 33)]) (by kernel_rfl) (by kernel_rfl) (by kernel_rfl) (fun V => rfl) ?_ ?_ ?_
     ·exact (Below.refl _ _).drew
     ·intro i o ho
      have hi : i < 34 := (Array.getElem?_eq_some_iff.1 ho).1
      rcases i with _ | _ | _ | _ | _ | _ | _ | _ | _ | _ | _ | _ | _ | _ | _ | _ | _ | _ | _ | _ | _ | _ | _ | _ | _ | _ | _ | _ | _ | _ | _ | _ | _ | _ | i
      rotate_right
      ·omega
      all_goals obtain rfl := Option.some.inj ho
      all_goals intro ρ wi hE hI hs hd
      all_goals try dsimp only at hI
      ·have e0 : ρ (.tmp 0) = .pointer (some ⟨b, 0, none⟩) := hs 0; exact Reg.gw hI
      ·have e3 : ρ (.tmp 3) = .pointer (some ⟨w.heap.size, 0, none⟩) := hs 3; exact Reg.gw hI
      ·obtain ⟨_, rfl, e18⟩ := hd 1 18; have x0 := (HRwc.out.later hI).cell (j := 4) rfl; exact Reg.gw hI
      ·obtain ⟨_, rfl, e17⟩ := hd 0 17; obtain ⟨_, rfl, e19⟩ := hd 2 19; have hf := hE.func
       refine Reg.Gives.call (f := 97) (args := #[.pointer (some ⟨b, 0, none⟩), .slice z.A r.items.length z.c]) (w' := wi) (by go_simp) ?_
       refine (calls_bool (hasAll_any s y z.A r.items z.c b wi (HHwc.out.later hI).1 (HOwc.out.later hI).cel (Nat.le_trans HRS.out.1 (by decide))) HK1.out).mono ?_
       rintro e w'' ⟨rfl, hbb⟩
       exact ⟨_, rfl, ⟨rfl, hI.trans (hbb.mono hI.size), fun j u _ _ h => ledM_pr3b_later hbb h⟩⟩
      ·obtain ⟨_, rfl, e20⟩ := hd 3 20; exact Reg.gw hI
      ·obtain ⟨_, rfl, e21⟩ := hd 4 21; exact Reg.gw hI
      ·have e0 : ρ (.tmp 0) = .pointer (some ⟨b, 0, none⟩) := hs 0
       refine Reg.yes ?_
       exact Reg.gw hI
      ·obtain ⟨_, rfl, e23⟩ := hd 6 23
       refine Reg.yes ?_
       exact Reg.gw hI
      ·obtain ⟨_, rfl, e24⟩ := hd 7 24
       refine Reg.yes ?_
       exact Reg.Gives.value (v := s.val y) (w' := wi) (exec_load _ _ rfl _ _ (by assumption) (state_load (HOwc.out.later hI))) (Reg.OwedH.same hI rfl)
      ·have e3 : ρ (.tmp 3) = .pointer (some ⟨w.heap.size, 0, none⟩) := hs 3
       refine Reg.yes ?_
       exact Reg.gw hI
      ·obtain ⟨_, rfl, e26⟩ := hd 9 26
       refine Reg.yes ?_
       exact Reg.gw hI
      ·obtain ⟨_, rfl, e27⟩ := hd 10 27
       refine Reg.yes ?_
       have x0 := (HRwc.out.later hI).cell (j := 1) rfl; exact Reg.gw hI
      ·obtain ⟨_, rfl, e28⟩ := hd 11 28
       refine Reg.yes ?_
       have hal := below_alloc wi (.cells #[.int .i64 r.tid.node] 3)
       exact Reg.Gives.value (v := .slice (some ⟨wi.heap.size, 0, none⟩) 1 1) (w' := wi.alloc (.cells #[.int .i64 r.tid.node] 3)) (by go_simp) ⟨⟨_, rfl, cells_new wi _ _ _ rfl⟩, hI.trans (hal.mono hI.size), fun j u _ _ h => ledM_pr3b_later hal h⟩
      ·obtain ⟨_, rfl, e25⟩ := hd 8 25; obtain ⟨u29, g29, e29⟩ := hd 12 29; have hf := hE.func
       refine Reg.yes ?_
       obtain ⟨kk, rfl, hck⟩ := g29
       refine Reg.Gives.call (f := 95) (args := #[s.val y, .slice (some ⟨kk, 0, none⟩) 1 1]) (w' := wi) (by go_simp) ?_
       refine (calls_bool (above_any s y (some ⟨kk, 0, none⟩) [r.tid.node] 1 wi (fun j hj => ⟨kk, 0, rfl, cells_nums hck j hj⟩) (by simp)) HK2.out).mono ?_
       rintro e w'' ⟨rfl, hbb⟩
       exact ⟨_, rfl, ⟨rfl, hI.trans (hbb.mono hI.size), fun j u _ _ h => ledM_pr3b_later hbb h⟩⟩
      ·obtain ⟨_, rfl, e22⟩ := hd 5 22; obtain ⟨_, rfl, e30⟩ := hd 13 30; have hc := hE.const; exact Reg.gw hI
      ·obtain ⟨_, rfl, e31⟩ := hd 14 31; exact Reg.gw hI
      ·exact Reg.no hI
      ·exact Reg.no hI
      ·exact Reg.no hI
      ·exact Reg.no hI
      ·exact Reg.no hI
      ·exact Reg.no hI
      ·obtain ⟨_, rfl, e32⟩ := hd 15 32; obtain ⟨_, rfl, e38⟩ := hd 21 38; have hc := hE.const; exact Reg.gw hI
      ·obtain ⟨_, rfl, e39⟩ := hd 22 39; exact Reg.gw hI
      ·exact Reg.no hI
      ·exact Reg.no hI
      ·exact Reg.no hI
      ·exact Reg.no hI
      ·exact Reg.no hI
      ·exact Reg.no hI
      ·exact Reg.no hI
      ·exact Reg.no hI
      ·obtain ⟨_, rfl, e40⟩ := hd 23 40; obtain ⟨_, rfl, e48⟩ := hd 31 48; have hc := hE.const; exact Reg.gw hI
      ·obtain ⟨_, rfl, e49⟩ := hd 32 49; exact Reg.gw hI
     ·intro V wd hV hI
      have hV33 : V 33 = .bool true := hV 33 (by decide) rfl
      simp only [Reg.putsO, List.foldl_cons, List.foldl_nil, Act.put, List.setIfInBounds_toArray, List.set_cons_succ, List.set_cons_zero, hV33]
      replace hI : (fun a => Below wc.heap.size wc a) wd := hI
      clear hV hV33
      have HOwd := Lib.hid (HOwc.out.later hI)
      have HRwd := Lib.hid (HRwc.out.later hI)
      have HHwd := Lib.hid (HHwc.out.later hI)
      have HBwd := Lib.hid (HBwc.out.trans (hI.mono HBwc.out.size))
      clear hI
      have HFX : Hid (F = (s, 1)) := Lib.hid (by rw [HF.out]; unfold fPrepare; rw [HK0.out, if_neg (by decide), HK1.out, if_neg (by decide), if_pos HK2.out])
      go_wp2_with fail
      go_returns
      exact ⟨ret_int (by rw [HFX.out]), by rw [HFX.out]; exact Step.same HOwd.out HBwd.out⟩
    | false =>
     have HK2 := Lib.hid h2
     clear h2
     cases h3 : above s r.nodes with
     | true =>
      have HK3 := Lib.hid h3
      clear h3
      refine Reg.region_heavy (by kernel_rfl) 33 [33] (ledM_pr3c s y r z b w.heap.size) (fun a => Below wc.heap.size wc a) (fun a => Below wc.heap.size wc a) (fun V => [(some 17, V 0), (some 18, V 1), (some 19, V 2), (some 20, V 3), (some 21, V 4), (some 22, V 5), (some 23, V 6), (some 24, V 7), (some 25, V 8), (some 26, V 9), (some 27, V 10), (some 28, V 11), (some 29, V 12), (some 30, V 13), (some 31, V 14), (some 32, V 15), (some 33, V 16), (some 34, V 17), (some 35, V 18), (some 36, V 19), (some 37, V 20), (some 38, V 21), (some 39, V 22), (some 40, V 23), (some 41, V 24), (some 42, V 25), (some 43, V 26), (some 44, V 27), (some 45, V 28), (some 46, V 29), (some 47, V 30), (some 48, V 31), (some 49, V 32), (some 16, V 33)]) (by kernel_rfl) (by kernel_rfl) (by kernel_rfl) (fun V => rfl) ?_ ?_ ?_
      ·exact (Below.refl _ _).drew
      ·intro i o ho
       have hi : i < 34 := (Array.getElem?_eq_some_iff.1 ho).1
       rcases i with _ | _ | _ | _ | _ | _ | _ | _ | _ | _ | _ | _ | _ | _ | _ | _ | _ | _ | _ | _ | _ | _ | _ | _ | _ | _ | _ | _ | _ | _ | _ | _ | _ | _ | i
       rotate_right
       ·omega
       all_goals obtain rfl := Option.some.inj ho
       all_goals intro ρ wi hE hI hs hd
       all_goals try dsimp only at hI
       ·have e0 : ρ (.tmp 0) = .pointer (some ⟨b, 0, none⟩) := hs 0; exact Reg.gw hI
       ·have e3 : ρ (.tmp 3) = .pointer (some ⟨w.heap.size, 0, none⟩) := hs 3; exact Reg.gw hI
       ·obtain ⟨_, rfl, e18⟩ := hd 1 18; have x0 := (HRwc.out.later hI).cell (j := 4) rfl; exact Reg.gw hI
       ·obtain ⟨_, rfl, e17⟩ := hd 0 17; obtain ⟨_, rfl, e19⟩ := hd 2 19; have hf := hE.func
        refine Reg.Gives.call (f := 97) (args := #[.pointer (some ⟨b, 0, none⟩), .slice z.A r.items.length z.c]) (w' := wi) (by go_simp) ?_
        refine (calls_bool (hasAll_any s y z.A r.items z.c b wi (HHwc.out.later hI).1 (HOwc.out.later hI).cel (Nat.le_trans HRS.out.1 (by decide))) HK1.out).mono ?_
        rintro e w'' ⟨rfl, hbb⟩
        exact ⟨_, rfl, ⟨rfl, hI.trans (hbb.mono hI.size), fun j u _ _ h => ledM_pr3c_later hbb h⟩⟩
       ·obtain ⟨_, rfl, e20⟩ := hd 3 20; exact Reg.gw hI
       ·obtain ⟨_, rfl, e21⟩ := hd 4 21; exact Reg.gw hI
       ·have e0 : ρ (.tmp 0) = .pointer (some ⟨b, 0, none⟩) := hs 0
        refine Reg.yes ?_
        exact Reg.gw hI
       ·obtain ⟨_, rfl, e23⟩ := hd 6 23
        refine Reg.yes ?_
        exact Reg.gw hI
       ·obtain ⟨_, rfl, e24⟩ := hd 7 24
        refine Reg.yes ?_
        exact Reg.Gives.value (v := s.val y) (w' := wi) (exec_load _ _ rfl _ _ (by assumption) (state_load (HOwc.out.later hI))) (Reg.OwedH.same hI rfl)
       ·have e3 : ρ (.tmp 3) = .pointer (some ⟨w.heap.size, 0, none⟩) := hs 3
        refine Reg.yes ?_
        exact Reg.gw hI
       ·obtain ⟨_, rfl, e26⟩ := hd 9 26
        refine Reg.yes ?_
        exact Reg.gw hI
       ·obtain ⟨_, rfl, e27⟩ := hd 10 27
        refine Reg.yes ?_
        have x0 := (HRwc.out.later hI).cell (j := 1) rfl; exact Reg.gw hI
       ·obtain ⟨_, rfl, e28⟩ := hd 11 28
        refine Reg.yes ?_
        have hal := below_alloc wi (.cells #[.int .i64 r.tid.node] 3)
        exact Reg.Gives.value (v := .slice (some ⟨wi.heap.size, 0, none⟩) 1 1) (w' := wi.alloc (.cells #[.int .i64 r.tid.node] 3)) (by go_simp) ⟨⟨_, rfl, cells_new wi _ _ _ rfl⟩, hI.trans (hal.mono hI.size), fun j u _ _ h => ledM_pr3c_later hal h⟩
       ·obtain ⟨_, rfl, e25⟩ := hd 8 25; obtain ⟨u29, g29, e29⟩ := hd 12 29; have hf := hE.func
        refine Reg.yes ?_
        obtain ⟨kk, rfl, hck⟩ := g29
        refine Reg.Gives.call (f := 95) (args := #[s.val y, .slice (some ⟨kk, 0, none⟩) 1 1]) (w' := wi) (by go_simp) ?_
        refine (calls_bool (above_any s y (some ⟨kk, 0, none⟩) [r.tid.node] 1 wi (fun j hj => ⟨kk, 0, rfl, cells_nums hck j hj⟩) (by simp)) HK2.out).mono ?_
        rintro e w'' ⟨rfl, hbb⟩
        exact ⟨_, rfl, ⟨rfl, hI.trans (hbb.mono hI.size), fun j u _ _ h => ledM_pr3c_later hbb h⟩⟩
       ·obtain ⟨_, rfl, e22⟩ := hd 5 22; obtain ⟨_, rfl, e30⟩ := hd 13 30; have hc := hE.const; exact Reg.gw hI
       ·obtain ⟨_, rfl, e31⟩ := hd 14 31; exact Reg.gw hI
       ·have e0 : ρ (.tmp 0) = .pointer (some ⟨b, 0, none⟩) := hs 0
        refine Reg.yes ?_
        exact Reg.gw hI
       ·obtain ⟨_, rfl, e33⟩ := hd 16 33
        refine Reg.yes ?_
        exact Reg.gw hI
       ·obtain ⟨_, rfl, e34⟩ := hd 17 34
        refine Reg.yes ?_
        exact Reg.Gives.value (v := s.val y) (w' := wi) (exec_load _ _ rfl _ _ (by assumption) (state_load (HOwc.out.later hI))) (Reg.OwedH.same hI rfl)
       ·have e3 : ρ (.tmp 3) = .pointer (some ⟨w.heap.size, 0, none⟩) := hs 3
        refine Reg.yes ?_
        exact Reg.gw hI
       ·obtain ⟨_, rfl, e36⟩ := hd 19 36
        refine Reg.yes ?_
        have x0 := (HRwc.out.later hI).cell (j := 5) rfl; exact Reg.gw hI
       ·obtain ⟨_, rfl, e35⟩ := hd 18 35; obtain ⟨_, rfl, e37⟩ := hd 20 37; have hf := hE.func
        refine Reg.yes ?_
        refine Reg.Gives.call (f := 95) (args := #[s.val y, .slice z.B r.nodes.length z.d]) (w' := wi) (by go_simp) ?_
        refine (calls_bool (above_any s y z.B r.nodes z.d wi (HHwc.out.later hI).2.1 (Nat.le_trans HRS.out.2 (by decide))) HK3.out).mono ?_
        rintro e w'' ⟨rfl, hbb⟩
        exact ⟨_, rfl, ⟨rfl, hI.trans (hbb.mono hI.size), fun j u _ _ h => ledM_pr3c_later hbb h⟩⟩
       ·obtain ⟨_, rfl, e32⟩ := hd 15 32; obtain ⟨_, rfl, e38⟩ := hd 21 38; have hc := hE.const; exact Reg.gw hI
       ·obtain ⟨_, rfl, e39⟩ := hd 22 39; exact Reg.gw hI
       ·exact Reg.no hI
       ·exact Reg.no hI
       ·exact Reg.no hI
       ·exact Reg.no hI
       ·exact Reg.no hI
       ·exact Reg.no hI
       ·exact Reg.no hI
       ·exact Reg.no hI
       ·obtain ⟨_, rfl, e40⟩ := hd 23 40; obtain ⟨_, rfl, e48⟩ := hd 31 48; have hc := hE.const; exact Reg.gw hI
       ·obtain ⟨_, rfl, e49⟩ := hd 32 49; exact Reg.gw hI
      ·intro V wd hV hI
       have hV33 : V 33 = .bool true := hV 33 (by decide) rfl
       simp only [Reg.putsO, List.foldl_cons, List.foldl_nil, Act.put, List.setIfInBounds_toArray, List.set_cons_succ, List.set_cons_zero, hV33]
       replace hI : (fun a => Below wc.heap.size wc a) wd := hI
       clear hV hV33
       have HOwd := Lib.hid (HOwc.out.later hI)
       have HRwd := Lib.hid (HRwc.out.later hI)
       have HHwd := Lib.hid (HHwc.out.later hI)
       have HBwd := Lib.hid (HBwc.out.trans (hI.mono HBwc.out.size))
       clear hI
       have HFX : Hid (F = (s, 1)) := Lib.hid (by rw [HF.out]; unfold fPrepare; rw [HK0.out, if_neg (by decide), HK1.out, if_neg (by decide), HK2.out, if_neg (by decide), if_pos HK3.out])
       go_wp2_with fail
       go_returns
       exact ⟨ret_int (by rw [HFX.out]), by rw [HFX.out]; exact Step.same HOwd.out HBwd.out⟩
     | false =>
      have HK3 := Lib.hid h3
      clear h3
      refine Reg.region_heavy (by kernel_rfl) 33 [33] (ledM_pr3d s y r z b w.heap.size) (fun a => Below wc.heap.size wc a) (fun a => Below wc.heap.size wc a) (fun V => [(some 17, V 0), (some 18, V 1), (some 19, V 2), (some 20, V 3), (some 21, V 4), (some 22, V 5), (some 23, V 6), (some 24, V 7), (some 25, V 8), (some 26, V 9), (some 27, V 10), (some 28, V 11), (some 29, V 12), (some 30, V 13), (some 31, V 14), (some 32, V 15), (some 33, V 16), (some 34, V 17), (some 35, V 18), (some 36, V 19), (some 37, V 20), (some 38, V 21), (some 39, V 22), (some 40, V 23), (some 41, V 24), (some 42, V 25), (some 43, V 26), (some 44, V 27), (some 45, V 28), (some 46, V 29), (some 47, V 30), (some 48, V 31), (some 49, V 32), (some 16, V 33)]) (by kernel_rfl) (by kernel_rfl) (by kernel_rfl) (fun V => rfl) ?_ ?_ ?_
      ·exact (Below.refl _ _).drew
      ·intro i o ho
       have hi : i < 34 := (Array.getElem?_eq_some_iff.1 ho).1
       rcases i with _ | _ | _ | _ | _ | _ | _ | _ | _ | _ | _ | _ | _ | _ | _ | _ | _ | _ | _ | _ | _ | _ | _ | _ | _ | _ | _ | _ | _ | _ | _ | _ | _ | _ | i
       rotate_right
       ·omega
       all_goals obtain rfl := Option.some.inj ho
       all_goals intro ρ wi hE hI hs hd
       all_goals try dsimp only at hI
       ·have e0 : ρ (.tmp 0) = .pointer (some ⟨b, 0, none⟩) := hs 0; exact Reg.gw hI
       ·have e3 : ρ (.tmp 3) = .pointer (some ⟨w.heap.size, 0, none⟩) := hs 3; exact Reg.gw hI
       ·obtain ⟨_, rfl, e18⟩ := hd 1 18; have x0 := (HRwc.out.later hI).cell (j := 4) rfl; exact Reg.gw hI
       ·obtain ⟨_, rfl, e17⟩ := hd 0 17; obtain ⟨_, rfl, e19⟩ := hd 2 19; have hf := hE.func
        refine Reg.Gives.call (f := 97) (args := #[.pointer (some ⟨b, 0, none⟩), .slice z.A r.items.length z.c]) (w' := wi) (by go_simp) ?_
        refine (calls_bool (hasAll_any s y z.A r.items z.c b wi (HHwc.out.later hI).1 (HOwc.out.later hI).cel (Nat.le_trans HRS.out.1 (by decide))) HK1.out).mono ?_
        rintro e w'' ⟨rfl, hbb⟩
        exact ⟨_, rfl, ⟨rfl, hI.trans (hbb.mono hI.size), fun j u _ _ h => ledM_pr3d_later hbb h⟩⟩
       ·obtain ⟨_, rfl, e20⟩ := hd 3 20; exact Reg.gw hI
       ·obtain ⟨_, rfl, e21⟩ := hd 4 21; exact Reg.gw hI
       ·have e0 : ρ (.tmp 0) = .pointer (some ⟨b, 0, none⟩) := hs 0
        refine Reg.yes ?_
        exact Reg.gw hI
       ·obtain ⟨_, rfl, e23⟩ := hd 6 23
        refine Reg.yes ?_
        exact Reg.gw hI
       ·obtain ⟨_, rfl, e24⟩ := hd 7 24
        refine Reg.yes ?_
        exact Reg.Gives.value (v := s.val y) (w' := wi) (exec_load _ _ rfl _ _ (by assumption) (state_load (HOwc.out.later hI))) (Reg.OwedH.same hI rfl)
       ·have e3 : ρ (.tmp 3) = .pointer (some ⟨w.heap.size, 0, none⟩) := hs 3
        refine Reg.yes ?_
        exact Reg.gw hI
       ·obtain ⟨_, rfl, e26⟩ := hd 9 26
        refine Reg.yes ?_
        exact Reg.gw hI
       ·obtain ⟨_, rfl, e27⟩ := hd 10 27
        refine Reg.yes ?_
        have x0 := (HRwc.out.later hI).cell (j := 1) rfl; exact Reg.gw hI
       ·obtain ⟨_, rfl, e28⟩ := hd 11 28
        refine Reg.yes ?_
        have hal := below_alloc wi (.cells #[.int .i64 r.tid.node] 3)
        exact Reg.Gives.value (v := .slice (some ⟨wi.heap.size, 0, none⟩) 1 1) (w' := wi.alloc (.cells #[.int .i64 r.tid.node] 3)) (by go_simp) ⟨⟨_, rfl, cells_new wi _ _ _ rfl⟩, hI.trans (hal.mono hI.size), fun j u _ _ h => ledM_pr3d_later hal h⟩
       ·obtain ⟨_, rfl, e25⟩ := hd 8 25; obtain ⟨u29, g29, e29⟩ := hd 12 29; have hf := hE.func
        refine Reg.yes ?_
        obtain ⟨kk, rfl, hck⟩ := g29
        refine Reg.Gives.call (f := 95) (args := #[s.val y, .slice (some ⟨kk, 0, none⟩) 1 1]) (w' := wi) (by go_simp) ?_
        refine (calls_bool (above_any s y (some ⟨kk, 0, none⟩) [r.tid.node] 1 wi (fun j hj => ⟨kk, 0, rfl, cells_nums hck j hj⟩) (by simp)) HK2.out).mono ?_
        rintro e w'' ⟨rfl, hbb⟩
        exact ⟨_, rfl, ⟨rfl, hI.trans (hbb.mono hI.size), fun j u _ _ h => ledM_pr3d_later hbb h⟩⟩
       ·obtain ⟨_, rfl, e22⟩ := hd 5 22; obtain ⟨_, rfl, e30⟩ := hd 13 30; have hc := hE.const; exact Reg.gw hI
       ·obtain ⟨_, rfl, e31⟩ := hd 14 31; exact Reg.gw hI
       ·have e0 : ρ (.tmp 0) = .pointer (some ⟨b, 0, none⟩) := hs 0
        refine Reg.yes ?_
        exact Reg.gw hI
       ·obtain ⟨_, rfl, e33⟩ := hd 16 33
        refine Reg.yes ?_
        exact Reg.gw hI
       ·obtain ⟨_, rfl, e34⟩ := hd 17 34
        refine Reg.yes ?_
        exact Reg.Gives.value (v := s.val y) (w' := wi) (exec_load _ _ rfl _ _ (by assumption) (state_load (HOwc.out.later hI))) (Reg.OwedH.same hI rfl)
       ·have e3 : ρ (.tmp 3) = .pointer (some ⟨w.heap.size, 0, none⟩) := hs 3
        refine Reg.yes ?_
        exact Reg.gw hI
       ·obtain ⟨_, rfl, e36⟩ := hd 19 36
        refine Reg.yes ?_
        have x0 := (HRwc.out.later hI).cell (j := 5) rfl; exact Reg.gw hI
       ·obtain ⟨_, rfl, e35⟩ := hd 18 35; obtain ⟨_, rfl, e37⟩ := hd 20 37; have hf := hE.func
        refine Reg.yes ?_
        refine Reg.Gives.call (f := 95) (args := #[s.val y, .slice z.B r.nodes.length z.d]) (w' := wi) (by go_simp) ?_
        refine (calls_bool (above_any s y z.B r.nodes z.d wi (HHwc.out.later hI).2.1 (Nat.le_trans HRS.out.2 (by decide))) HK3.out).mono ?_
        rintro e w'' ⟨rfl, hbb⟩
        exact ⟨_, rfl, ⟨rfl, hI.trans (hbb.mono hI.size), fun j u _ _ h => ledM_pr3d_later hbb h⟩⟩
       ·obtain ⟨_, rfl, e32⟩ := hd 15 32; obtain ⟨_, rfl, e38⟩ := hd 21 38; have hc := hE.const; exact Reg.gw hI
       ·obtain ⟨_, rfl, e39⟩ := hd 22 39; exact Reg.gw hI
       ·have e3 : ρ (.tmp 3) = .pointer (some ⟨w.heap.size, 0, none⟩) := hs 3
        refine Reg.yes ?_
        exact Reg.gw hI
       ·obtain ⟨_, rfl, e41⟩ := hd 24 41
        refine Reg.yes ?_
        have x0 := (HRwc.out.later hI).cell (j := 5) rfl; exact Reg.gw hI
       ·have e0 : ρ (.tmp 0) = .pointer (some ⟨b, 0, none⟩) := hs 0
        refine Reg.yes ?_
        exact Reg.gw hI
       ·obtain ⟨_, rfl, e43⟩ := hd 26 43
        refine Reg.yes ?_
        exact Reg.gw hI
       ·obtain ⟨_, rfl, e44⟩ := hd 27 44
        refine Reg.yes ?_
        exact Reg.gw hI
       ·obtain ⟨_, rfl, e45⟩ := hd 28 45
        refine Reg.yes ?_
        have x0 := (HOwc.out.later hI).cel.cell (j := 0) rfl; exact Reg.gw hI
       ·obtain ⟨_, rfl, e42⟩ := hd 25 42; obtain ⟨_, rfl, e46⟩ := hd 29 46; have hf := hE.func
        refine Reg.yes ?_
        refine Reg.Gives.call (f := 98) (args := #[.slice z.B r.nodes.length z.d, .int .i64 s.node]) (w' := wi) (by go_simp) ?_
        refine (contains_int z.B r.nodes z.d s.node wi (HHwc.out.later hI).2.1 (Nat.le_trans HRS.out.2 (by decide))).mono ?_
        rintro e w'' ⟨rfl, rfl⟩
        exact ⟨_, rfl, Reg.OwedH.same hI rfl⟩
       ·obtain ⟨_, rfl, e47⟩ := hd 30 47
        refine Reg.yes ?_
        exact Reg.gw hI
       ·obtain ⟨_, rfl, e40⟩ := hd 23 40; obtain ⟨_, rfl, e48⟩ := hd 31 48; have hc := hE.const; exact Reg.gw hI
       ·obtain ⟨_, rfl, e49⟩ := hd 32 49; exact Reg.gw hI
      ·intro V wd hV hI
       have hV33 : V 33 = .bool (!(isPart s r.nodes)) := hV 33 (by decide) rfl
       simp only [Reg.putsO, List.foldl_cons, List.foldl_nil, Act.put, List.setIfInBounds_toArray, List.set_cons_succ, List.set_cons_zero, hV33]
       replace hI : (fun a => Below wc.heap.size wc a) wd := hI
       clear hV hV33
       have HOwd := Lib.hid (HOwc.out.later hI)
       have HRwd := Lib.hid (HRwc.out.later hI)
       have HHwd := Lib.hid (HHwc.out.later hI)
       have HBwd := Lib.hid (HBwc.out.trans (hI.mono HBwc.out.size))
       clear hI
       cases h4 : isPart s r.nodes with
       | false =>
        have HK4 := Lib.hid h4
        clear h4
        have HFX : Hid (F = (s, 1)) := Lib.hid (by rw [HF.out]; unfold fPrepare; rw [HK0.out, if_neg (by decide), HK1.out, if_neg (by decide), HK2.out, if_neg (by decide), HK3.out, if_neg (by decide), if_pos HK4.out])
        go_wp2_with fail
        go_returns
        exact ⟨ret_int (by rw [HFX.out]), by rw [HFX.out]; exact Step.same HOwd.out HBwd.out⟩
       | true =>
        have HK4 := Lib.hid h4
        clear h4
        have HF2 : Hid (F = if firstE s r.items = 0 then (if room s = false then (s, 6) else (prepS s r, 0)) else (s, firstE s r.items)) := Lib.hid (by rw [HF.out]; unfold fPrepare; rw [HK0.out, if_neg (by decide), HK1.out, if_neg (by decide), HK2.out, if_neg (by decide), HK3.out, if_neg (by decide), HK4.out, if_neg (by decide)])
        have hx := HRwd.out
        unfold Rc.vals at hx
        have x4 := hx.cell (j := 4) rfl
        clear hx
        obtain ⟨n, hn⟩ : ∃ n, r.items.length = n := ⟨_, rfl⟩
        have HN := Lib.hid hn
        have hn1 : n ≤ 1000 := by rw [← hn]; exact HRS.out.1
        go_wp2_with fail
        clear x4
        simp only [hn]
        clear hn
        go_loopw [53] (fun i wr => ∃ j0 : Nat, j0 ≤ n ∧ i = .int .i64 (j0 : Int) ∧ Hid (firstE s (r.items.drop j0) = firstE s r.items) ∧ Hid (Below wd.heap.size wd wr)) (fun i _ => n - (intOf i).toNat)
        case atStart => exact ⟨0, Nat.zero_le _, rfl, Lib.hid (by rw [List.drop_zero]), Lib.hid (Below.refl _ _)⟩
        case round =>
         obtain ⟨j0, hj, rfl, HE, HBR⟩ := hrel
         by_cases hlt : j0 < n
         ·have hlk : j0 < r.items.length := by have := HN.out; omega
          obtain ⟨ab, off, hA, hit⟩ := (HHwd.out.later HBR.out).1 j0 hlk
          obtain ⟨x, hx⟩ : ∃ x, r.items[j0] = x := ⟨_, rfl⟩
          have HE2 : Hid ((if lockE s x = 0 then firstE s (r.items.drop (j0 + 1)) else lockE s x) = firstE s r.items) := Lib.hid (by rw [← HE.out, List.drop_eq_getElem_cons hlk, hx]; rfl)
          rw [hx] at hit
          have z0 := hit.cell
          have z1 := hit.version
          have z2 := hit.value
          have z3 := hit.write
          have z4 := hit.new
          have HZA := Lib.hid hA
          clear hit hx hlk
          obtain ⟨wx, hwx⟩ : ∃ v, v = wr.alloc (.cells #[.int .i64 x.cell, .int .i64 x.version, .int .i64 x.value, .bool x.write, .int .i64 x.new] 72) := ⟨_, rfl⟩
          have HBX : Hid (Below wd.heap.size wd wx) := Lib.hid (by rw [hwx]; exact HBR.out.trans ((below_alloc _ _).mono HBR.out.size))
          simp only [hA]
          clear hA
          go_wp2_with fail
          rw [← hwx]
          clear hwx z0 z1 z2 z3 z4
          refine (lockable_any s y x b wx (HOwd.out.later HBX.out).sees (HOwd.out.later HBX.out).cel ⟨Nat.le_trans HSM.out.prep (by decide), fun p hp => Nat.le_trans (HSM.out.pin p hp).1 (by decide)⟩).mono ?_
          rintro e w2 ⟨rfl, hb2⟩
          have HB2 := Lib.hid (HBX.out.trans (hb2.mono HBX.out.size))
          clear hb2
          by_cases hl : lockE s x = 0
          ·have HE3 : Hid (firstE s (r.items.drop (j0 + 1)) = firstE s r.items) := Lib.hid (by have h := HE2.out; rw [if_pos hl] at h; exact h)
           simp only [hl]
           clear hl
           go_wp2_with fail
           go_roundw
           case rel => exact ⟨j0 + 1, by omega, by go_num, HE3, HB2⟩
           case measure => simp [intOf]; omega
          ·have HNZ := Lib.hid hl
           have HFX : Hid (F = (s, lockE s x)) := Lib.hid (by rw [HF2.out, ← HE2.out, if_neg HNZ.out, if_neg HNZ.out])
           obtain ⟨ec, hec⟩ : ∃ e, lockE s x = e := ⟨_, rfl⟩
           rw [hec] at HFX hl ⊢
           have hnz : (ec != 0) = true := by simpa using hl
           clear hec
           go_wp2_with fail
           go_returns
           exact ⟨ret_int (by rw [HFX.out]), by rw [HFX.out]; exact Step.same (HOwd.out.later HB2.out) (HBwd.out.trans (HB2.out.mono HBwd.out.size))⟩
         ·have HE0 : Hid (firstE s r.items = 0) := Lib.hid (by rw [← HE.out, List.drop_of_length_le (by have := HN.out; omega)]; rfl)
          have HOwr := Lib.hid (HOwd.out.later HBR.out)
          have HRwr := Lib.hid (HRwd.out.later HBR.out)
          have HHwr := Lib.hid (HHwd.out.later HBR.out)
          have HBwr := Lib.hid (HBwd.out.trans (HBR.out.mono HBwd.out.size))
          have hq := HOwr.out.cel
          unfold St.vals at hq
          have q0 := hq.cell (j := 0) rfl
          have q1 := hq.cell (j := 1) rfl
          have q2 := hq.cell (j := 2) rfl
          have q3 := hq.cell (j := 3) rfl
          have q4 := hq.cell (j := 4) rfl
          have q5 := hq.cell (j := 5) rfl
          have q6 := hq.cell (j := 6) rfl
          have q7 := hq.cell (j := 7) rfl
          clear hq
          go_wp2_with fail
          clear q0 q1 q2 q3 q4 q5 q6 q7
          refine (room_any s y wr (Nat.le_trans HSM.out.prep (by decide)) (Nat.le_trans HSM.out.dec (by decide))).mono ?_
          rintro e wk ⟨he, hI⟩
          replace he : e = .returned (.bool (room s)) := he
          subst he
          have HOwk := Lib.hid (HOwr.out.later hI)
          have HRwk := Lib.hid (HRwr.out.later hI)
          have HHwk := Lib.hid (HHwr.out.later hI)
          have HBwk := Lib.hid (HBwr.out.trans (hI.mono HBwr.out.size))
          clear hI
          cases hl : room s with
          | false =>
           have HL := Lib.hid hl
           clear hl
           have HFX : Hid (F = (s, 6)) := Lib.hid (by rw [HF2.out, if_pos HE0.out, if_pos HL.out])
           go_wp2_with fail
           go_returns
           exact ⟨ret_int (by rw [HFX.out]), by rw [HFX.out]; exact Step.same HOwk.out HBwk.out⟩
          | true =>
           have HL := Lib.hid hl
           clear hl
           have HFX : Hid (F = (prepS s r, 0)) := Lib.hid (by rw [HF2.out, if_pos HE0.out, if_neg (by rw [HL.out]; decide)])
           have hx := HRwk.out
           unfold Rc.vals at hx
           have x0 := hx.cell (j := 0) rfl
           have x1 := hx.cell (j := 1) rfl
           have x2 := hx.cell (j := 2) rfl
           have x3 := hx.cell (j := 3) rfl
           have x4 := hx.cell (j := 4) rfl
           have x5 := hx.cell (j := 5) rfl
           have x6 := hx.cell (j := 6) rfl
           have x7 := hx.cell (j := 7) rfl
           have x8 := hx.cell (j := 8) rfl
           have x9 := hx.cell (j := 9) rfl
           have x10 := hx.cell (j := 10) rfl
           have x11 := hx.cell (j := 11) rfl
           have x12 := hx.cell (j := 12) rfl
           have x13 := hx.cell (j := 13) rfl
           have x14 := hx.cell (j := 14) rfl
           clear hx
           go_upto_region 15 with (fail)
           clear x0 x1 x2 x3 x4 x5 x6 x7 x8 x9 x10 x11 x12 x13 x14
           obtain ⟨we, hwe⟩ : ∃ v, v = wk.alloc (.cells #[.int .i64 r.tid.node, .int .i64 r.tid.epoch, .int .i64 r.tid.seq, .slice z.A r.items.length z.c, .slice z.B r.nodes.length z.d] 86) := ⟨_, rfl⟩
           have hI : Below wk.heap.size wk we := by rw [hwe]; exact below_alloc _ _
           have HXwe : Hid (Cells we wk.heap.size 86 [.int .i64 r.tid.node, .int .i64 r.tid.epoch, .int .i64 r.tid.seq, .slice z.A r.items.length z.c, .slice z.B r.nodes.length z.d]) := Lib.hid (by rw [hwe]; exact cells_new _ _ _ _ rfl)
           rw [← hwe]
           clear hwe
           have HOwe := Lib.hid (HOwk.out.later hI)
           have HRwe := Lib.hid (HRwk.out.later hI)
           have HHwe := Lib.hid (HHwk.out.later hI)
           have HBwe := Lib.hid (HBwk.out.trans (hI.mono HBwk.out.size))
           clear hI
           have HBS : Hid (base ≤ we.heap.size) := Lib.hid (Nat.le_trans HLO.out HBwe.out.size)
           have HI : Hid (∀ V : Nat → Value, cond false (Step base b s y we (prepS s r) we.drew) (cond false (∃ ps', InsQ base b y (prepS s r).prep ps' we (V 7) we.drew) (cond false (KP b y (rcPr r) we (V 6) we.drew) (Below we.heap.size we we.drew)))) := Lib.hid fun V => (Below.refl _ _).drew
           refine Reg.region_inv (by kernel_rfl) (fun i => ([some (.pointer (some ⟨b, 0, none⟩)), some (.pointer (some ⟨b, 0, none⟩)), some (.pointer (some ⟨b, 0, none⟩)), some (.pointer (some ⟨b, 5, none⟩)), some (.slice y.Q s.prep.length y.q), some (.agg #[.int .i64 r.tid.node, .int .i64 r.tid.epoch, .int .i64 r.tid.seq, .slice z.A r.items.length z.c, .slice z.B r.nodes.length z.d]), none, none, some (.pointer (some ⟨b, 0, none⟩)), some (.pointer (some ⟨b, 5, none⟩)), none] : List (Option Value)).getD i none) (fun D V W => cond (D 10) (Step base b s y we (prepS s r) W) (cond (D 7) (∃ ps', InsQ base b y (prepS s r).prep ps' we (V 7) W) (cond (D 6) (KP b y (rcPr r) we (V 6) W) (Below we.heap.size we W)))) (fun V => [(some 76, V 0), (some 77, V 1), (some 78, V 2), (some 79, V 3), (some 80, V 4), (some 81, V 5), (some 82, V 6), (some 83, V 7), (some 84, V 8), (some 85, V 9), (none, V 10)]) (by kernel_rfl) (by kernel_rfl) (fun V => rfl) ?_ ?_ ?_
           ·intro V
            exact HI.out V
           ·intro i o ho
            have hi : i < 11 := (Array.getElem?_eq_some_iff.1 ho).1
            rcases i with _ | _ | _ | _ | _ | _ | _ | _ | _ | _ | _ | i
            rotate_right
            ·omega
            all_goals obtain rfl := Option.some.inj ho
            all_goals intro D V ρ wi hE hI hDi hT hF hs hd hk
            ·have e0 : ρ (.tmp 0) = .pointer (some ⟨b, 0, none⟩) := hs 0; clear hT hF hk
             exact Reg.Gives.value (v := .pointer (some ⟨b, 0, none⟩)) (w' := wi) (by go_simp) ⟨fun x h => Option.some.inj h, hI⟩
            ·have e0 : ρ (.tmp 0) = .pointer (some ⟨b, 0, none⟩) := hs 0; clear hT hF hk
             exact Reg.Gives.value (v := .pointer (some ⟨b, 0, none⟩)) (w' := wi) (by go_simp) ⟨fun x h => Option.some.inj h, hI⟩
            ·have e77 : ρ (.tmp 77) = .pointer (some ⟨b, 0, none⟩) := (hd 1 77).trans (hk 1 _ rfl); clear hT hF hk
             exact Reg.Gives.value (v := .pointer (some ⟨b, 0, none⟩)) (w' := wi) (by go_simp) ⟨fun x h => Option.some.inj h, hI⟩
            ·have e78 : ρ (.tmp 78) = .pointer (some ⟨b, 0, none⟩) := (hd 2 78).trans (hk 2 _ rfl); clear hT hF hk
             exact Reg.Gives.value (v := .pointer (some ⟨b, 5, none⟩)) (w' := wi) (by go_simp) ⟨fun x h => Option.some.inj h, hI⟩
            ·have e79 : ρ (.tmp 79) = .pointer (some ⟨b, 5, none⟩) := (hd 3 79).trans (hk 3 _ rfl); have hD7 : D 7 = false := hF 1 7; have hD10 : D 10 = false := hF 1 10; clear hT hF; have hI0 := hI
             simp only [hD7, hD10, cond_false] at hI
             have hlow : Below we.heap.size we wi := by revert hI; cases D 6 <;> intro hI <;> first | exact hI | exact hI.1
             have x0 := (HOwe.out.later hlow).cel.cell (j := 5) rfl; clear hI
             exact Reg.Gives.value (v := .slice y.Q s.prep.length y.q) (w' := wi) (by go_simp) ⟨fun x h => Option.some.inj h, hI0⟩
            ·have e8 : ρ (.tmp 8) = .pointer (some ⟨wk.heap.size, 0, none⟩) := hs 8; have hD6 : D 6 = false := hF 1 6; have hD7 : D 7 = false := hF 2 7; have hD10 : D 10 = false := hF 1 10; clear hT hF; have hI0 := hI
             simp only [hD6, hD7, hD10, cond_false] at hI
             have hz := HXwe.out.later hI; have x0 := hz.cell (j := 0) rfl; have x1 := hz.cell (j := 1) rfl; have x2 := hz.cell (j := 2) rfl; have x3 := hz.cell (j := 3) rfl; have x4 := hz.cell (j := 4) rfl; clear hz
             exact Reg.Gives.value (v := .agg #[.int .i64 r.tid.node, .int .i64 r.tid.epoch, .int .i64 r.tid.seq, .slice z.A r.items.length z.c, .slice z.B r.nodes.length z.d]) (w' := wi) (by go_simp) ⟨fun x h => Option.some.inj h, hI0⟩
            ·have e81 : ρ (.tmp 81) = .agg #[.int .i64 r.tid.node, .int .i64 r.tid.epoch, .int .i64 r.tid.seq, .slice z.A r.items.length z.c, .slice z.B r.nodes.length z.d] := (hd 5 81).trans (hk 5 _ rfl); have hf := hE.func; have hD6 : D 6 = false := hDi; have hD7 : D 7 = false := hF 1 7; have hD10 : D 10 = false := hF 1 10; clear hT hF
             simp only [hD6, hD7, hD10, cond_false] at hI
             refine Reg.Gives.call (f := 62) (args := #[.agg #[.int .i64 r.tid.node, .int .i64 r.tid.epoch, .int .i64 r.tid.seq, .slice z.A r.items.length z.c, .slice z.B r.nodes.length z.d]]) (w' := wi) (by go_simp) ?_
             refine (clone_prep (rcPr r) z wi (HHwe.out.later hI) ⟨Nat.le_trans HRS.out.1 (by decide), Nat.le_trans HRS.out.2 (by decide)⟩).mono ?_
             rintro e w'' ⟨⟨lay, rfl, hfr⟩, hb'⟩
             refine ⟨_, rfl, fun x h => (by cases h), ?_⟩
             show cond (D 10) (Step base b s y we (prepS s r) w'') (cond (D 7) (∃ ps', InsQ base b y (prepS s r).prep ps' we (V 7) w'') (cond true (KP b y (rcPr r) we (Value.agg ((rcPr r).vals lay).toArray) w'') (Below we.heap.size we w'')))
             rw [hD7, hD10]
             exact KP.make (HOwe.out.later hI) hI hfr hb'
            ·have e80 : ρ (.tmp 80) = .slice y.Q s.prep.length y.q := (hd 4 80).trans (hk 4 _ rfl); have e82 : ρ (.tmp 82) = V 6 := hd 6 82; have hf := hE.func; have hD6 : D 6 = true := hT 1 6; have hD7 : D 7 = false := hDi; have hD10 : D 10 = false := hF 1 10; clear hT hF
             simp only [hD6, hD7, hD10, cond_true, cond_false] at hI
             obtain ⟨hb, lay, hv, hfr⟩ := hI; have e82b : ρ (.tmp 82) = .agg #[.int .i64 r.tid.node, .int .i64 r.tid.epoch, .int .i64 r.tid.seq, .slice lay.A r.items.length lay.c, .slice lay.B r.nodes.length lay.d] := e82.trans hv; clear e82
             refine Reg.Gives.call (f := 101) (args := #[.slice y.Q s.prep.length y.q, .func (.func 48) #[] #[], .agg #[.int .i64 r.tid.node, .int .i64 r.tid.epoch, .int .i64 r.tid.seq, .slice lay.A r.items.length lay.c, .slice lay.B r.nodes.length lay.d]]) (w' := wi) (by go_simp) ?_
             refine (insQ_call (p := rcPr r) (lay := lay) HOwe.out hb HBS.out HSM.out.prep hfr).mono ?_
             rintro e w'' ⟨v', rfl, hins⟩
             refine ⟨_, rfl, fun x h => (by cases h), ?_⟩
             show cond (D 10) (Step base b s y we (prepS s r) w'') (cond true (∃ ps', InsQ base b y (prepS s r).prep ps' we v' w'') (cond (D 6) (KP b y (rcPr r) we (V 6) w'') (Below we.heap.size we w'')))
             rw [hD10]
             exact ⟨_, hins⟩
            ·have e76 : ρ (.tmp 76) = .pointer (some ⟨b, 0, none⟩) := (hd 0 76).trans (hk 0 _ rfl); clear hT hF hk
             exact Reg.Gives.value (v := .pointer (some ⟨b, 0, none⟩)) (w' := wi) (by go_simp) ⟨fun x h => Option.some.inj h, hI⟩
            ·have e84 : ρ (.tmp 84) = .pointer (some ⟨b, 0, none⟩) := (hd 8 84).trans (hk 8 _ rfl); clear hT hF hk
             exact Reg.Gives.value (v := .pointer (some ⟨b, 5, none⟩)) (w' := wi) (by go_simp) ⟨fun x h => Option.some.inj h, hI⟩
            ·have e85 : ρ (.tmp 85) = .pointer (some ⟨b, 5, none⟩) := (hd 9 85).trans (hk 9 _ rfl); have e83 : ρ (.tmp 83) = V 7 := hd 7 83; have hD7 : D 7 = true := hT 1 7; have hD10 : D 10 = false := hDi; clear hT hF
             simp only [hD7, hD10, cond_true, cond_false] at hI
             obtain ⟨ps', hI⟩ := hI; obtain ⟨A9, n9, c9, f1, x0, x1⟩ := insQ_cells HOwe.out hI; have e83b := e83.trans f1; clear e83
             exact Reg.Gives.skip (w' := wi.setCell ⟨b, 5, none⟩ (V 7)) (by rw [f1]; clear f1; go_simp) ⟨fun x h => (by cases h), insQ_step HOwe.out hI⟩
           ·intro V wf hk hI
            simp only [Reg.putsO, List.foldl_cons, List.foldl_nil, Act.put, List.setIfInBounds_toArray, List.set_cons_succ, List.set_cons_zero]
            replace hI : cond true (Step base b s y we (prepS s r) wf) (cond true (∃ ps', InsQ base b y (prepS s r).prep ps' we (V 7) wf) (cond true (KP b y (rcPr r) we (V 6) wf) (Below we.heap.size we wf))) := hI
            clear hk
            have HNX := Lib.hid hI
            clear hI HI
            go_wp2_with fail
            go_returns
            exact ⟨ret_int (by rw [HFX.out]), by rw [HFX.out]; exact Step.before HBwe.out HNX.out⟩
end Go.Proofs.YtalhbblmnahcdaaGreat.Led
