/-
  Layer 7: records as values, and the small functions that speak of their fields.
  Conditions: none.
-/
import Derived.Test.YtalhbblmnahcdaaGreatPa7
import Derived.Laws.StructEq
import Derived.Lib.SmallJoins
namespace Go.Proofs.YtalhbblmnahcdaaGreat.Rec
set_option maxRecDepth 100000
open Go.RowKit Go.Proofs.YtalhbblmnahcdaaGreat.Mem Go.Proofs.YtalhbblmnahcdaaGreat.Item
/-- What a node writes down. -/
structure Rc where
 kind : Int
 tid : Tid
 items : List It
 nodes : List Int
 node : Int
 count : Int
 num : Int
 cell : Int
 status : Int
 hop : Int
 version : Int
 value : Int
 yes : Bool
/-- Where a record's two lists lie. -/
structure Lay where
 A : Option Addr
 c : Nat
 B : Option Addr
 d : Nat
def Rc.vals (r : Rc) (y : Lay) : List Value := [.int .i64 r.kind, .int .i64 r.tid.node, .int .i64 r.tid.epoch, .int .i64 r.tid.seq, .slice y.A r.items.length y.c, .slice y.B r.nodes.length y.d, .int .i64 r.node, .int .i64 r.count, .int .i64 r.num, .int .i64 r.cell, .int .i64 r.status, .int .i64 r.hop, .int .i64 r.version, .int .i64 r.value, .bool r.yes]
def Rc.val (r : Rc) (y : Lay) : Value := .agg #[.int .i64 r.kind, .int .i64 r.tid.node, .int .i64 r.tid.epoch, .int .i64 r.tid.seq, .slice y.A r.items.length y.c, .slice y.B r.nodes.length y.d, .int .i64 r.node, .int .i64 r.count, .int .i64 r.num, .int .i64 r.cell, .int .i64 r.status, .int .i64 r.hop, .int .i64 r.version, .int .i64 r.value, .bool r.yes]
/-- The lists of a record are there. -/
structure Has (w : World) (r : Rc) (y : Lay) : Prop where
 items : Items w y.A r.items
 nodes : Nums w y.B r.nodes
theorem Has.later {w w' : World} {r : Rc} {y : Lay} (h : Has w r y) (hb : Below w.heap.size w w') : Has w' r y := ⟨h.items.later hb, h.nodes.later hb⟩
/-- A record of Go's own numbers. -/
structure Rc.ok (r : Rc) : Prop where
 kind : I64 r.kind
 tid : r.tid.ok
 items : ∀ x ∈ r.items, x.ok
 nodes : ∀ x ∈ r.nodes, I64 x
 node : I64 r.node
 count : I64 r.count
 num : I64 r.num
 cell : I64 r.cell
 status : I64 r.status
 hop : I64 r.hop
 version : I64 r.version
 value : I64 r.value
def rc0 : Rc := ⟨0, ⟨0, 0, 0⟩, [], [], 0, 0, 0, 0, 0, 0, 0, 0, false⟩
def lay0 : Lay := ⟨none, 0, none, 0⟩
/-- The numbers of a record, in order. -/
def Rc.numV (r : Rc) : List Int := [r.node, r.count, r.num, r.cell, r.status, r.hop, r.version, r.value]
def Rc.get (r : Rc) (k : Nat) : Int := (r.numV[k]?).getD 0
theorem numbers_any (r : Rc) (y : Lay) (w : World) :
  Calls Tryz.prog 93 #[r.val y] w fun e w' => e = .returned (.agg #[.int .i64 r.node, .int .i64 r.count, .int .i64 r.num, .int .i64 r.cell, .int .i64 r.status, .int .i64 r.hop, .int .i64 r.version, .int .i64 r.value]) ∧ Below w.heap.size w w' := by
 obtain ⟨k, ⟨t1, t2, t3⟩, its, nds, a0, a1, a2, a3, a4, a5, a6, a7, yes⟩ := r
 obtain ⟨A, c, B, d⟩ := y
 generalize hL : its.length = L
 generalize hM : nds.length = M
 unfold Rc.val
 simp only [hL, hM]
 clear hL hM
 go_enter Tryz.func93, Tryz.ntmps93
 go_wp2
 go_returns
 exact ⟨rfl, Go.Joins.below_alloc2 _ _ _⟩
theorem nums_new (w : World) (t : TypeId) (l : List Int) (C : Array Value) (hC : C.toList = l.map (Value.int .i64)) : Nums (w.alloc (.cells C t)) (some ⟨w.heap.size, 0, none⟩) l :=
 fun k hk => ⟨_, 0, rfl, by rw [Nat.zero_add]; exact (cells_new w t _ C hC).cell (by simp [hk])⟩
/-- The fields of a kind. -/
def fl (k : Int) : List Int := if k = 1 then [0, 1, 2] else if k = 2 then [2] else if k = 3 then [3, 4, 5, 0, 6, 7] else if k = 4 then [8, 9, 10] else if k = 5 then [8, 9, 10] else if k = 6 then [8, 11] else if k = 7 then [8] else if k = 8 then [3, 5, 0] else if k = 9 then [3, 5, 6, 7] else if k = 10 then [3, 5] else if k = 11 then [8, 11] else []
theorem fields_any (k : Int) (w : World) :
  Calls Tryz.prog 56 #[.int .i64 k] w fun e w' => ∃ A c, e = .returned (.tuple #[.slice A (fl k).length c, .bool (decide (1 ≤ k ∧ k ≤ 12))]) ∧ Nums w' A (fl k) ∧ (∀ b off, A = some ⟨b, off, none⟩ → w.heap.size ≤ b) ∧ Below w.heap.size w w' := by
 by_cases h1 : k = 1
 ·subst h1
  go_enter Tryz.func56, Tryz.ntmps56
  go_wp2
  go_returns
  exact ⟨some ⟨w.heap.size, 0, none⟩, _, rfl, nums_new w _ _ _ rfl, fun b off e => by cases e; exact Nat.le_refl _, below_alloc _ _⟩
 by_cases h2 : k = 2
 ·subst h2
  go_enter Tryz.func56, Tryz.ntmps56
  go_wp2
  go_returns
  exact ⟨some ⟨w.heap.size, 0, none⟩, _, rfl, nums_new w _ _ _ rfl, fun b off e => by cases e; exact Nat.le_refl _, below_alloc _ _⟩
 by_cases h3 : k = 3
 ·subst h3
  go_enter Tryz.func56, Tryz.ntmps56
  go_wp2
  go_returns
  exact ⟨some ⟨w.heap.size, 0, none⟩, _, rfl, nums_new w _ _ _ rfl, fun b off e => by cases e; exact Nat.le_refl _, below_alloc _ _⟩
 by_cases h4 : k = 4
 ·subst h4
  go_enter Tryz.func56, Tryz.ntmps56
  go_wp2
  go_returns
  exact ⟨some ⟨w.heap.size, 0, none⟩, _, rfl, nums_new w _ _ _ rfl, fun b off e => by cases e; exact Nat.le_refl _, below_alloc _ _⟩
 by_cases h5 : k = 5
 ·subst h5
  go_enter Tryz.func56, Tryz.ntmps56
  go_wp2
  go_returns
  exact ⟨some ⟨w.heap.size, 0, none⟩, _, rfl, nums_new w _ _ _ rfl, fun b off e => by cases e; exact Nat.le_refl _, below_alloc _ _⟩
 by_cases h6 : k = 6
 ·subst h6
  go_enter Tryz.func56, Tryz.ntmps56
  go_wp2
  go_returns
  exact ⟨some ⟨w.heap.size, 0, none⟩, _, rfl, nums_new w _ _ _ rfl, fun b off e => by cases e; exact Nat.le_refl _, below_alloc _ _⟩
 by_cases h7 : k = 7
 ·subst h7
  go_enter Tryz.func56, Tryz.ntmps56
  go_wp2
  go_returns
  exact ⟨some ⟨w.heap.size, 0, none⟩, _, rfl, nums_new w _ _ _ rfl, fun b off e => by cases e; exact Nat.le_refl _, below_alloc _ _⟩
 by_cases h8 : k = 8
 ·subst h8
  go_enter Tryz.func56, Tryz.ntmps56
  go_wp2
  go_returns
  exact ⟨some ⟨w.heap.size, 0, none⟩, _, rfl, nums_new w _ _ _ rfl, fun b off e => by cases e; exact Nat.le_refl _, below_alloc _ _⟩
 by_cases h9 : k = 9
 ·subst h9
  go_enter Tryz.func56, Tryz.ntmps56
  go_wp2
  go_returns
  exact ⟨some ⟨w.heap.size, 0, none⟩, _, rfl, nums_new w _ _ _ rfl, fun b off e => by cases e; exact Nat.le_refl _, below_alloc _ _⟩
 by_cases h10 : k = 10
 ·subst h10
  go_enter Tryz.func56, Tryz.ntmps56
  go_wp2
  go_returns
  exact ⟨some ⟨w.heap.size, 0, none⟩, _, rfl, nums_new w _ _ _ rfl, fun b off e => by cases e; exact Nat.le_refl _, below_alloc _ _⟩
 by_cases h11 : k = 11
 ·subst h11
  go_enter Tryz.func56, Tryz.ntmps56
  go_wp2
  go_returns
  exact ⟨some ⟨w.heap.size, 0, none⟩, _, rfl, nums_new w _ _ _ rfl, fun b off e => by cases e; exact Nat.le_refl _, below_alloc _ _⟩
 have hf : fl k = [] := by
  unfold fl
  simp only [h1, h2, h3, h4, h5, h6, h7, h8, h9, h10, h11, if_false]
 rw [hf]
 by_cases h12 : k = 12
 ·subst h12
  clear hf
  go_enter Tryz.func56, Tryz.ntmps56
  go_wp2
  go_returns
  exact ⟨none, _, rfl, nums_nil _ _, fun b off e => (by cases e), Below.refl _ _⟩
 ·rw [decide_eq_false (by omega)]
  clear hf
  go_enter Tryz.func56, Tryz.ntmps56
  go_wp2
  go_returns
  exact ⟨none, _, rfl, nums_nil _ _, fun b off e => (by cases e), Below.refl _ _⟩
def nodeLim (r : Rc) : Int × Int := if r.kind = 3 ∧ r.status ≠ 2 then (0, 0) else if r.kind = 1 then (1, r.count) else (1, 16)
theorem nodeLimits_any (r : Rc) (y : Lay) (w : World) :
  Calls Tryz.prog 108 #[r.val y] w fun e w' => e = .returned (.tuple #[.int .i64 (nodeLim r).1, .int .i64 (nodeLim r).2]) ∧ Below w.heap.size w w' := by
 obtain ⟨k, ⟨t1, t2, t3⟩, its, nds, a0, a1, a2, a3, a4, a5, a6, a7, yes⟩ := r
 obtain ⟨A, c, B, d⟩ := y
 generalize hL : its.length = L
 generalize hM : nds.length = M
 unfold Rc.val nodeLim
 simp only [hL, hM]
 clear hL hM
 by_cases h3 : k = 3
 ·subst h3
  by_cases h4 : a4 = 2
  ·subst h4
   go_enter Tryz.func108, Tryz.ntmps108
   go_wp2
   go_returns
   exact ⟨rfl, below_alloc _ _⟩
  ·rw [if_pos ⟨rfl, h4⟩]
   go_enter Tryz.func108, Tryz.ntmps108
   go_wp2
   go_returns
   exact ⟨rfl, below_alloc _ _⟩
 ·rw [if_neg (fun h => h3 h.1)]
  by_cases h1 : k = 1
  ·subst h1
   go_enter Tryz.func108, Tryz.ntmps108
   go_wp2_with (go_region)
   go_returns
   exact ⟨rfl, (below_alloc _ _).drew⟩
  ·rw [if_neg h1]
   go_enter Tryz.func108, Tryz.ntmps108
   go_wp2
   go_returns
   exact ⟨rfl, below_alloc _ _⟩
def lims (r : Rc) (f : Nat) : Int × Int :=
 if f = 0 then nodeLim r else if f = 1 then (1, 16) else if f = 2 then (if r.kind = 1 then (1, 16) else (1, 1099511627776)) else if f = 3 then (0, 15) else if f = 4 then (0, 2)
 else if f = 5 then (if r.kind = 3 then (0, 1099511627776) else (1, 1099511627776)) else if f = 6 then (0, 1099511627776) else (-9223372036854775808, 9223372036854775807)
set_option maxHeartbeats 1000000 in
theorem limits_any (r : Rc) (y : Lay) (f : Nat) (w : World) (hf : f < 8) :
  Calls Tryz.prog 94 #[r.val y, .int .i64 (f : Int)] w fun e w' => e = .returned (.tuple #[.int .i64 (lims r f).1, .int .i64 (lims r f).2]) ∧ Below w.heap.size w w' := by
 have HN := Lib.hid (fun w => nodeLimits_any r y w)
 obtain ⟨p, hp⟩ : ∃ p, nodeLim r = p := ⟨_, rfl⟩
 rw [hp] at HN
 unfold lims
 rw [hp]
 clear hp
 obtain ⟨k, ⟨t1, t2, t3⟩, its, nds, a0, a1, a2, a3, a4, a5, a6, a7, yes⟩ := r
 obtain ⟨A, c, B, d⟩ := y
 generalize hL : its.length = L at HN ⊢
 generalize hM : nds.length = M at HN ⊢
 unfold Rc.val at HN ⊢
 simp only [hL, hM] at HN ⊢
 clear hL hM
 match f, hf with
 | 0, _ =>
  go_enter Tryz.func94, Tryz.ntmps94
  go_wp2_with fail
  refine (HN.out _).mono ?_
  rintro e w1 ⟨rfl, hb1⟩
  have HB1 := Lib.hid (Below.trans (below_alloc w _) (Go.Joins.below_le hb1 (by simp)))
  clear hb1
  go_wp2_with fail
  go_returns
  exact ⟨rfl, HB1.out⟩
 | 1, _ | 3, _ | 4, _ | 6, _ | 7, _ =>
  go_enter Tryz.func94, Tryz.ntmps94
  go_wp2
  go_returns
  exact ⟨rfl, below_alloc _ _⟩
 | 2, _ =>
  by_cases h1 : k = 1
  ·subst h1
   go_enter Tryz.func94, Tryz.ntmps94
   go_wp2
   go_returns
   exact ⟨rfl, below_alloc _ _⟩
  ·rw [if_neg h1]
   go_enter Tryz.func94, Tryz.ntmps94
   go_wp2
   go_returns
   exact ⟨rfl, below_alloc _ _⟩
 | 5, _ =>
  by_cases h1 : k = 3
  ·subst h1
   go_enter Tryz.func94, Tryz.ntmps94
   go_wp2
   go_returns
   exact ⟨rfl, below_alloc _ _⟩
  ·rw [if_neg h1]
   go_enter Tryz.func94, Tryz.ntmps94
   go_wp2
   go_returns
   exact ⟨rfl, below_alloc _ _⟩
end Go.Proofs.YtalhbblmnahcdaaGreat.Rec
