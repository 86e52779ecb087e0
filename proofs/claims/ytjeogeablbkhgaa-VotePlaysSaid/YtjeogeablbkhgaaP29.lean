/-
  Layer 19, the pure half: a ballot's parts, what is voted, acknowledged and waited for. No program's function is named.
  Conditions: none.
-/
import Derived.Test.YtjeogeablbkhgaaP6
import Derived.Test.YtjeogeablbkhgaaP12
import Derived.Test.YtjeogeablbkhgaaP28
import Derived.Test.YtjeogeablbkhgaaP27
namespace Go.Proofs.Ytjeogeablbkhgaa.Vot
open Go.RowKit Go.Proofs.Ytjeogeablbkhgaa.Mem Go.Proofs.Ytjeogeablbkhgaa.Item
/-- A part of a ballot, and what it said; its items lie at A. -/
structure Sd where
 node : Int
 A : Option Addr
 c : Nat
 its : List It
 yes : Bool
 ack : Bool
def Sd.vals (s : Sd) : List Value := [.int .i64 s.node, .slice s.A s.its.length s.c, .bool s.yes, .bool s.ack]
theorem fit_sd (l : List Sd) : Fit 4 (l.map Sd.vals) := ⟨fun v hv => by obtain ⟨x, _, rfl⟩ := List.mem_map.1 hv; rfl, fun v hv u hu => by
 obtain ⟨x, _, rfl⟩ := List.mem_map.1 hv
 unfold Sd.vals at hu
 simp only [List.mem_cons, List.not_mem_nil, or_false] at hu
 rcases hu with rfl | rfl | rfl | rfl <;> rfl⟩
/-- All but where the items lie. -/
def Sd.core (s : Sd) : Int × List It × Bool × Bool := (s.node, s.its, s.yes, s.ack)
def Sd.setY (s : Sd) : Sd := { s with yes := true }
def Sd.setK (s : Sd) : Sd := { s with ack := true }
def Sd.say (n : Int) (s : Sd) : Sd := if s.node = n then s.setY else s
def Sd.akn (n : Int) (s : Sd) : Sd := if s.node = n then s.setK else s
def sayL (n : Int) (l : List Sd) : List Sd := l.map (Sd.say n)
def aknL (n : Int) (l : List Sd) : List Sd := l.map (Sd.akn n)
def aknsL (ns : List Int) (l : List Sd) : List Sd := ns.foldl (fun l n => aknL n l) l
def allY (l : List Sd) : Bool := l.all (·.yes)
def hasN (n : Int) (l : List Sd) : Bool := l.any fun x => decide (x.node = n)
/-- The state of a ballot that was given up, or wasn't. -/
def stC (ab : Bool) (l : List Sd) : Int := if ab then 2 else if allY l then 1 else 0
def waitB (s : Int) (x : Sd) : Bool := (decide (s = 0) && !x.yes) || (decide (s = 1) && !x.ack)
def waitsL (s : Int) (l : List Sd) : List Int := (l.filter (waitB s)).map (·.node)
def named (ns : List Int) (x : Sd) : Bool := decide (ns.length = 0) || decide (x.node ∈ ns)
def itsL (ns : List Int) (l : List Sd) : List It := ((l.filter (named ns)).map (·.its)).flatten
/-- A vote: the parts, and whether it is aborted, then. -/
def voteL (s : Int) (n : Int) (y : Bool) (l : List Sd) : List Sd := if s = 0 ∧ y = true then sayL n l else l
def voteA (ab : Bool) (s : Int) (n : Int) (y : Bool) (l : List Sd) : Bool := ab || (decide (s = 0) && !y && hasN n l)
def voteS (s : Int) (n : Int) (y : Bool) (l : List Sd) : Int := if s = 0 then (if !y && hasN n l then 2 else if allY (voteL s n y l) then 1 else 0) else s
def giveA (ab : Bool) (l : List Sd) : Bool := ab || decide (stC ab l = 0)
def giveS (s : Int) : Int := if s = 0 then 2 else s
def ackL (s : Int) (ns : List Int) (l : List Sd) : List Sd := if s = 1 then aknsL ns l else l
theorem stC_cases (ab : Bool) (l : List Sd) : stC ab l = 0 ∨ stC ab l = 1 ∨ stC ab l = 2 := by
 unfold stC
 cases ab <;> cases allY l <;> simp
theorem stC_open {ab : Bool} {l : List Sd} (h : stC ab l = 0) : ab = false ∧ allY l = false := by
 unfold stC at h
 cases ab <;> cases e : allY l <;> simp_all
theorem voteS_eq (ab : Bool) (n : Int) (y : Bool) (l : List Sd) : voteS (stC ab l) n y l = stC (voteA ab (stC ab l) n y l) (voteL (stC ab l) n y l) := by
 unfold voteS voteA voteL
 by_cases h0 : stC ab l = 0
 ·obtain ⟨h1, h2⟩ := stC_open h0
  subst h1
  simp only [h0, if_true, decide_true, Bool.true_and, Bool.false_or, true_and]
  cases y <;> cases h3 : hasN n l <;> simp [stC, h2]
 ·simp only [h0, if_false, decide_false, Bool.false_and, Bool.or_false, false_and]
theorem giveS_eq (ab : Bool) (l : List Sd) : giveS (stC ab l) = stC (giveA ab l) l := by
 unfold giveS giveA
 by_cases h0 : stC ab l = 0
 ·obtain ⟨h1, h2⟩ := stC_open h0
  subst h1
  rw [if_pos h0, h0]
  rfl
 ·simp [h0]
theorem akns_yes (ns : List Int) : ∀ (l : List Sd), allY (aknsL ns l) = allY l := by
 unfold aknsL
 induction ns with
 | nil => intro l; rfl
 | cons n ns ih =>
  intro l
  rw [List.foldl_cons, ih]
  unfold allY aknL
  rw [List.all_map]
  congr 1
  funext x
  unfold Function.comp Sd.akn Sd.setK
  split <;> rfl
theorem ackL_st (ab : Bool) (ns : List Int) (l : List Sd) : stC ab (ackL (stC ab l) ns l) = stC ab l := by
 unfold ackL
 split
 ·unfold stC
  rw [akns_yes]
 ·rfl
/-- All but the items' places are alike. -/
def Like (l m : List Sd) : Prop := l.map Sd.core = m.map Sd.core
theorem core_inj {x y : Sd} (h : x.core = y.core) : x.node = y.node ∧ x.its = y.its ∧ x.yes = y.yes ∧ x.ack = y.ack := by
 unfold Sd.core at h
 simp only [Prod.mk.injEq] at h
 exact h
theorem Like.len {l m : List Sd} (h : Like l m) : l.length = m.length := by
 have := congrArg List.length h
 rwa [List.length_map, List.length_map] at this
theorem Like.ind {l m : List Sd} (h : Like l m) {C : List Sd → List Sd → Prop} (h0 : C [] []) (h1 : ∀ x y l m, x.core = y.core → Like l m → C l m → C (x :: l) (y :: m)) : C l m := by
 induction l generalizing m with
 | nil =>
  cases m with
  | nil => exact h0
  | cons y m => simp [Like] at h
 | cons x l ih =>
  cases m with
  | nil => simp [Like] at h
  | cons y m =>
   unfold Like at h
   rw [List.map_cons, List.map_cons, List.cons.injEq] at h
   exact h1 x y l m h.1 h.2 (ih h.2)
theorem Like.cons {x y : Sd} {l m : List Sd} (h : x.core = y.core) (k : Like l m) : Like (x :: l) (y :: m) := by
 unfold Like at k ⊢
 rw [List.map_cons, List.map_cons, h, k]
theorem Like.yes {l m : List Sd} (h : Like l m) : allY l = allY m := h.ind (C := fun l m => allY l = allY m) rfl fun x y l m e _ ih => by
 unfold allY at ih ⊢
 rw [List.all_cons, List.all_cons, ih, (core_inj e).2.2.1]
theorem Like.has {l m : List Sd} (h : Like l m) (n : Int) : hasN n l = hasN n m := h.ind (C := fun l m => hasN n l = hasN n m) rfl fun x y l m e _ ih => by
 unfold hasN at ih ⊢
 rw [List.any_cons, List.any_cons, ih, (core_inj e).1]
theorem Like.st {l m : List Sd} (h : Like l m) (ab : Bool) : stC ab l = stC ab m := by unfold stC; rw [h.yes]
theorem Like.say {l m : List Sd} (h : Like l m) (n : Int) : Like (sayL n l) (sayL n m) := h.ind (C := fun l m => Like (sayL n l) (sayL n m)) rfl fun x y l m e _ ih => by
 refine Like.cons ?_ ih
 obtain ⟨e1, e2, e3, e4⟩ := core_inj e
 unfold Sd.say Sd.setY
 rw [e1]
 split <;> simp [Sd.core, e1, e2, e3, e4]
theorem Like.akn {l m : List Sd} (h : Like l m) (n : Int) : Like (aknL n l) (aknL n m) := h.ind (C := fun l m => Like (aknL n l) (aknL n m)) rfl fun x y l m e _ ih => by
 refine Like.cons ?_ ih
 obtain ⟨e1, e2, e3, e4⟩ := core_inj e
 unfold Sd.akn Sd.setK
 rw [e1]
 split <;> simp [Sd.core, e1, e2, e3, e4]
theorem Like.akns {l m : List Sd} (h : Like l m) (ns : List Int) : Like (aknsL ns l) (aknsL ns m) := by
 unfold aknsL
 induction ns generalizing l m with
 | nil => exact h
 | cons n ns ih => rw [List.foldl_cons, List.foldl_cons]; exact ih (h.akn n)
theorem Like.vote {l m : List Sd} (h : Like l m) (s n : Int) (y : Bool) : Like (voteL s n y l) (voteL s n y m) := by
 unfold voteL
 split
 ·exact h.say n
 ·exact h
theorem Like.ack {l m : List Sd} (h : Like l m) (s : Int) (ns : List Int) : Like (ackL s ns l) (ackL s ns m) := by
 unfold ackL
 split
 ·exact h.akns ns
 ·exact h
theorem Like.waits {l m : List Sd} (h : Like l m) (s : Int) : waitsL s l = waitsL s m := h.ind (C := fun l m => waitsL s l = waitsL s m) rfl fun x y l m e _ ih => by
 obtain ⟨e1, e2, e3, e4⟩ := core_inj e
 unfold waitsL at ih ⊢
 have : waitB s x = waitB s y := by unfold waitB; rw [e3, e4]
 rw [List.filter_cons, List.filter_cons, this]
 split
 ·rw [List.map_cons, List.map_cons, ih, e1]
 ·exact ih
theorem Like.its {l m : List Sd} (h : Like l m) (ns : List Int) : itsL ns l = itsL ns m := h.ind (C := fun l m => itsL ns l = itsL ns m) rfl fun x y l m e _ ih => by
 obtain ⟨e1, e2, e3, e4⟩ := core_inj e
 unfold itsL at ih ⊢
 have : named ns x = named ns y := by unfold named; rw [e1]
 rw [List.filter_cons, List.filter_cons, this]
 split
 ·rw [List.map_cons, List.map_cons, List.flatten_cons, List.flatten_cons, ih, e2]
 ·exact ih
theorem map_same {β : Type} {l : List β} {h : β → β} (k : ∀ x ∈ l, h x = x) : l.map h = l := (List.map_congr_left (g := id) k).trans (List.map_id l)
/-- Where a node's part is. -/
theorem set_map {α : Type} [DecidableEq α] {β : Type} (f : β → α) (g : β → β) (n : α) : ∀ {l : List β} (_ : (l.map f).Nodup) {k : Nat} (hk : k < l.length), f l[k] = n → l.set k (g l[k]) = l.map fun x => if f x = n then g x else x
 | [], _, k, hk, _ => by simp at hk
 | x :: l, hn, 0, _, e => by
  rw [List.map_cons, List.nodup_cons] at hn
  simp only [List.getElem_cons_zero] at e
  rw [List.map_cons, if_pos e, List.set_cons_zero, List.getElem_cons_zero]
  congr 1
  exact (map_same fun y hy => if_neg fun e2 => hn.1 (by rw [e, ← e2]; exact List.mem_map_of_mem hy)).symm
 | x :: l, hn, k + 1, hk, e => by
  rw [List.map_cons, List.nodup_cons] at hn
  simp only [List.getElem_cons_succ] at e
  have hk' : k < l.length := by simpa using hk
  have hx : f x ≠ n := fun e2 => hn.1 (by rw [e2, ← e]; exact List.mem_map_of_mem (List.getElem_mem hk'))
  rw [List.map_cons, if_neg hx, List.set_cons_succ, List.getElem_cons_succ, set_map f g n hn.2 hk' e]
theorem say_set {l : List Sd} (hn : (l.map (·.node)).Nodup) {k : Nat} (hk : k < l.length) {n : Int} (e : l[k].node = n) : l.set k l[k].setY = sayL n l := set_map (fun s : Sd => s.node) Sd.setY n hn hk e
theorem akn_set {l : List Sd} (hn : (l.map (·.node)).Nodup) {k : Nat} (hk : k < l.length) {n : Int} (e : l[k].node = n) : l.set k l[k].setK = aknL n l := set_map (fun s : Sd => s.node) Sd.setK n hn hk e
theorem say_none {l : List Sd} {n : Int} (h : hasN n l = false) : sayL n l = l := by
 unfold hasN at h
 rw [List.any_eq_false] at h
 exact map_same fun y hy => if_neg fun e => h y hy (by simpa using e)
theorem akn_none {l : List Sd} {n : Int} (h : hasN n l = false) : aknL n l = l := by
 unfold hasN at h
 rw [List.any_eq_false] at h
 exact map_same fun y hy => if_neg fun e => h y hy (by simpa using e)
theorem say_nodes (n : Int) (l : List Sd) : (sayL n l).map (·.node) = l.map (·.node) := by
 unfold sayL
 rw [List.map_map]
 exact List.map_congr_left fun x _ => by unfold Function.comp Sd.say Sd.setY; split <;> rfl
theorem akn_nodes (n : Int) (l : List Sd) : (aknL n l).map (·.node) = l.map (·.node) := by
 unfold aknL
 rw [List.map_map]
 exact List.map_congr_left fun x _ => by unfold Function.comp Sd.akn Sd.setK; split <;> rfl
theorem say_len (n : Int) (l : List Sd) : (sayL n l).length = l.length := List.length_map ..
theorem akn_len (n : Int) (l : List Sd) : (aknL n l).length = l.length := List.length_map ..
/-- Numbers that rise are each there once. -/
theorem nodes_rise : ∀ (l : List Int) (a : Int), nodesFrom a l = true → (∀ x ∈ l, a < x) ∧ l.Nodup ∧ (∀ x ∈ l, x ≤ 16)
 | [], _, _ => ⟨by simp, List.nodup_nil, by simp⟩
 | n :: l, a, h => by
  unfold nodesFrom at h
  rw [Bool.and_eq_true, decide_eq_true_eq] at h
  obtain ⟨h1, h2, h3⟩ := nodes_rise l n h.2
  refine ⟨fun x hx => ?_, List.nodup_cons.2 ⟨fun hm => by have := h1 n hm; omega, h2⟩, fun x hx => ?_⟩
  ·rcases List.mem_cons.1 hx with rfl | hx
   ·exact h.1.1
   ·have := h1 x hx; omega
  ·rcases List.mem_cons.1 hx with rfl | hx
   ·exact h.1.2
   ·exact h3 x hx
theorem right_rise : ∀ (l : List It) (a : Int), rightFrom a l = true → (∀ x ∈ l, a < x.cell) ∧ l.Pairwise (fun x y => x.cell < y.cell)
 | [], _, _ => ⟨by simp, List.Pairwise.nil⟩
 | n :: l, a, h => by
  unfold rightFrom at h
  rw [Bool.and_eq_true, Bool.and_eq_true, decide_eq_true_eq] at h
  obtain ⟨h1, h2⟩ := right_rise l n.cell h.2
  refine ⟨fun x hx => ?_, List.pairwise_cons.2 ⟨h1, h2⟩⟩
  rcases List.mem_cons.1 hx with rfl | hx
  ·exact h.1.1
  ·have := h1 x hx
   have := h.1.1
   omega
/-- Of two lists without doubles, of which one holds what the other one holds. -/
theorem sub_len {α : Type} [DecidableEq α] : ∀ {l m : List α}, l.Nodup → (∀ x ∈ l, x ∈ m) → l.length ≤ m.length
 | [], _, _, _ => Nat.zero_le _
 | x :: l, m, hn, hs => by
  rw [List.nodup_cons] at hn
  have hx := hs x List.mem_cons_self
  have := sub_len (m := m.erase x) hn.2 fun y hy => (List.mem_erase_of_ne fun e => hn.1 (by rw [← e]; exact hy)).2 (hs y (List.mem_cons_of_mem _ hy))
  rw [List.length_erase_of_mem hx] at this
  have := List.length_pos_of_mem hx
  rw [List.length_cons]
  omega
theorem dup_len {α : Type} [DecidableEq α] : ∀ {m : List α}, ¬ m.Nodup → ∃ b : List α, b.length < m.length ∧ ∀ x ∈ m, x ∈ b
 | [], h => absurd List.nodup_nil h
 | x :: m, h => by
  by_cases hx : x ∈ m
  ·exact ⟨m, by simp, fun y hy => by rcases List.mem_cons.1 hy with rfl | hy; exact hx; exact hy⟩
  ·obtain ⟨b, h1, h2⟩ := dup_len fun hm => h (List.nodup_cons.2 ⟨hx, hm⟩)
   exact ⟨x :: b, by simpa using h1, fun y hy => by rcases List.mem_cons.1 hy with rfl | hy; exact List.mem_cons_self; exact List.mem_cons_of_mem _ (h2 y hy)⟩
theorem find_mem {l : List It} {c : Int} : l.find? (fun x => x.cell == c) = none ↔ c ∉ l.map (·.cell) := by
 rw [List.find?_eq_none, List.mem_map]
 constructor
 ·intro h ⟨x, hx, e⟩
  exact h x hx (by simpa using e)
 ·intro h x hx e
  exact h ⟨x, hx, by simpa using e⟩
theorem isJoin_mem {all L : List It} (h : IsJoin all L) (c : Int) : c ∈ L.map (·.cell) ↔ c ∈ all.map (·.cell) := by
 have h1 := h.first c
 have h2 := find_mem (l := L) (c := c)
 have h3 := find_mem (l := all) (c := c)
 rw [h1] at h2
 have := h2.symm.trans h3
 exact ⟨fun a => Classical.byContradiction fun b => this.2 b a, fun a => Classical.byContradiction fun b => this.1 b a⟩
theorem rise_nodup {L : List It} (h : L.Pairwise fun x y => x.cell < y.cell) : (L.map (·.cell)).Nodup := by
 rw [List.Nodup, List.pairwise_map]
 exact h.imp fun h e => by omega
/-- A join is as long as all, just if no cell is there twice. -/
theorem join_len {all L : List It} (h : IsJoin all L) : L.length = all.length ↔ (all.map (·.cell)).Nodup := by
 have hn := rise_nodup h.rise
 constructor
 ·intro e
  refine Classical.byContradiction fun hd => ?_
  obtain ⟨b, h1, h2⟩ := dup_len hd
  have := sub_len hn fun x hx => h2 x ((isJoin_mem h x).1 hx)
  rw [List.length_map] at this h1
  omega
 ·intro hd
  have h1 := sub_len hn fun x hx => (isJoin_mem h x).1 hx
  have h2 := sub_len hd fun x hx => (isJoin_mem h x).2 hx
  rw [List.length_map, List.length_map] at h1 h2
  omega
/-- No cell of one is one of the other. -/
def Apart (a b : List It) : Prop := ∀ x ∈ a, ∀ y ∈ b, x.cell ≠ y.cell
/-- Parts that may be: each one's items are right, no two have one cell, the nodes are right. -/
def okItems (l : List Sd) : Bool := l.all fun x => rightItems x.its
def cellsOf (l : List Sd) : List Int := ((l.map (·.its)).flatten).map (·.cell)
def okParts (l : List Sd) : Bool := okItems l && rightNodes (l.map (·.node)) && decide (cellsOf l).Nodup
theorem nodup_apart : ∀ {l : List Sd}, okItems l = true → ((cellsOf l).Nodup ↔ (l.map (·.its)).Pairwise Apart)
 | [], _ => by simp [cellsOf]
 | x :: l, h => by
  unfold okItems at h
  rw [List.all_cons, Bool.and_eq_true] at h
  have ih := nodup_apart (l := l) h.2
  have hx : (x.its.map (·.cell)).Nodup := rise_nodup (right_rise _ _ (by have := h.1; unfold rightItems at this; rw [Bool.and_eq_true] at this; exact this.1)).2
  have e : cellsOf (x :: l) = x.its.map (·.cell) ++ cellsOf l := by unfold cellsOf; simp
  rw [e, List.nodup_append, List.map_cons, List.pairwise_cons, ← ih]
  constructor
  ·intro ⟨_, h2, h3⟩
   refine ⟨fun b hb y hy z hz e2 => ?_, h2⟩
   refine h3 y.cell (List.mem_map_of_mem hy) z.cell ?_ e2
   unfold cellsOf
   exact List.mem_map_of_mem (List.mem_flatten.2 ⟨b, hb, hz⟩)
  ·intro ⟨h2, h3⟩
   refine ⟨hx, h3, fun a ha b hb e2 => ?_⟩
   obtain ⟨y, hy, rfl⟩ := List.mem_map.1 ha
   unfold cellsOf at hb
   obtain ⟨z, hz, rfl⟩ := List.mem_map.1 hb
   obtain ⟨q, hq, hz⟩ := List.mem_flatten.1 hz
   exact h2 q hq y hy z hz e2
end Go.Proofs.Ytjeogeablbkhgaa.Vot
