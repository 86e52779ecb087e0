/- Part 1 of the proof. Conditions: none. -/
import Derived.Test.YtdkchpiinelmiaaGreatRows
import Derived.WalkLawsBesides
import Derived.WalkSpells
import Derived.Handy
import Derived.Lib.Hide
import Derived.Deep.OwnRows
namespace Go.Proofs.YtdkchpiinelmiaaGreat
open Go.RowKit
theorem ah {α : Sort _} (a : α) : ∃ v, a = v := ⟨_, rfl⟩
theorem aj {α : Sort _} (a : α) : ∃ v, v = a := ⟨_, rfl⟩
theorem ak {p : Prop} (h : p) : Hid p := h
theorem _root_.Go.RowKit.Hid.o {p : Prop} (h : Hid p) : p := h
abbrev au (b : Nat) : Value := .pointer (some ⟨b, 0, none⟩)
end Go.Proofs.YtdkchpiinelmiaaGreat
namespace Go.Proofs.YtdkchpiinelmiaaGreat.Mem
open Go.RowKit
theorem aH {w : World} {p : Addr} {v : Value} (h : w.cell? p = some v) : p.block < w.heap.size := by
 rcases Nat.lt_or_ge p.block w.heap.size with hlt | hge
 ·exact hlt
 exfalso
 rw [show w.cell? p = none by simp [World.cell?, Array.getElem?_eq_none hge]] at h
 cases h
theorem lt_of_block {w : World} {g : Nat} {o : Obj} (h : w.heap[g]? = some o) : g < w.heap.size := (Array.getElem?_eq_some_iff.1 h).1
theorem zf {w w' : World} {g : Nat} {o : Obj} (hb : Below w.heap.size w w') (h : w.heap[g]? = some o) : w'.heap[g]? = some o := (hb.block g (lt_of_block h)).trans h
theorem av (w : World) (o : Obj) : Below w.heap.size w (w.alloc o) := (Below.refl _ _).alloc (Nat.le_refl _) o
def Cells (w : World) (g : Nat) (t : TypeId) (vs : List Value) : Prop :=
 ∃ (C : Array Value) (lo hi : Nat), w.heap[g]? = some (.cells C t (lo, hi)) /\ (∀ (j : Nat) (u : Value), vs[j]? = some u -> C[j]? = some u) /\ ∀ j, j < vs.length -> ¬ (lo <= j /\ j < hi)
theorem Cells.lt {w : World} {g : Nat} {t : TypeId} {vs : List Value} (h : Cells w g t vs) : g < w.heap.size := by
 obtain ⟨C, lo, hi, h1, _⟩ := h; exact lt_of_block h1
theorem Cells.cell {w : World} {g : Nat} {t : TypeId} {vs : List Value} (h : Cells w g t vs) {j : Nat} {u : Value} (hu : vs[j]? = some u) : w.cell? ⟨g, j, none⟩ = some u := by
 obtain ⟨C, lo, hi, h1, h2, _⟩ := h; rw [cell_of_row _ _ _ _ _ _ h1]; exact h2 j u hu
theorem Cells.frozen {w : World} {g : Nat} {t : TypeId} {vs : List Value} (h : Cells w g t vs) {j : Nat} (hj : j < vs.length) : w.frozen? ⟨g, j, none⟩ = false := by
 obtain ⟨C, lo, hi, h1, _, h3⟩ := h; have := h3 j hj
 simp [World.frozen?, h1]
 omega
theorem Cells.later {w w' : World} {g : Nat} {t : TypeId} {vs : List Value} (h : Cells w g t vs) (hb : Below w.heap.size w w') : Cells w' g t vs := by
 obtain ⟨C, lo, hi, h1, h2⟩ := h; exact ⟨C, lo, hi, zf hb h1, h2⟩
theorem Cells.fB {w : World} {g : Nat} {t : TypeId} {vs : List Value} (h : Cells w g t vs) (j : Nat) (u : Value) : Cells (w.setCell ⟨g, j, none⟩ u) g t (vs.set j u) := by
 obtain ⟨C, lo, hi, h1, h2, h3⟩ := h; refine ⟨C.setIfInBounds j u, lo, hi, ?_, ?_, by simpa using h3⟩
 ·simp [World.setCell, Array.getElem?_modify, h1]
 intro i v hv
 rw [List.getElem?_set] at hv; rw [Array.getElem?_setIfInBounds]
 by_cases e : j = i
 ·subst e
  simp only [if_true] at hv ⊢
  split at hv
  ·rename_i hlt
   injection hv with hv
   subst hv; have h4 := h2 j _ (List.getElem?_eq_getElem hlt); rw [if_pos (Array.getElem?_eq_some_iff.1 h4).1]
  cases hv
 simp only [if_neg e] at hv ⊢
 exact h2 i v hv
theorem Cells.far {w : World} {g : Nat} {t : TypeId} {vs : List Value} (h : Cells w g t vs) {p : Addr} (hp : g ≠ p.block) (u : Value) : Cells (w.setCell p u) g t vs := by
 obtain ⟨C, lo, hi, h1, h2⟩ := h; exact ⟨C, lo, hi, (Below.heap_setCell w p u g hp).trans h1, h2⟩
theorem aB (w : World) (t : TypeId) (vs : List Value) (C : Array Value) (hC : C.toList = vs) : Cells (w.alloc (.cells C t)) w.heap.size t vs := by
 refine ⟨C, 0, 0, heap_alloc_new w _, fun j u hu => ?_, fun j _ h => by omega⟩; subst hC
 simpa using hu
def Y7 (A : Option Addr) (n c : Nat) : Prop := (A = none -> c = 0) /\ n <= c
theorem aL {k : IntKind} {a b : Int} (h : a = b) : Ending.returned (.int k a) = .returned (.int k b) := by rw [h]
theorem ret_val {a b : Value} (h : a = b) : Ending.returned a = .returned b := by rw [h]
abbrev iv (x : Int) : Value := .int .i64 x
theorem Cells.q2 {w : World} {g : Nat} {t : TypeId} {a0 a1 : Value} {l : List Value} (h : Cells w g t (a0 :: a1 :: l)) : w.cell? ⟨g, 0, none⟩ = some a0 /\ w.cell? ⟨g, 1, none⟩ = some a1 := ⟨h.cell (j := 0) rfl, h.cell (j := 1) rfl⟩
theorem Cells.q3 {w : World} {g : Nat} {t : TypeId} {a0 a1 a2 : Value} {l : List Value} (h : Cells w g t (a0 :: a1 :: a2 :: l)) : w.cell? ⟨g, 0, none⟩ = some a0 /\ w.cell? ⟨g, 1, none⟩ = some a1 /\ w.cell? ⟨g, 2, none⟩ = some a2 := ⟨h.cell (j := 0) rfl, h.cell (j := 1) rfl, h.cell (j := 2) rfl⟩
theorem Cells.q4 {w : World} {g : Nat} {t : TypeId} {a0 a1 a2 a3 : Value} {l : List Value} (h : Cells w g t (a0 :: a1 :: a2 :: a3 :: l)) : w.cell? ⟨g, 0, none⟩ = some a0 /\ w.cell? ⟨g, 1, none⟩ = some a1 /\ w.cell? ⟨g, 2, none⟩ = some a2 /\ w.cell? ⟨g, 3, none⟩ = some a3 := ⟨h.cell (j := 0) rfl, h.cell (j := 1) rfl, h.cell (j := 2) rfl, h.cell (j := 3) rfl⟩
theorem Cells.q5 {w : World} {g : Nat} {t : TypeId} {a0 a1 a2 a3 a4 : Value} {l : List Value} (h : Cells w g t (a0 :: a1 :: a2 :: a3 :: a4 :: l)) : w.cell? ⟨g, 0, none⟩ = some a0 /\ w.cell? ⟨g, 1, none⟩ = some a1 /\ w.cell? ⟨g, 2, none⟩ = some a2 /\ w.cell? ⟨g, 3, none⟩ = some a3 /\ w.cell? ⟨g, 4, none⟩ = some a4 := ⟨h.cell (j := 0) rfl, h.cell (j := 1) rfl, h.cell (j := 2) rfl, h.cell (j := 3) rfl, h.cell (j := 4) rfl⟩
theorem Cells.q6 {w : World} {g : Nat} {t : TypeId} {a0 a1 a2 a3 a4 a5 : Value} {l : List Value} (h : Cells w g t (a0 :: a1 :: a2 :: a3 :: a4 :: a5 :: l)) : w.cell? ⟨g, 0, none⟩ = some a0 /\ w.cell? ⟨g, 1, none⟩ = some a1 /\ w.cell? ⟨g, 2, none⟩ = some a2 /\ w.cell? ⟨g, 3, none⟩ = some a3 /\ w.cell? ⟨g, 4, none⟩ = some a4 /\ w.cell? ⟨g, 5, none⟩ = some a5 := ⟨h.cell (j := 0) rfl, h.cell (j := 1) rfl, h.cell (j := 2) rfl, h.cell (j := 3) rfl, h.cell (j := 4) rfl, h.cell (j := 5) rfl⟩
theorem Cells.q8 {w : World} {g : Nat} {t : TypeId} {a0 a1 a2 a3 a4 a5 a6 a7 : Value} {l : List Value} (h : Cells w g t (a0 :: a1 :: a2 :: a3 :: a4 :: a5 :: a6 :: a7 :: l)) : w.cell? ⟨g, 0, none⟩ = some a0 /\ w.cell? ⟨g, 1, none⟩ = some a1 /\ w.cell? ⟨g, 2, none⟩ = some a2 /\ w.cell? ⟨g, 3, none⟩ = some a3 /\ w.cell? ⟨g, 4, none⟩ = some a4 /\ w.cell? ⟨g, 5, none⟩ = some a5 /\ w.cell? ⟨g, 6, none⟩ = some a6 /\ w.cell? ⟨g, 7, none⟩ = some a7 := ⟨h.cell (j := 0) rfl, h.cell (j := 1) rfl, h.cell (j := 2) rfl, h.cell (j := 3) rfl, h.cell (j := 4) rfl, h.cell (j := 5) rfl, h.cell (j := 6) rfl, h.cell (j := 7) rfl⟩
theorem Cells.wP {w : World} {g : Nat} {t : TypeId} {a0 a1 a2 a3 a4 a5 a6 a7 a8 a9 U9 U8 : Value} {l : List Value} (h : Cells w g t (a0 :: a1 :: a2 :: a3 :: a4 :: a5 :: a6 :: a7 :: a8 :: a9 :: U9 :: U8 :: l)) : w.cell? ⟨g, 0, none⟩ = some a0 /\ w.cell? ⟨g, 1, none⟩ = some a1 /\ w.cell? ⟨g, 2, none⟩ = some a2 /\ w.cell? ⟨g, 3, none⟩ = some a3 /\ w.cell? ⟨g, 4, none⟩ = some a4 /\ w.cell? ⟨g, 5, none⟩ = some a5 /\ w.cell? ⟨g, 6, none⟩ = some a6 /\ w.cell? ⟨g, 7, none⟩ = some a7 /\ w.cell? ⟨g, 8, none⟩ = some a8 /\ w.cell? ⟨g, 9, none⟩ = some a9 /\ w.cell? ⟨g, 10, none⟩ = some U9 /\ w.cell? ⟨g, 11, none⟩ = some U8 := ⟨h.cell (j := 0) rfl, h.cell (j := 1) rfl, h.cell (j := 2) rfl, h.cell (j := 3) rfl, h.cell (j := 4) rfl, h.cell (j := 5) rfl, h.cell (j := 6) rfl, h.cell (j := 7) rfl, h.cell (j := 8) rfl, h.cell (j := 9) rfl, h.cell (j := 10) rfl, h.cell (j := 11) rfl⟩
theorem Cells.iZ {w : World} {g : Nat} {t : TypeId} {a0 a1 a2 a3 a4 a5 a6 a7 a8 a9 U9 U8 a12 a13 a14 : Value} {l : List Value} (h : Cells w g t (a0 :: a1 :: a2 :: a3 :: a4 :: a5 :: a6 :: a7 :: a8 :: a9 :: U9 :: U8 :: a12 :: a13 :: a14 :: l)) : w.cell? ⟨g, 0, none⟩ = some a0 /\ w.cell? ⟨g, 1, none⟩ = some a1 /\ w.cell? ⟨g, 2, none⟩ = some a2 /\ w.cell? ⟨g, 3, none⟩ = some a3 /\ w.cell? ⟨g, 4, none⟩ = some a4 /\ w.cell? ⟨g, 5, none⟩ = some a5 /\ w.cell? ⟨g, 6, none⟩ = some a6 /\ w.cell? ⟨g, 7, none⟩ = some a7 /\ w.cell? ⟨g, 8, none⟩ = some a8 /\ w.cell? ⟨g, 9, none⟩ = some a9 /\ w.cell? ⟨g, 10, none⟩ = some U9 /\ w.cell? ⟨g, 11, none⟩ = some U8 /\ w.cell? ⟨g, 12, none⟩ = some a12 /\ w.cell? ⟨g, 13, none⟩ = some a13 /\ w.cell? ⟨g, 14, none⟩ = some a14 := ⟨h.cell (j := 0) rfl, h.cell (j := 1) rfl, h.cell (j := 2) rfl, h.cell (j := 3) rfl, h.cell (j := 4) rfl, h.cell (j := 5) rfl, h.cell (j := 6) rfl, h.cell (j := 7) rfl, h.cell (j := 8) rfl, h.cell (j := 9) rfl, h.cell (j := 10) rfl, h.cell (j := 11) rfl, h.cell (j := 12) rfl, h.cell (j := 13) rfl, h.cell (j := 14) rfl⟩
end Go.Proofs.YtdkchpiinelmiaaGreat.Mem
namespace Go.Proofs.YtdkchpiinelmiaaGreat.Td
open Go.RowKit Mem
end Go.Proofs.YtdkchpiinelmiaaGreat.Td
namespace Go.Proofs.YtdkchpiinelmiaaGreat.N
open Go.RowKit
def waits (o : Oper) (j : Nat) : Bool := o.after.any fun e => Region.binds .any e && e.on == j
def unwritten (ops : Array Oper) (i s : Nat) : Bool := (List.range ops.size).all fun k => match ops[k]? with | some o => o.dst != some s || waits o i | none => true
def uses (o : Oper) (j : Nat) : Bool := o.after.any fun e => (e.ground == .data || e.ground == .guard) && e.on == j
def alive (ops : Array Oper) (ends : List Nat) (i j : Nat) : Bool :=
 j != i && !(match ops[j]? with | some o => waits o i | none => false) && (ends.contains j || (List.range ops.size).any fun k => k != i && (match ops[k]? with | some o => uses o j | none => false) && !(match ops[i]? with | some o => waits o k | none => false))
theorem lK {o : Oper} {j : Nat} (h : uses o j = true) : waits o j = true := by
 obtain ⟨e, he, hb⟩ := Array.any_eq_true'.1 h; simp only [Bool.and_eq_true, Bool.or_eq_true, beq_iff_eq] at hb; refine Array.any_eq_true'.2 ⟨e, he, ?_⟩; simp only [Bool.and_eq_true, beq_iff_eq]; refine ⟨?_, hb.2⟩; unfold Region.binds; rcases hb.1 with hg | hg <;> rw [hg]
def kr (ops : Array Oper) : Bool :=
 (List.range ops.size).all fun i => match ops[i]? with
  | some o => (o.after.all fun e => !Region.binds .any e || decide (e.on < i)) && ((List.range ops.size).all fun k => match ops[k]? with | some x => k == i || x.dst.isNone || x.dst != o.dst | none => true)
  | none => true
theorem lJ {ops : Array Oper} (h : kr ops = true) {i : Nat} {o : Oper} (hi : ops[i]? = some o) :
  (∀ e ∈ o.after, Region.binds .any e = true -> e.on < i) /\ ∀ k x, ops[k]? = some x -> k ≠ i -> ∀ d, o.dst = some d -> x.dst ≠ some d := by
 have hlt : i < ops.size := (Array.getElem?_eq_some_iff.1 hi).1; have h1 := List.all_eq_true.1 h i (List.mem_range.2 hlt); rw [hi] at h1; simp only [Bool.and_eq_true] at h1; refine ⟨fun e he hb => ?_, fun k x hk hne d hd hx => ?_⟩
 ·have := (Array.all_eq_true'.1 h1.1) e he
  simpa [hb] using this
 have hk' : k < ops.size := (Array.getElem?_eq_some_iff.1 hk).1
 have h2 := List.all_eq_true.1 h1.2 k (List.mem_range.2 hk'); rw [hk] at h2
 simp [hne, hx, hd] at h2
def ey (ops : Array Oper) (listed : Nat -> Bool) (V : Nat -> Value) (a : Act) (i : Nat) : Act := if listed i = true then a.put ((ops[i]?).bind (·.dst)) (V i) else a
def eu (a0 : Act) (ops : Array Oper) (listed : Nat -> Bool) (V : Nat -> Value) (l : List Nat) : Act := l.foldl (ey ops listed V) a0
theorem sM (a : Act) (d : Option Tmp) (v : Value) : (a.put d v).tmps.size = a.tmps.size := by
 cases d <;> simp [Act.put]
theorem put_defers (a : Act) (d : Option Tmp) (v : Value) : (a.put d v).defers = a.defers := by
 cases d <;> rfl
theorem jm (a : Act) (d : Option Tmp) (v : Value) (s : Nat) : (a.put d v).tmps[s]? = if d = some s /\ s < a.tmps.size then some v else a.tmps[s]? := by
 cases d with
 | none => simp [Act.put]
 | some d =>
  simp only [Act.put, Array.getElem?_setIfInBounds, Option.some.injEq]
  by_cases h : d = s
  ·subst h
   by_cases h2 : d < a.tmps.size
   ·simp [h2]
   simp [h2]
  simp [h]
theorem Kq {a b : Act} (h : ∀ s : Nat, a.tmps[s]? = b.tmps[s]?) (hd : a.defers = b.defers) : a = b := by
 cases a; cases b
 simp only [Act.mk.injEq]; exact ⟨Array.ext_getElem? h, hd⟩
theorem wF (a : Act) {x y : Option Tmp} (v u : Value) (h : ∀ d, x = some d -> y ≠ some d) : (a.put x v).put y u = (a.put y u).put x v := by
 refine Kq (fun s => ?_) (by simp only [put_defers]); rw [jm, jm, jm, jm, sM, sM]
 by_cases hx : x = some s
 ·have hy := h s hx
  simp [hx, hy]
 simp [hx]
section
variable {P : Program} {ops : Array Oper} {Q : Exit -> Act -> World -> Prop}
theorem Ej (a0 : Act) (listed : Nat -> Bool) (V : Nat -> Value) (l : List Nat) : (eu a0 ops listed V l).tmps.size = a0.tmps.size := by
 induction l generalizing a0 with
 | nil => rfl
 | cons i l ih =>
  show (eu (ey ops listed V a0 i) ops listed V l).tmps.size = _; rw [ih]; unfold ey
  split
  ·exact sM _ _ _
  rfl
theorem He (hw : kr ops = true) (a0 : Act) (listed : Nat -> Bool) (V : Nat -> Value) (l : List Nat) (i : Nat) (v : Value) (hi : i ∉ l) :
  (eu a0 ops listed V l).put ((ops[i]?).bind (·.dst)) v = eu (a0.put ((ops[i]?).bind (·.dst)) v) ops listed V l := by
 induction l generalizing a0 with
 | nil => rfl
 | cons k l ih =>
  show (eu (ey ops listed V a0 k) ops listed V l).put _ v = eu (ey ops listed V (a0.put _ v) k) ops listed V l; rw [ih _ (fun h => hi (List.mem_cons_of_mem _ h))]
  congr 1
  unfold ey
  split
  ·refine wF a0 _ _ fun d hk hid => ?_
   have hne : i ≠ k := fun e => hi (e ▸ List.mem_cons_self ..)
   obtain ⟨o, ho, KW⟩ := Option.bind_eq_some_iff.1 hk; obtain ⟨x, hx, FJ⟩ := Option.bind_eq_some_iff.1 hid; exact (lJ hw ho).2 i x hx hne d KW FJ
  rfl
theorem gQ (a0 : Act) {listed listed' : Nat -> Bool} {V V' : Nat -> Value} (l : List Nat) (h : ∀ i ∈ l, listed i = listed' i /\ V i = V' i) : eu a0 ops listed V l = eu a0 ops listed' V' l := by
 induction l generalizing a0 with
 | nil => rfl
 | cons k l ih =>
  have hk := h k (List.mem_cons_self ..); show eu (ey ops listed V a0 k) ops listed V l = eu (ey ops listed' V' a0 k) ops listed' V' l
  rw [show ey ops listed V a0 k = ey ops listed' V' a0 k by unfold ey; rw [hk.1, hk.2]]
  exact ih _ fun i hi => h i (List.mem_cons_of_mem _ hi)
theorem qF (hw : kr ops = true) (a0 : Act) (listed : Nat -> Bool) (V : Nat -> Value) (i : Nat) (v : Value) (hn : listed i = false) : ∀ (l : List Nat), l.Nodup -> i ∈ l ->
  (eu a0 ops listed V l).put ((ops[i]?).bind (·.dst)) v = eu a0 ops (fun k => k == i || listed k) (fun k => if k = i then v else V k) l := by
 intro l
 induction l generalizing a0 with
 | nil => intro _ h; cases h
 | cons k l ih =>
  intro hnd hm; have hnd' := List.nodup_cons.1 hnd; show (eu (ey ops listed V a0 k) ops listed V l).put _ v = eu (ey ops (fun k => k == i || listed k) (fun k => if k = i then v else V k) a0 k) ops _ _ l
  by_cases e : k = i
  ·subst e
   rw [He hw _ _ _ _ _ _ hnd'.1]; have e1 : ey ops listed V a0 k = a0 := by unfold ey; rw [hn]; rfl
   have e2 : ey ops (fun j => j == k || listed j) (fun j => if j = k then v else V j) a0 k = a0.put ((ops[k]?).bind (·.dst)) v := by unfold ey; simp
   rw [e1, e2]; refine gQ _ _ fun j hj => ?_
   have hne : j ≠ k := fun e => hnd'.1 (e ▸ hj)
   simp [hne]
  have hm' : i ∈ l := by
   rcases List.mem_cons.1 hm with h | h
   ·exact absurd h.symm e
   exact h
  have e1 : ey ops (fun j => j == i || listed j) (fun j => if j = i then v else V j) a0 k = ey ops listed V a0 k := by
   unfold ey; simp [e]
  rw [e1]; exact ih _ hnd'.2 hm'
theorem Bz (hw : kr ops = true) (a0 : Act) (listed : Nat -> Bool) (V : Nat -> Value) (i : Nat) (o : Oper) (d : Nat) (ho : ops[i]? = some o) (hd : o.dst = some d) (hl : listed i = true) (hsz : d < a0.tmps.size) : ∀ (l : List Nat), l.Nodup -> i ∈ l ->
  (eu a0 ops listed V l).tmps[d]? = some (V i) := by
 intro l hnd hm; have hb : (ops[i]?).bind (·.dst) = some d := by rw [ho]; exact hd
 have h := qF hw a0 (fun k => if k = i then false else listed k) V i (V i) (by simp) l hnd hm; have e : eu a0 ops (fun k => k == i || (if k = i then false else listed k)) (fun k => if k = i then V i else V k) l = eu a0 ops listed V l := by
  refine gQ _ _ fun j _ => ?_
  by_cases hj : j = i
  ·subst hj; simp [hl]
  simp [hj]
 rw [e] at h; rw [<- h, jm, hb, Ej]
 simp [hsz]
theorem xI (a0 : Act) (listed : Nat -> Bool) (V : Nat -> Value) (s : Nat) : ∀ (l : List Nat), (∀ k ∈ l, ∀ o, ops[k]? = some o -> o.dst = some s -> listed k = false) -> (eu a0 ops listed V l).tmps[s]? = a0.tmps[s]? := by
 intro l
 induction l generalizing a0 with
 | nil => intro _; rfl
 | cons k l ih =>
  intro h; show (eu (ey ops listed V a0 k) ops listed V l).tmps[s]? = _
  rw [ih _ fun j hj => h j (List.mem_cons_of_mem _ hj)]; unfold ey
  split
  ·rename_i hl
   rw [jm]; rw [if_neg]; rintro ⟨hb, _⟩; obtain ⟨o, ho, KW⟩ := Option.bind_eq_some_iff.1 hb; have := h k (List.mem_cons_self ..) o ho KW; rw [hl] at this
   cases this
  rfl
theorem vk {l : List Nat} {p q : Nat -> Bool} (h : ∀ k ∈ l, p k = true -> q k = true) {i : Nat} (hi : i ∈ l) (hp : p i = false) (hq : q i = true) : l.countP p < l.countP q := by
 induction l with
 | nil => cases hi
 | cons k l ih =>
  rw [List.countP_cons, List.countP_cons]; have hle : l.countP p <= l.countP q := List.countP_mono_left fun x hx => h x (List.mem_cons_of_mem _ hx)
  rcases List.mem_cons.1 hi with rfl | hm
  ·rw [hp, hq]; simp; omega
  have := ih (fun x hx => h x (List.mem_cons_of_mem _ hx)) hm
  have hk := h k (List.mem_cons_self ..)
  cases hpk : p k
  ·simp; omega
  rw [hk hpk]; simp; omega
theorem uU {listed : Array Bool} (hw : kr ops = true) (hr : Region.ready .any ops listed = []) (hs : listed.size = ops.size) : ∀ i, i < ops.size -> listed.getD i true = true := by
 intro i
 induction i using Nat.strongRecOn with
 | ind i ih =>
  intro hi; rcases Bool.eq_false_or_eq_true (listed.getD i true) with h | h
  ·exact h
  exfalso
  have hm : i ∈ Region.ready .any ops listed := by
   unfold Region.ready; refine List.mem_filter.2 ⟨List.mem_range.2 hi, ?_⟩; have ho : ops[i]? = some ops[i] := Array.getElem?_eq_getElem hi; rw [h, ho]; simp only [Bool.not_false, Option.map_some, Option.getD_some, Bool.true_and]; refine Array.all_eq_true'.2 fun e he => ?_
   rcases Bool.eq_false_or_eq_true (Region.binds .any e) with hb | hb
   ·have hlt := (lJ hw ho).1 e he hb
    have := ih e.on hlt (by omega); have hd : listed.getD e.on false = true := by
     simp only [Array.getD_eq_getD_getElem?] at this ⊢; have hsz : e.on < listed.size := by omega
     rw [Array.getElem?_eq_getElem hsz] at this ⊢; exact this
    rw [hd]; simp
   rw [hb]; rfl
  rw [hr] at hm
  cases hm
def Live (ops : Array Oper) (ends : List Nat) (listed : Array Bool) (j : Nat) : Prop := ends.contains j = true \/ ∃ k o, ops[k]? = some o /\ uses o j = true /\ listed.getD k true = false
structure Env (ρ : Operand -> Value) : Prop where
 const : ∀ v, ρ (.const v) = v
 global : ∀ g, ρ (.global g) = (au g)
 func : ∀ f, ρ (.func f) = .func (.func f) #[] #[]
theorem GU (a : Act) : Env a.eval := ⟨fun _ => rfl, fun _ => rfl, fun _ => rfl⟩
def slot (ops : Array Oper) (j : Nat) : Option Nat := (ops[j]?).bind (·.dst)
def Gives (P : Program) (ρ : Operand -> Value) (o : Oper) (w : World) (R : Value -> World -> Prop) : Prop :=
 (∃ v w', (execOp ρ o).run P w = .ok (.value v) w' /\ R v w') \/ (∃ w', (execOp ρ o).run P w = .ok .skip w' /\ R undef w') \/
 (∃ f args w', (execOp ρ o).run P w = .ok (.enter f args) w' /\ Calls P f args w' fun e w'' => ∃ v, e = .returned v /\ R v w'')
theorem Gives.value {ρ : Operand -> Value} {o : Oper} {w w' : World} {R : Value -> World -> Prop} {v : Value} (h : (execOp ρ o).run P w = .ok (.value v) w') (hR : R v w') : Gives P ρ o w R := Or.inl ⟨v, w', h, hR⟩
theorem Gives.skip {ρ : Operand -> Value} {o : Oper} {w w' : World} {R : Value -> World -> Prop} (h : (execOp ρ o).run P w = .ok .skip w') (hR : R undef w') : Gives P ρ o w R := Or.inr (Or.inl ⟨w', h, hR⟩)
theorem Gives.call {ρ : Operand -> Value} {o : Oper} {w w' : World} {R : Value -> World -> Prop} {f : FuncId} {args : Array Value} (h : (execOp ρ o).run P w = .ok (.enter f args) w') (hR : Calls P f args w' fun e w'' => ∃ v, e = .returned v /\ R v w'') : Gives P ρ o w R :=
 Or.inr (Or.inr ⟨f, args, w', h, hR⟩)
theorem xV {o : Oper} {a : Act} {w : World} {R : Value -> World -> Prop} (h : Gives P a.eval o w R) : o.wp P a w (fun a' w' => ∃ v, a' = a.put o.dst v /\ R v w') Q := by
 unfold Oper.wp; rcases h with ⟨v, w', h, hR⟩ | ⟨w', h, hR⟩ | ⟨f, args, w', h, hR⟩
 ·rw [h]; exact ⟨v, rfl, hR⟩
 ·rw [h]; exact ⟨_, rfl, hR⟩
 rw [h]
 refine Calls.mono hR ?_; rintro e w'' ⟨v, rfl, hR⟩; exact ⟨v, rfl, hR⟩
def mz (ops : Array Oper) (n : Nat) : Bool :=
 (List.range ops.size).all fun i => match ops[i]? with
  | some o => (match o.guard with
   | some (g, _) => uses o g && (match slot ops g with | some d => decide (d < n) | none => false)
   | none => true)
  | none => true
end
