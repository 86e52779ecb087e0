/-
  Layer 8: states as values, and what is asked of a row of structs. Conditions: none.
-/
import Derived.Test.YtalhbblmnahcdaaGreatRecMem
import Derived.Test.YtalhbblmnahcdaaGreatSortMem
import Derived.Test.YtalhbblmnahcdaaGreatRow
import Derived.Deep.MidRow
namespace Go.Proofs.YtalhbblmnahcdaaGreat.Led
set_option maxRecDepth 100000
open Go.RowKit Go.Proofs.YtalhbblmnahcdaaGreat.Mem Go.Proofs.YtalhbblmnahcdaaGreat.Item Go.Proofs.YtalhbblmnahcdaaGreat.Rec

/-- A slice of structs of sz cells: their cells lie there. -/
def Sl (w : World) (A : Option Addr) (sz : Nat) (vs : List (List Value)) : Prop := ∀ k (h : k < vs.length), ∃ b off, A = some ⟨b, off, none⟩ ∧ w.rangeAt b (off + k * sz) vs[k]
theorem range_later {w w' : World} {b o : Nat} {cs : List Value} (h : w.rangeAt b o cs) (hb : Below w.heap.size w w') : w'.rangeAt b o cs := fun j v hv => (hb.cell (block_of_cell (h j v hv))).trans (h j v hv)
theorem range_only {S : Nat → Prop} {w w' : World} {b o : Nat} {cs : List Value} (h : w.rangeAt b o cs) (ho : Only S w w') (hn : ¬ S b) : w'.rangeAt b o cs := fun j v hv => by
  have hc := h j v hv
  have hlt := block_of_cell hc
  have e := ho.block b hlt hn
  unfold World.cell? at hc ⊢
  rw [e]
  exact hc
theorem Sl.later {w w' : World} {A : Option Addr} {sz : Nat} {vs : List (List Value)} (h : Sl w A sz vs) (hb : Below w.heap.size w w') : Sl w' A sz vs := fun k hk => by
  obtain ⟨b, off, e, hr⟩ := h k hk
  exact ⟨b, off, e, range_later hr hb⟩
theorem sl_nil (w : World) (A : Option Addr) (sz : Nat) : Sl w A sz [] := fun k hk => absurd hk (by simp)
/-- The first place at which a list of answers says yes; -1: none. -/
def idxB (bs : List Bool) : Int := match bs.findIdx? (fun b => b) with | some i => (i : Int) | none => -1
theorem idxB_at {bs : List Bool} {k : Nat} (hk : k < bs.length) (h0 : ∀ j (hj : j < k), (bs[j]'(by omega)) = false) (h1 : bs[k] = true) : idxB bs = (k : Int) := by
  unfold idxB
  have e : bs.findIdx? (fun b => b) = some k := by
    rw [List.findIdx?_eq_some_iff_getElem]
    exact ⟨hk, h1, fun j hj => by rw [h0 j hj]; exact Bool.false_ne_true⟩
  rw [e]
theorem idxB_none {bs : List Bool} (h : ∀ j (hj : j < bs.length), bs[j] = false) : idxB bs = -1 := by
  unfold idxB
  have e : bs.findIdx? (fun b => b) = none := by
    rw [List.findIdx?_eq_none_iff]
    intro x hx
    obtain ⟨j, hj, rfl⟩ := List.mem_iff_getElem.1 hx
    exact h j hj
  rw [e]
theorem idxB_nonneg (bs : List Bool) : decide (0 ≤ idxB bs) = bs.any (fun b => b) := by
  unfold idxB
  cases h : bs.findIdx? (fun b => b) with
  | none =>
    have := List.findIdx?_eq_none_iff.1 h
    have e : bs.any (fun b => b) = false := by rw [List.any_eq_false]; intro x hx; rw [this x hx]; exact Bool.false_ne_true
    rw [e]
    rfl
  | some i =>
    obtain ⟨hi, hp, _⟩ := List.findIdx?_eq_some_iff_getElem.1 h
    have e : bs.any (fun b => b) = true := List.any_eq_true.2 ⟨bs[i], List.getElem_mem hi, hp⟩
    rw [e]
    exact decide_eq_true (Int.natCast_nonneg i)

instance tidEq : DecidableEq Tid := fun a b => decidable_of_iff (a.node = b.node ∧ a.epoch = b.epoch ∧ a.seq = b.seq) ⟨fun h => by obtain ⟨a1, a2, a3⟩ := a; obtain ⟨b1, b2, b3⟩ := b; obtain ⟨rfl, rfl, rfl⟩ := h; rfl, fun h => by subst h; exact ⟨rfl, rfl, rfl⟩⟩
/-- A cell's place. -/
structure Pl where
  status : Int
  hop : Int
  to : Int
  version : Int
  value : Int
deriving DecidableEq
def Pl.vals (p : Pl) : List Value := [.int .i64 p.status, .int .i64 p.hop, .int .i64 p.to, .int .i64 p.version, .int .i64 p.value]
def pl0 : Pl := ⟨0, 0, 0, 0, 0⟩
/-- A transaction that is prepared. -/
structure Pr where
  tid : Tid
  items : List It
  nodes : List Int
deriving DecidableEq
def Pr.vals (p : Pr) (y : Lay) : List Value := [.int .i64 p.tid.node, .int .i64 p.tid.epoch, .int .i64 p.tid.seq, .slice y.A p.items.length y.c, .slice y.B p.nodes.length y.d]
/-- A transaction that is decided. -/
structure De where
  tid : Tid
  yes : Bool
deriving DecidableEq
def De.vals (d : De) : List Value := [.int .i64 d.tid.node, .int .i64 d.tid.epoch, .int .i64 d.tid.seq, .bool d.yes]
/-- A transaction that the node committed. -/
structure Co where
  tid : Tid
  items : List It
  nodes : List Int
  over : Bool
deriving DecidableEq
def Co.vals (c : Co) (y : Lay) : List Value := [.int .i64 c.tid.node, .int .i64 c.tid.epoch, .int .i64 c.tid.seq, .slice y.A c.items.length y.c, .slice y.B c.nodes.length y.d, .bool c.over]
/-- What records come to. -/
structure St where
  node : Int
  nodes : Int
  cells : Int
  epoch : Int
  places : List Pl
  prep : List Pr
  dec : List De
  com : List Co
deriving DecidableEq
/-- Where a state's lists lie. -/
structure Sy where
  P : Option Addr
  p : Nat
  Q : Option Addr
  q : Nat
  D : Option Addr
  d : Nat
  C : Option Addr
  c : Nat
  ps : List Lay
  cs : List Lay
def St.vals (s : St) (y : Sy) : List Value := [.int .i64 s.node, .int .i64 s.nodes, .int .i64 s.cells, .int .i64 s.epoch, .slice y.P s.places.length y.p, .slice y.Q s.prep.length y.q, .slice y.D s.dec.length y.d, .slice y.C s.com.length y.c]
def St.val (s : St) (y : Sy) : Value := .agg #[.int .i64 s.node, .int .i64 s.nodes, .int .i64 s.cells, .int .i64 s.epoch, .slice y.P s.places.length y.p, .slice y.Q s.prep.length y.q, .slice y.D s.dec.length y.d, .slice y.C s.com.length y.c]
/-- Two lists that lie there. -/
def Two (w : World) (x : List It) (n : List Int) (y : Lay) : Prop := Items w y.A x ∧ Nums w y.B n ∧ (y.A = none → y.c = 0) ∧ (y.B = none → y.d = 0)
theorem Two.later {w w' : World} {x : List It} {n : List Int} {y : Lay} (h : Two w x n y) (hb : Below w.heap.size w w') : Two w' x n y := ⟨h.1.later hb, h.2.1.later hb, h.2.2⟩
/-- A state's lists lie there. -/
structure Sees (w : World) (s : St) (y : Sy) : Prop where
  places : Sl w y.P 5 (s.places.map Pl.vals)
  prep : Sl w y.Q 5 (List.zipWith Pr.vals s.prep y.ps)
  dec : Sl w y.D 4 (s.dec.map De.vals)
  com : Sl w y.C 6 (List.zipWith Co.vals s.com y.cs)
  ps : y.ps.length = s.prep.length
  cs : y.cs.length = s.com.length
  pin : ∀ k (h : k < s.prep.length) (h' : k < y.ps.length), Two w s.prep[k].items s.prep[k].nodes y.ps[k]
  cin : ∀ k (h : k < s.com.length) (h' : k < y.cs.length), Two w s.com[k].items s.com[k].nodes y.cs[k]
  capP : y.P = none → y.p = 0
  capQ : y.Q = none → y.q = 0
  capD : y.D = none → y.d = 0
  capC : y.C = none → y.c = 0
theorem Sees.later {w w' : World} {s : St} {y : Sy} (h : Sees w s y) (hb : Below w.heap.size w w') : Sees w' s y :=
  ⟨h.places.later hb, h.prep.later hb, h.dec.later hb, h.com.later hb, h.ps, h.cs, fun k h1 h2 => (h.pin k h1 h2).later hb, fun k h1 h2 => (h.cin k h1 h2).later hb, h.capP, h.capQ, h.capD, h.capC⟩
/-- Is there such a cell? -/
def hasC (s : St) (c : Int) : Bool := decide (0 ≤ c) && decide (c < (s.places.length : Int))
theorem hasC_iff (s : St) (c : Int) : hasC s c = true ↔ 0 ≤ c ∧ c < (s.places.length : Int) := by unfold hasC; simp
def plAt (s : St) (c : Int) : Pl := (s.places[c.toNat]?).getD pl0
def owns (s : St) (c : Int) : Bool := hasC s c && decide ((plAt s c).status = 1)

theorem has_any (s : St) (y : Sy) (c : Int) (w : World) :
    Calls Tryz.prog 42 #[s.val y, .int .i64 c] w fun e w' => e = .returned (.bool (hasC s c)) ∧ Below w.heap.size w w' := by
  have hb1 := below_alloc w (.cells #[.int .i64 s.node, .int .i64 s.nodes, .int .i64 s.cells, .int .i64 s.epoch, .slice y.P s.places.length y.p, .slice y.Q s.prep.length y.q, .slice y.D s.dec.length y.d, .slice y.C s.com.length y.c] 32)
  have HB := Lib.hid hb1
  clear hb1
  unfold St.val hasC
  by_cases h0 : 0 ≤ c
  · rw [decide_eq_true h0, Bool.true_and]
    go_enter Tryz.func42, Tryz.ntmps42
    go_wp2_with fail
    go_returns
    exact ⟨rfl, HB.out⟩
  · rw [decide_eq_false h0, Bool.false_and]
    go_enter Tryz.func42, Tryz.ntmps42
    go_wp2_with fail
    go_returns
    exact ⟨rfl, HB.out⟩
theorem room_any (s : St) (y : Sy) (w : World) (h1 : s.prep.length ≤ 1000000) (h2 : s.dec.length ≤ 1000000) :
    Calls Tryz.prog 100 #[s.val y] w fun e w' => e = .returned (.bool (decide (((s.prep.length : Int) + (s.dec.length : Int)) < 512))) ∧ Below w.heap.size w w' := by
  have hb1 := below_alloc w (.cells #[.int .i64 s.node, .int .i64 s.nodes, .int .i64 s.cells, .int .i64 s.epoch, .slice y.P s.places.length y.p, .slice y.Q s.prep.length y.q, .slice y.D s.dec.length y.d, .slice y.C s.com.length y.c] 32)
  have HB := Lib.hid hb1
  clear hb1
  unfold St.val
  go_enter Tryz.func100, Tryz.ntmps100
  go_wp2_with fail
  go_returns
  exact ⟨rfl, HB.out⟩
end Go.Proofs.YtalhbblmnahcdaaGreat.Led
