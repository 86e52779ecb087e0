/-
  Layer 6: how names of transactions stand, and whether they are right: what the code does, and the document's own answers.
  Layer 6: items and nodes in memory; how arguments of these kinds are opened.
  Conditions: none.
-/
import Derived.Test.YtjeogeablbkhgaaP7
import Derived.Test.YtjeogeablbkhgaaP10
import Derived.BigRegion
import Derived.Test.YtjeogeablbkhgaaP3
import Derived.Test.YtjeogeablbkhgaaP2
import Derived.Deep.DeepHandedRow
import Derived.Lib.LaidTab
import Derived.Lib.SmallJoins
import Derived.Deep.Slices
import Derived.Deep.Fields
import Derived.ChangeSame
import Derived.ChangeSlices
namespace Go.Proofs.Ytjeogeablbkhgaa.Item
open Go.RowKit Go.Proofs.Ytjeogeablbkhgaa.Mem
/-- A name. -/
structure Tid where
 node : Int
 epoch : Int
 seq : Int
def Tid.vals (t : Tid) : List Value := [.int .i64 t.node, .int .i64 t.epoch, .int .i64 t.seq]
def Tid.val (t : Tid) : Value := .agg #[.int .i64 t.node, .int .i64 t.epoch, .int .i64 t.seq]
/-- How two numbers stand. -/
def cmpI (a b : Int) : Int := if a < b then -1 else if b < a then 1 else 0
/-- The first one that isn't 0. -/
def firstNZ : List Int → Int
 | [] => 0
 | x :: l => if x = 0 then firstNZ l else x
/-- How two names stand. -/
def ord (a b : Tid) : Int := firstNZ [cmpI a.node b.node, cmpI a.epoch b.epoch, cmpI a.seq b.seq]
theorem isNaN_any (n : Int) (w : World) : Calls Try.prog 51 #[.int .i64 n] w fun e w' => e = .returned (.bool false) ∧ w = w' := by
 go_enter Try.func51, Try.ntmps51
 go_wp2
 go_returns
 exact ⟨ret_val (by simp), rfl⟩
theorem compare_any (a b : Int) (w : World) : Calls Try.prog 45 #[.int .i64 a, .int .i64 b] w fun e w' => e = .returned (.int .i64 (cmpI a b)) ∧ w = w' := by
 have h1 := isNaN_any a
 have h2 := isNaN_any b
 have HV := Lib.hid (show cmpI a b = if a < b then -1 else if b < a then 1 else 0 from rfl)
 go_enter Try.func45, Try.ntmps45
 go_wp2_with fail
 refine (h1 _).mono ?_
 rintro e w1 ⟨rfl, rfl⟩
 go_wp2_with fail
 refine (h2 _).mono ?_
 rintro e w1 ⟨rfl, rfl⟩
 clear h1 h2
 by_cases c1 : a < b
 ·rw [if_pos c1] at HV
  go_wp2
  go_returns
  exact ⟨ret_int HV.out.symm, rfl⟩
 ·rw [if_neg c1] at HV
  by_cases c2 : b < a
  ·rw [if_pos c2] at HV
   go_wp2
   go_returns
   exact ⟨ret_int HV.out.symm, rfl⟩
  ·rw [if_neg c2] at HV
   go_wp2
   go_returns
   exact ⟨ret_int HV.out.symm, rfl⟩
end Go.Proofs.Ytjeogeablbkhgaa.Item
namespace Go.Proofs.Ytjeogeablbkhgaa.Item
set_option maxRecDepth 100000
open Go.ChangeShapes Go.WideShapes Go.ChangeAt Go.RowKit Go.Deep Go.Proofs.Ytjeogeablbkhgaa.Mem
theorem ret_bool {a b : Bool} (h : a = b) : Ending.returned (.bool b) = .returned (.bool a) := by rw [h]
/-- What one transaction had to do with one cell. -/
structure It where
 cell : Int
 version : Int
 value : Int
 write : Bool
 new : Int
deriving DecidableEq
def It.vals (x : It) : List Value := [.int .i64 x.cell, .int .i64 x.version, .int .i64 x.value, .bool x.write, .int .i64 x.new]
def It.val (x : It) : Value := .agg #[.int .i64 x.cell, .int .i64 x.version, .int .i64 x.value, .bool x.write, .int .i64 x.new]
/-- A number that an int can be. -/
def I64 (n : Int) : Prop := -9223372036854775808 ≤ n ∧ n ≤ 9223372036854775807
def It.ok (x : It) : Prop := I64 x.cell ∧ I64 x.version ∧ I64 x.value ∧ I64 x.new
def Tid.ok (t : Tid) : Prop := I64 t.node ∧ I64 t.epoch ∧ I64 t.seq
def it0 : It := ⟨0, 0, 0, false, 0⟩
/-- Items' cells. -/
def flat (l : List It) : List Value := l.flatMap It.vals
theorem flat_len (l : List It) : (flat l).length = l.length * 5 := by
 induction l with
 | nil => rfl
 | cons x l ih =>
  unfold flat at ih ⊢
  rw [List.flatMap_cons, List.length_append, ih, List.length_cons]
  show 5 + _ = _
  omega
theorem infoItem : (Try.prog.info? 60).map (fun i => (i.zero, i.size, i.bytes)) = some (some (.agg #[.int .i64 0, .int .i64 0, .int .i64 0, .bool false, .int .i64 0]), 5, 40) := by kernel_rfl
theorem vals_one (x : It) : ∀ u ∈ x.vals, u.oneCell' = true := by
 intro u hu
 unfold It.vals at hu
 simp only [List.mem_cons, List.not_mem_nil, or_false] at hu
 rcases hu with rfl | rfl | rfl | rfl | rfl <;> rfl
theorem i64_wf {x : Int} (h : (Lit.int .i64 x).wf = true) : I64 x := by
 have h1 : IntKind.i64.min = -9223372036854775808 := rfl
 have h2 : IntKind.i64.max = 9223372036854775807 := rfl
 simp only [Lit.wf, Bool.and_eq_true, decide_eq_true_eq, h1, h2] at h
 exact h
/-- One item's cells, from an address on. -/
structure ItAt (w : World) (b off : Nat) (x : It) : Prop where
 cell : w.cell? ⟨b, off, none⟩ = some (.int .i64 x.cell)
 version : w.cell? ⟨b, off + 1, none⟩ = some (.int .i64 x.version)
 value : w.cell? ⟨b, off + 2, none⟩ = some (.int .i64 x.value)
 write : w.cell? ⟨b, off + 3, none⟩ = some (.bool x.write)
 new : w.cell? ⟨b, off + 4, none⟩ = some (.int .i64 x.new)
theorem ItAt.lt {w : World} {b off : Nat} {x : It} (h : ItAt w b off x) : b < w.heap.size := block_of_cell h.cell
theorem ItAt.below {w w' : World} {b off B : Nat} {x : It} (h : ItAt w b off x) (hb : Below B w w') (hB : b < B) : ItAt w' b off x :=
 ⟨(hb.cell hB).trans h.cell, (hb.cell hB).trans h.version, (hb.cell hB).trans h.value, (hb.cell hB).trans h.write, (hb.cell hB).trans h.new⟩
theorem ItAt.later {w w' : World} {b off : Nat} {x : It} (h : ItAt w b off x) (hb : Below w.heap.size w w') : ItAt w' b off x := h.below hb h.lt
theorem ItAt.only {S : Nat → Prop} {w w' : World} {b off : Nat} {x : It} (h : ItAt w b off x) (ho : Only S w w') (hn : ¬ S b) : ItAt w' b off x := by
 have e := fun (p : Addr) (hp : p.block = b) => World.cell?_of_block (w := w) (w' := w') (a := p) (by rw [hp]; exact ho.block b h.lt hn)
 exact ⟨(e _ rfl).trans h.cell, (e _ rfl).trans h.version, (e _ rfl).trans h.value, (e _ rfl).trans h.write, (e _ rfl).trans h.new⟩
/-- The slice whose first cell is at A holds these items. -/
def Items (w : World) (A : Option Addr) (l : List It) : Prop := ∀ k (h : k < l.length), ∃ b off, A = some ⟨b, off, none⟩ ∧ ItAt w b (off + k * 5) l[k]
theorem items_nil (w : World) (A : Option Addr) : Items w A [] := fun k hk => absurd hk (by simp)
theorem Items.later {w w' : World} {A : Option Addr} {l : List It} (h : Items w A l) (hb : Below w.heap.size w w') : Items w' A l := by
 intro k hk
 obtain ⟨b, off, e, hi⟩ := h k hk
 exact ⟨b, off, e, hi.later hb⟩
/-- The slice whose first cell is at A holds these numbers. -/
def Nums (w : World) (A : Option Addr) (l : List Int) : Prop := ∀ k (h : k < l.length), ∃ b off, A = some ⟨b, off, none⟩ ∧ w.cell? ⟨b, off + k, none⟩ = some (.int .i64 l[k])
theorem Nums.later {w w' : World} {A : Option Addr} {l : List Int} (h : Nums w A l) (hb : Below w.heap.size w w') : Nums w' A l := by
 intro k hk
 obtain ⟨b, off, e, hi⟩ := h k hk
 exact ⟨b, off, e, (hb.cell (block_of_cell hi)).trans hi⟩
theorem cellsItem : Try.prog.cellsOf 60 = 5 := by kernel_rfl
theorem cellsTid : Try.prog.cellsOf 23 = 3 := by kernel_rfl
end Go.Proofs.Ytjeogeablbkhgaa.Item
