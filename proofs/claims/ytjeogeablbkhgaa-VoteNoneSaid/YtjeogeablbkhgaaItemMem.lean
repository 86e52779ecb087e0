/-
  Layer 6: items and nodes in memory; how arguments of these kinds are opened. Conditions: none.
-/
import Derived.Test.YtjeogeablbkhgaaItemOrd
import Derived.Test.YtjeogeablbkhgaaBase
import Derived.Test.YtjeogeablbkhgaaOnly
import Derived.Deep.DeepHandedRow
import Derived.Lib.LaidTab
import Derived.Lib.SmallJoins
import Derived.Deep.Slices
import Derived.Deep.Fields
import Derived.ChangeSame
import Derived.ChangeSlices
namespace Go.Proofs.Ytjeogeablbkhgaa.Item
set_option maxRecDepth 100000
open Go.ChangeShapes Go.WideShapes Go.ChangeAt Go.RowKit Go.Deep Go.Proofs.Ytjeogeablbkhgaa.Mem

theorem ret_bool {a b : Bool} (h : a = b) : Ending.returned (.bool b) = .returned (.bool a) := by rw [h]
/-- What one transaction had to do with one cell. -/
structure It where
  cell : Int
  version : Int
  value : Int
  write : Bool
  new : Int
deriving DecidableEq
def It.vals (x : It) : List Value := [.int .i64 x.cell, .int .i64 x.version, .int .i64 x.value, .bool x.write, .int .i64 x.new]
def It.val (x : It) : Value := .agg #[.int .i64 x.cell, .int .i64 x.version, .int .i64 x.value, .bool x.write, .int .i64 x.new]
/-- A number that an int can be. -/
def I64 (n : Int) : Prop := -9223372036854775808 ≤ n ∧ n ≤ 9223372036854775807
def It.ok (x : It) : Prop := I64 x.cell ∧ I64 x.version ∧ I64 x.value ∧ I64 x.new
def Tid.ok (t : Tid) : Prop := I64 t.node ∧ I64 t.epoch ∧ I64 t.seq
def it0 : It := ⟨0, 0, 0, false, 0⟩
/-- Items' cells. -/
def flat (l : List It) : List Value := l.flatMap It.vals
theorem flat_len (l : List It) : (flat l).length = l.length * 5 := by
  induction l with
  | nil => rfl
  | cons x l ih =>
    unfold flat at ih ⊢
    rw [List.flatMap_cons, List.length_append, ih, List.length_cons]
    show 5 + _ = _
    omega
theorem infoItem : (Try.prog.info? 60).map (fun i => (i.zero, i.size, i.bytes)) = some (some (.agg #[.int .i64 0, .int .i64 0, .int .i64 0, .bool false, .int .i64 0]), 5, 40) := by kernel_rfl
theorem vals_one (x : It) : ∀ u ∈ x.vals, u.oneCell' = true := by
  intro u hu
  unfold It.vals at hu
  simp only [List.mem_cons, List.not_mem_nil, or_false] at hu
  rcases hu with rfl | rfl | rfl | rfl | rfl <;> rfl
theorem i64_wf {x : Int} (h : (Lit.int .i64 x).wf = true) : I64 x := by
  have h1 : IntKind.i64.min = -9223372036854775808 := rfl
  have h2 : IntKind.i64.max = 9223372036854775807 := rfl
  simp only [Lit.wf, Bool.and_eq_true, decide_eq_true_eq, h1, h2] at h
  exact h

/-- One item's cells, from an address on. -/
structure ItAt (w : World) (b off : Nat) (x : It) : Prop where
  cell : w.cell? ⟨b, off, none⟩ = some (.int .i64 x.cell)
  version : w.cell? ⟨b, off + 1, none⟩ = some (.int .i64 x.version)
  value : w.cell? ⟨b, off + 2, none⟩ = some (.int .i64 x.value)
  write : w.cell? ⟨b, off + 3, none⟩ = some (.bool x.write)
  new : w.cell? ⟨b, off + 4, none⟩ = some (.int .i64 x.new)
theorem ItAt.lt {w : World} {b off : Nat} {x : It} (h : ItAt w b off x) : b < w.heap.size := block_of_cell h.cell
theorem ItAt.below {w w' : World} {b off B : Nat} {x : It} (h : ItAt w b off x) (hb : Below B w w') (hB : b < B) : ItAt w' b off x :=
  ⟨(hb.cell hB).trans h.cell, (hb.cell hB).trans h.version, (hb.cell hB).trans h.value, (hb.cell hB).trans h.write, (hb.cell hB).trans h.new⟩
theorem ItAt.later {w w' : World} {b off : Nat} {x : It} (h : ItAt w b off x) (hb : Below w.heap.size w w') : ItAt w' b off x := h.below hb h.lt
theorem ItAt.only {S : Nat → Prop} {w w' : World} {b off : Nat} {x : It} (h : ItAt w b off x) (ho : Only S w w') (hn : ¬ S b) : ItAt w' b off x := by
  have e := fun (p : Addr) (hp : p.block = b) => World.cell?_of_block (w := w) (w' := w') (a := p) (by rw [hp]; exact ho.block b h.lt hn)
  exact ⟨(e _ rfl).trans h.cell, (e _ rfl).trans h.version, (e _ rfl).trans h.value, (e _ rfl).trans h.write, (e _ rfl).trans h.new⟩

/-- The slice whose first cell is at A holds these items. -/
def Items (w : World) (A : Option Addr) (l : List It) : Prop := ∀ k (h : k < l.length), ∃ b off, A = some ⟨b, off, none⟩ ∧ ItAt w b (off + k * 5) l[k]
theorem items_nil (w : World) (A : Option Addr) : Items w A [] := fun k hk => absurd hk (by simp)
theorem Items.later {w w' : World} {A : Option Addr} {l : List It} (h : Items w A l) (hb : Below w.heap.size w w') : Items w' A l := by
  intro k hk
  obtain ⟨b, off, e, hi⟩ := h k hk
  exact ⟨b, off, e, hi.later hb⟩
/-- The slice whose first cell is at A holds these numbers. -/
def Nums (w : World) (A : Option Addr) (l : List Int) : Prop := ∀ k (h : k < l.length), ∃ b off, A = some ⟨b, off, none⟩ ∧ w.cell? ⟨b, off + k, none⟩ = some (.int .i64 l[k])
theorem nums_nil (w : World) (A : Option Addr) : Nums w A [] := fun k hk => absurd hk (by simp)
theorem Nums.later {w w' : World} {A : Option Addr} {l : List Int} (h : Nums w A l) (hb : Below w.heap.size w w') : Nums w' A l := by
  intro k hk
  obtain ⟨b, off, e, hi⟩ := h k hk
  exact ⟨b, off, e, (hb.cell (block_of_cell hi)).trans hi⟩

theorem structItem : ∃ f0 f1 f2 f3 f4 : Field, Try.prog.underlying 60 = some (.struct #[f0, f1, f2, f3, f4]) ∧ oneCellFields Try.prog #[f0, f1, f2, f3, f4] = true ∧ f0.type = 3 ∧ f1.type = 3 ∧ f2.type = 3 ∧ f3.type = 4 ∧ f4.type = 3 :=
  ⟨_, _, _, _, _, Try.underlying60, by kernel_rfl, rfl, rfl, rfl, rfl, rfl⟩
theorem cellsItem : Try.prog.cellsOf 60 = 5 := by kernel_rfl
theorem cellsTid : Try.prog.cellsOf 23 = 3 := by kernel_rfl

/-- A name that came in. -/
theorem open_tid {H : Type} {enc : TypeId × Value → H} {W : World} {base : Nat} {v : Value} {d : DataW H} {p : List MemPlace}
    (hv : Value.okWide Try.prog W .any base 23 v) (h : DataW.Trod enc Try.prog W 0 (fun _ => true) true 23 v d p) : ∃ t : Tid, v = t.val ∧ t.ok := by
  obtain ⟨c0, c1, c2, y0, y1, y2, m, rfl, _, _, h0, h1, h2⟩ := Go.Joins.open_agg3 Try.underlying23 (by kernel_rfl) cellsTid hv h
  obtain ⟨x0, q0, _, w0⟩ := DataW.trod_int Try.underlying3 h0
  obtain ⟨x1, q1, _, w1⟩ := DataW.trod_int Try.underlying3 h1
  obtain ⟨x2, q2, _, w2⟩ := DataW.trod_int Try.underlying3 h2
  simp at q0 q1 q2
  subst q0; subst q1; subst q2
  exact ⟨⟨x0, x1, x2⟩, rfl, i64_wf w0, i64_wf w1, i64_wf w2⟩

theorem choose_below {α : Type} {n : Nat} {Q : Nat → α → Prop} (x0 : α) (h : ∀ i, i < n → ∃ x, Q i x) : ∃ f : Nat → α, ∀ i, i < n → Q i (f i) := by
  refine ⟨fun i => if hi : i < n then (h i hi).choose else x0, fun i hi => ?_⟩
  show Q i (if hi : i < n then (h i hi).choose else x0)
  rw [dif_pos hi]
  exact (h i hi).choose_spec

/-- A slice of items that came in, as cells are read. -/
theorem items_trod {H : Type} {enc : TypeId × Value → H} {W : World} {fuel : Nat} {a0 : Option Addr} {len cap : Nat} {y : DataW H × List MemPlace}
    (hf : DataW.trod enc Try.prog W 0 (fun _ => true) true fuel 49 [.slice a0 len cap] = some y) :
    ∃ l : List It, len = l.length ∧ Items W a0 l ∧ l.length ≤ maxLen ∧ (∀ x ∈ l, x.ok) ∧ Cap a0 l.length cap := by
  obtain ⟨f0, f1, f2, f3, f4, hst, hone, e0, e1, e2, e3, e4⟩ := structItem
  rcases open_slice Try.underlying49 hf with ⟨hcs, hx⟩ | ⟨a, len', cap', m, n, D, Pl, hcs, _, hl, hm, hmm, hx, hi⟩
  · simp at hcs
    obtain ⟨rfl, rfl, rfl⟩ := hcs
    exact ⟨[], rfl, items_nil _ _, by decide, fun x hx => (by cases hx), And.intro (fun _ => rfl) (Nat.le_refl _)⟩
  · simp at hcs
    obtain ⟨rfl, rfl, rfl⟩ := hcs
    simp only [if_true] at hmm
    have each : ∀ i, i < len → ∃ x : It, x.ok ∧ W.cell? (a.add (i * 5)) = some (.int .i64 x.cell) ∧ W.cell? (a.add (i * 5 + 1)) = some (.int .i64 x.version) ∧ W.cell? (a.add (i * 5 + 2)) = some (.int .i64 x.value) ∧ W.cell? (a.add (i * 5 + 3)) = some (.bool x.write) ∧ W.cell? (a.add (i * 5 + 4)) = some (.int .i64 x.new) := by
      intro i hil
      obtain ⟨cs', hc, hr⟩ := hi i (by omega)
      rw [cellsItem] at hc
      obtain ⟨xs, n', _, hy, hlen, hxl, hg⟩ := DataW.trod_struct hst hr
      obtain ⟨_, hcl, hat⟩ := World.cells?_some hc
      obtain ⟨o0, k0⟩ := hone_of hone 0 f0 rfl
      obtain ⟨o1, k1⟩ := hone_of hone 1 f1 rfl
      obtain ⟨o2, k2⟩ := hone_of hone 2 f2 rfl
      obtain ⟨o3, k3⟩ := hone_of hone 3 f3 rfl
      obtain ⟨o4, k4⟩ := hone_of hone 4 f4 rfl
      match cs', hcl with
      | [c0, c1, c2, c3, c4], _ =>
        match xs, hxl with
        | [y0, y1, y2, y3, y4], _ =>
          have g0 := hg 0 f0 rfl
          have g1 := hg 1 f1 rfl
          have g2 := hg 2 f2 rfl
          have g3 := hg 3 f3 rfl
          have g4 := hg 4 f4 rfl
          rw [o0, k0, e0] at g0
          rw [o1, k1, e1] at g1
          rw [o2, k2, e2] at g2
          rw [o3, k3, e3] at g3
          rw [o4, k4, e4] at g4
          change DataW.trod enc Try.prog W 0 (fun _ => true) true n' 3 [c0] = some y0 at g0
          change DataW.trod enc Try.prog W 0 (fun _ => true) true n' 3 [c1] = some y1 at g1
          change DataW.trod enc Try.prog W 0 (fun _ => true) true n' 3 [c2] = some y2 at g2
          change DataW.trod enc Try.prog W 0 (fun _ => true) true n' 4 [c3] = some y3 at g3
          change DataW.trod enc Try.prog W 0 (fun _ => true) true n' 3 [c4] = some y4 at g4
          obtain ⟨x0, q0, r0, w0⟩ := DataW.trod_int Try.underlying3 g0
          obtain ⟨x1, q1, r1, w1⟩ := DataW.trod_int Try.underlying3 g1
          obtain ⟨x2, q2, r2, w2⟩ := DataW.trod_int Try.underlying3 g2
          obtain ⟨x3, q3, r3⟩ := DataW.trod_bool Try.underlying4 g3
          obtain ⟨x4, q4, r4, w4⟩ := DataW.trod_int Try.underlying3 g4
          simp at q0 q1 q2 q3 q4
          subst q0; subst q1; subst q2; subst q3; subst q4
          have h0 := hat 0 (by omega)
          have h1 := hat 1 (by omega)
          have h2 := hat 2 (by omega)
          have h3 := hat 3 (by omega)
          have h4 := hat 4 (by omega)
          simp only [Go.Deep.add_add] at h0 h1 h2 h3 h4
          refine ⟨⟨x0, x1, x2, x3, x4⟩, ⟨i64_wf w0, i64_wf w1, i64_wf w2, i64_wf w4⟩, ?_, ?_, ?_, ?_, ?_⟩
          · rw [Nat.add_zero] at h0
            exact h0
          · exact h1
          · exact h2
          · exact h3
          · exact h4
    obtain ⟨f, hfn⟩ := choose_below it0 each
    refine ⟨(List.range len).map f, by simp, ?_, by simp; omega, ?_, And.intro (fun h => by cases h) (by simp; omega)⟩
    · intro k hk
      have hk' : k < len := by simpa using hk
      have hspec := hfn k hk'
      have hspot : a.spot = none := by
        have := World.cell?_spot (hfn 0 (by omega)).2.1
        simpa [Addr.add] using this
      obtain ⟨ab, ao, asp⟩ := a
      simp only at hspot
      subst hspot
      simp only [add_plain, ← Nat.add_assoc] at hspec
      have e : ((List.range len).map f)[k] = f k := by simp
      rw [e]
      exact ⟨ab, ao, rfl, hspec.2.1, hspec.2.2.1, hspec.2.2.2.1, hspec.2.2.2.2.1, hspec.2.2.2.2.2⟩
    · intro x hx
      obtain ⟨i, hi, rfl⟩ := List.mem_map.1 hx
      exact (hfn i (List.mem_range.1 hi)).1
theorem open_items {H : Type} {enc : TypeId × Value → H} {W : World} {base : Nat} {v : Value} {d : DataW H} {p : List MemPlace}
    (hv : Value.okWide Try.prog W .any base 49 v) (h : DataW.Trod enc Try.prog W 0 (fun _ => true) true 49 v d p) :
    ∃ (A : Option Addr) (l : List It) (cap : Nat), v = .slice A l.length cap ∧ Items W A l ∧ l.length ≤ maxLen ∧ (∀ x ∈ l, x.ok) ∧ Cap A l.length cap := by
  obtain ⟨a0, len, cap, rfl⟩ := okWide_slice Try.underlying49 hv
  obtain ⟨fuel, hf⟩ := h
  obtain ⟨l, rfl, h1, h2, h3, h4⟩ := items_trod (by simpa [Value.cells] using hf)
  exact ⟨a0, l, cap, rfl, h1, h2, h3, h4⟩
/-- A slice of numbers that came in, as cells are read. -/
theorem nums_trod {H : Type} {enc : TypeId × Value → H} {W : World} {fuel : Nat} {a0 : Option Addr} {len cap : Nat} {y : DataW H × List MemPlace}
    (hf : DataW.trod enc Try.prog W 0 (fun _ => true) true fuel 37 [.slice a0 len cap] = some y) :
    ∃ l : List Int, len = l.length ∧ Nums W a0 l ∧ l.length ≤ maxLen ∧ (∀ x ∈ l, I64 x) ∧ Cap a0 l.length cap := by
  rcases open_ints Try.underlying37 Try.underlying3 (by kernel_rfl) hf with ⟨hcs, hx⟩ | ⟨a, len', cap', zs, hcs, _, hl, hm, hz, hx, hcell, hwz⟩
  · simp at hcs
    obtain ⟨rfl, rfl, rfl⟩ := hcs
    exact ⟨[], rfl, nums_nil _ _, by decide, fun x hx => (by cases hx), And.intro (fun _ => rfl) (Nat.le_refl _)⟩
  · simp at hcs
    obtain ⟨rfl, rfl, rfl⟩ := hcs
    simp only [if_true] at hz
    refine ⟨zs.take len, by simp; omega, ?_, by simp; omega, fun x hx => i64_wf (hwz x (List.mem_of_mem_take hx)), And.intro (fun h => by cases h) (by simp; omega)⟩
    intro k hk
    have hk' : k < len := by simp at hk; omega
    have h1 := hcell k (by omega)
    obtain ⟨ab, ao, spot⟩ := a
    have hspot : spot = none := by
      have h0 := World.cell?_spot (hcell 0 (by omega))
      simpa [Addr.add] using h0
    subst hspot
    refine ⟨ab, ao, rfl, ?_⟩
    rw [List.getElem_take]
    rw [List.getD_eq_getElem?_getD, List.getElem?_eq_getElem (by omega)] at h1
    rw [add_plain] at h1
    exact h1
end Go.Proofs.Ytjeogeablbkhgaa.Item
