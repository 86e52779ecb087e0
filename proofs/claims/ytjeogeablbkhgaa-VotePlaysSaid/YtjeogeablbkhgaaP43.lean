/-
  How structs within structs, and slices of such, are opened that came in. No program is named.
  How a slice of whole numbers that came in is opened. No program is named. Conditions: none of its own.
  A slice of bytes, and a byte, that came in.
  Conditions: none.
-/
import Derived.Test.YtjeogeablbkhgaaP42
import Derived.ChangeArms
import Derived.Test.YtjeogeablbkhgaaP3
import Derived.ChangeSlices
namespace Go.Proofs.Ytjeogeablbkhgaa.Mem
set_option maxRecDepth 100000
open Go.ChangeShapes Go.WideShapes Go.ChangeAt Go.RowKit Go.Deep
section
variable {H : Type} {enc : TypeId × Value → H} {P : Program} {W : World}
/-- A value's cells that came in. -/
def CameS (P : Program) (enc : TypeId × Value → H) (W : World) (ty : TypeId) (cs : List Value) : Prop := ∃ n y, DataW.trod enc P W 0 (fun _ => true) true n ty cs = some y ∧ Base.Small P ty y.1
theorem CameS.one {ty : TypeId} {c : Value} (h : CameS P enc W ty [c]) : Came P enc W ty c := h
theorem CameS.fields {eT : TypeId} {fs : Array Field} {cs : List Value} (h : CameS P enc W eT cs) (hst : P.underlying eT = some (.struct fs)) :
  cs.length = P.cellsOf eT ∧ ∀ (j : Nat) (f : Field), fs[j]? = some f → CameS P enc W f.type ((cs.drop f.offset).take (P.cellsOf f.type)) := by
 obtain ⟨n, y, h1, hs⟩ := h
 obtain ⟨xs, n', _, hy, hlen, hxl, hg⟩ := DataW.trod_struct hst h1
 refine ⟨hlen, fun j f hf => ?_⟩
 have hj : j < fs.size := (Array.getElem?_eq_some_iff.1 hf).1
 have g := hg j f hf
 rw [List.getElem?_eq_getElem (by omega)] at g
 refine ⟨n', _, g, ?_⟩
 rw [hy] at hs
 exact hs.part hst hf (by rw [List.getElem?_map, List.getElem?_eq_getElem (by omega)]; rfl)
/-- A slice that came in. -/
theorem Came.rowsS {sT eT : TypeId} {c : Value} (h : Came P enc W sT c) (hu : P.underlying sT = some (.slice eT)) (hpos : 0 < P.cellsOf eT) (hby : 1 ≤ P.bytesOf eT) :
  ∃ (A : Option Addr) (vs : List (List Value)) (cap : Nat), c = .slice A vs.length cap ∧ Sl W A (P.cellsOf eT) vs ∧ vs.length ≤ 140737488351232 ∧ Cap A vs.length cap ∧ ∀ v ∈ vs, v.length = P.cellsOf eT ∧ CameS P enc W eT v := by
 obtain ⟨fuel, y, hf, hsz⟩ := h
 obtain ⟨sz, hszd⟩ : ∃ sz, P.cellsOf eT = sz := ⟨_, rfl⟩
 rw [hszd] at hpos ⊢
 rcases open_slice hu hf with ⟨hcs, hx⟩ | ⟨a, len, cap, m, n, D, Pl, hcs, _, hl, hm, hmm, hx, hi⟩
 ·simp at hcs
  subst hcs
  exact ⟨none, [], 0, rfl, sl_nil _ _ _, by decide, And.intro (fun _ => rfl) (Nat.le_refl _), fun v hv => (by cases hv)⟩
 ·simp at hcs
  subst hcs
  simp only [if_true] at hmm
  subst hmm
  have each : ∀ i, i < len → ∃ v : List Value, (∀ j u, v[j]? = some u → W.cell? (a.add (i * sz + j)) = some u) ∧ v.length = sz ∧ CameS P enc W eT v := by
   intro i hil
   obtain ⟨cs', hc, hr⟩ := hi i (by omega)
   rw [hszd] at hc
   obtain ⟨_, hcl', hat⟩ := World.cells?_some hc
   refine ⟨cs', fun j u hu => ?_, by omega, ⟨_, _, hr, ?_⟩⟩
   ·have hj : j < cs'.length := (List.getElem?_eq_some_iff.1 hu).1
    have h0 := hat j (by omega)
    rw [Go.Deep.add_add] at h0
    exact h0.trans hu
   ·rw [hx] at hsz
    exact hsz.elem hu (List.mem_map.2 ⟨i, List.mem_range.2 hil, rfl⟩)
  have choice : ∃ f : Nat → List Value, ∀ i, i < len → (∀ j u, (f i)[j]? = some u → W.cell? (a.add (i * sz + j)) = some u) ∧ (f i).length = sz ∧ CameS P enc W eT (f i) := by
   refine ⟨fun i => if hi : i < len then (each i hi).choose else [], fun i hi => ?_⟩
   simp only [dif_pos hi]
   exact (each i hi).choose_spec
  obtain ⟨f, hfn⟩ := choice
  have hlen : len ≤ 140737488351232 := by
   have h1 := hsz
   rw [hx] at h1
   have h2 := h1.length hu
   simp only [List.length_map, List.length_range] at h2
   have h3 := Nat.mul_le_mul_left (len + (m - len)) hby
   omega
  refine ⟨some a, (List.range len).map f, m, by simp, ?_, by simp; omega, And.intro (fun e => by cases e) (by simp; omega), fun v hv => ?_⟩
  ·intro k hk
   have hk' : k < len := by simpa using hk
   have hspec := hfn k hk'
   have hspot : a.spot = none := by
    have h0 : 0 < len := by omega
    have h1 := (hfn 0 h0).2.1
    have h2 := (hfn 0 h0).1 0 ((f 0)[0]'(by omega)) (List.getElem?_eq_getElem _)
    have := World.cell?_spot h2
    simpa [Addr.add] using this
   obtain ⟨ab, ao, asp⟩ := a
   simp only at hspot
   subst hspot
   refine ⟨ab, ao, rfl, fun j u hu => ?_⟩
   have e : ((List.range len).map f)[k] = f k := by simp
   rw [e] at hu
   have h3 := hspec.1 j u hu
   rw [add_plain] at h3
   rw [Nat.add_assoc]
   exact h3
  ·obtain ⟨i, hi, rfl⟩ := List.mem_map.1 hv
   exact (hfn i (List.mem_range.1 hi)).2
/-- Structs that came in, each known by what is said of its cells. -/
theorem came_each {α : Type} {eT : TypeId} {vals : α → List Value} {ok : α → Prop} {vs : List (List Value)} (h : ∀ v ∈ vs, CameS P enc W eT v) (he : ∀ v, CameS P enc W eT v → ∃ x, v = vals x ∧ ok x) : ∃ l : List α, vs = l.map vals ∧ ∀ x ∈ l, ok x := by
 induction vs with
 | nil => exact ⟨[], rfl, fun p hp => (by cases hp)⟩
 | cons v vs ih =>
  obtain ⟨l, rfl, hl⟩ := ih fun x hx => h x (List.mem_cons_of_mem _ hx)
  obtain ⟨x, rfl, hx⟩ := he v (h v List.mem_cons_self)
  refine ⟨x :: l, rfl, fun p hp => ?_⟩
  rcases List.mem_cons.1 hp with rfl | hp
  ·exact hx
  ·exact hl p hp
/-- A struct that came in by value. -/
theorem came_arg {base : Nat} {eT : TypeId} {fs : Array Field} {v : Value} {d : DataW H} {p : List MemPlace} (hv : Value.okWide P W .any base eT v) (h : DataW.Trod enc P W 0 (fun _ => true) true eT v d p) (hs : Base.Small P eT d)
  (hst : P.underlying eT = some (.struct fs)) : ∃ cs : List Value, v = .agg cs.toArray ∧ CameS P enc W eT cs := by
 obtain ⟨cs, rfl, hsz⟩ := okWide_struct hst hv
 obtain ⟨fuel, hf⟩ := h
 exact ⟨cs.toList, by simp, ⟨_, _, (by simpa [Value.cells] using hf), hs⟩⟩
end
end Go.Proofs.Ytjeogeablbkhgaa.Mem
namespace Go.Proofs.Ytjeogeablbkhgaa.Base
open Go.ChangeShapes Go.WideShapes Go.ChangeAt Go.RowKit
end Go.Proofs.Ytjeogeablbkhgaa.Base
namespace Go.Proofs.Ytjeogeablbkhgaa.Mem
set_option maxRecDepth 100000
open Go.ChangeShapes Go.WideShapes Go.ChangeAt Go.RowKit Go.Deep
/-- Bytes that came in. -/
def U8s (w : World) (A : Option Addr) (ks : List Int) : Prop := ∀ i (h : i < ks.length), ∃ b off, A = some ⟨b, off, none⟩ ∧ w.cell? ⟨b, off + i, none⟩ = some (.int .u8 ks[i])
theorem U8s.later {w w' : World} {A : Option Addr} {ks : List Int} (h : U8s w A ks) (hb : Below w.heap.size w w') : U8s w' A ks := fun i hi => by
 obtain ⟨b, off, e, hc⟩ := h i hi
 exact ⟨b, off, e, (hb.cell (block_of_cell hc)).trans hc⟩
section
variable {H : Type} {enc : TypeId × Value → H} {W : World}
end
end Go.Proofs.Ytjeogeablbkhgaa.Mem
