/-
  How slices of structs, and structs by value, are opened that came in: cell by cell. No program is named.
  Conditions: none.
-/
import Derived.Test.YtjeogeablbkhgaaP5
import Derived.Deep.DeepHandedRow
import Derived.Lib.LaidTab
import Derived.Deep.Slices
import Derived.Deep.Fields
import Derived.ChangeSame
import Derived.ChangeSlices
namespace Go.Proofs.Ytjeogeablbkhgaa.Mem
set_option maxRecDepth 100000
open Go.ChangeShapes Go.WideShapes Go.ChangeAt Go.RowKit Go.Deep
section
variable {H : Type} {enc : TypeId × Value → H} {P : Program} {W : World}
/-- A value of one cell that came in. -/
def Came (P : Program) (enc : TypeId × Value → H) (W : World) (ty : TypeId) (c : Value) : Prop := ∃ n y, DataW.trod enc P W 0 (fun _ => true) true n ty [c] = some y ∧ Base.Small P ty y.1
theorem Came.int {ty : TypeId} {c : Value} {q : IntKind} (h : Came P enc W ty c) (hu : P.underlying ty = some (.int q)) : ∃ x, c = .int q x ∧ (Lit.int q x).wf = true := by
 obtain ⟨n, y, h1, _⟩ := h
 obtain ⟨x, e, _, hw⟩ := DataW.trod_int hu h1
 simp at e
 exact ⟨x, e, hw⟩
theorem Came.bool {ty : TypeId} {c : Value} (h : Came P enc W ty c) (hu : P.underlying ty = some .bool) : ∃ x, c = .bool x := by
 obtain ⟨n, y, h1, _⟩ := h
 obtain ⟨x, e, _⟩ := DataW.trod_bool hu h1
 simp at e
 exact ⟨x, e⟩
theorem Came.string {ty : TypeId} {c : Value} (h : Came P enc W ty c) (hu : P.underlying ty = some .string) : ∃ s : ByteArray, c = .string s ∧ s.size ≤ 140737488351232 := by
 obtain ⟨n, y, h1, h2⟩ := h
 obtain ⟨s, e, hy, _⟩ := DataW.trod_string hu h1
 simp at e
 refine ⟨s, e, ?_⟩
 rw [hy] at h2
 have := h2.text
 rwa [Array.length_toList] at this
/-- A struct's cells, each of one field. -/
def Fields (P : Program) (enc : TypeId × Value → H) (W : World) (fs : Array Field) (v : List Value) : Prop := v.length = fs.size ∧ ∀ (j : Nat) (f : Field) (c : Value), fs[j]? = some f → v[j]? = some c → Came P enc W f.type c
theorem fields_of {eT : TypeId} {fs : Array Field} (hst : P.underlying eT = some (.struct fs)) (hone : oneCellFields P fs = true) (hcl : P.cellsOf eT = fs.size) {n : Nat} {cs : List Value} {y : DataW H × List MemPlace}
  (h : DataW.trod enc P W 0 (fun _ => true) true n eT cs = some y) (hs : Base.Small P eT y.1) : Fields P enc W fs cs := by
 obtain ⟨xs, n', _, hy, hlen, hxl, hg⟩ := DataW.trod_struct hst h
 rw [hcl] at hlen
 refine ⟨hlen, fun j f c hf hc => ?_⟩
 obtain ⟨ho, hk⟩ := hone_of hone j f hf
 have hj : j < fs.size := (Array.getElem?_eq_some_iff.1 hf).1
 have g := hg j f hf
 rw [ho, hk, List.getElem?_eq_getElem (by omega)] at g
 have e : (cs.drop j).take 1 = [c] := by
  obtain ⟨h1, h2⟩ := List.getElem?_eq_some_iff.1 hc
  rw [List.drop_eq_getElem_cons h1, h2]
  rfl
 rw [e] at g
 refine ⟨n', _, g, ?_⟩
 rw [hy] at hs
 exact hs.part hst hf (by rw [List.getElem?_map, List.getElem?_eq_getElem (by omega)]; rfl)
/-- A slice of structs that came in. -/
theorem Came.rows {sT eT : TypeId} {fs : Array Field} {c : Value} (h : Came P enc W sT c) (hu : P.underlying sT = some (.slice eT)) (hst : P.underlying eT = some (.struct fs)) (hone : oneCellFields P fs = true) (hcl : P.cellsOf eT = fs.size) (hpos : 0 < fs.size) (hby : 1 ≤ P.bytesOf eT) :
  ∃ (A : Option Addr) (vs : List (List Value)) (cap : Nat), c = .slice A vs.length cap ∧ Sl W A fs.size vs ∧ vs.length ≤ 140737488351232 ∧ Cap A vs.length cap ∧ ∀ v ∈ vs, Fields P enc W fs v := by
 obtain ⟨fuel, y, hf, hsz⟩ := h
 rcases open_slice hu hf with ⟨hcs, hx⟩ | ⟨a, len, cap, m, n, D, Pl, hcs, _, hl, hm, hmm, hx, hi⟩
 ·simp at hcs
  subst hcs
  exact ⟨none, [], 0, rfl, sl_nil _ _ _, by decide, And.intro (fun _ => rfl) (Nat.le_refl _), fun v hv => (by cases hv)⟩
 ·simp at hcs
  subst hcs
  simp only [if_true] at hmm
  subst hmm
  have each : ∀ i, i < len → ∃ v : List Value, (∀ j u, v[j]? = some u → W.cell? (a.add (i * fs.size + j)) = some u) ∧ Fields P enc W fs v := by
   intro i hil
   obtain ⟨cs', hc, hr⟩ := hi i (by omega)
   rw [hcl] at hc
   obtain ⟨_, hcl', hat⟩ := World.cells?_some hc
   refine ⟨cs', fun j u hu => ?_, fields_of hst hone hcl hr ?_⟩
   ·have hj : j < cs'.length := (List.getElem?_eq_some_iff.1 hu).1
    have h0 := hat j (by omega)
    rw [Go.Deep.add_add] at h0
    exact h0.trans hu
   ·rw [hx] at hsz
    exact hsz.elem hu (List.mem_map.2 ⟨i, List.mem_range.2 hil, rfl⟩)
  have choice : ∃ f : Nat → List Value, ∀ i, i < len → (∀ j u, (f i)[j]? = some u → W.cell? (a.add (i * fs.size + j)) = some u) ∧ Fields P enc W fs (f i) := by
   refine ⟨fun i => if hi : i < len then (each i hi).choose else [], fun i hi => ?_⟩
   simp only [dif_pos hi]
   exact (each i hi).choose_spec
  obtain ⟨f, hfn⟩ := choice
  have hlen : len ≤ 140737488351232 := by
   have h1 := hsz
   rw [hx] at h1
   have h2 := h1.length hu
   simp only [List.length_map, List.length_range] at h2
   have h3 := Nat.mul_le_mul_left (len + (m - len)) hby
   omega
  refine ⟨some a, (List.range len).map f, m, by simp, ?_, by simp; omega, And.intro (fun e => by cases e) (by simp; omega), fun v hv => ?_⟩
  ·intro k hk
   have hk' : k < len := by simpa using hk
   have hspec := hfn k hk'
   have hspot : a.spot = none := by
    have h0 : 0 < len := by omega
    have h1 := (hfn 0 h0).2.1
    have h2 := (hfn 0 h0).1 0 ((f 0)[0]'(by omega)) (List.getElem?_eq_getElem _)
    have := World.cell?_spot h2
    simpa [Addr.add] using this
   obtain ⟨ab, ao, asp⟩ := a
   simp only at hspot
   subst hspot
   refine ⟨ab, ao, rfl, fun j u hu => ?_⟩
   have e : ((List.range len).map f)[k] = f k := by simp
   rw [e] at hu
   have h3 := hspec.1 j u hu
   rw [add_plain] at h3
   rw [Nat.add_assoc]
   exact h3
  ·obtain ⟨i, hi, rfl⟩ := List.mem_map.1 hv
   exact (hfn i (List.mem_range.1 hi)).2
/-- An argument of one cell. -/
theorem came_of {ty : TypeId} {c : Value} {d : DataW H} {p : List MemPlace} (h : DataW.Trod enc P W 0 (fun _ => true) true ty c d p) (hs : Base.Small P ty d) (hc : c.cells.toList = [c]) : Came P enc W ty c := by
 obtain ⟨fuel, hf⟩ := h
 rw [hc] at hf
 exact ⟨fuel, _, hf, hs⟩
end
end Go.Proofs.Ytjeogeablbkhgaa.Mem
