/-
  A slice of bytes, and a byte, that came in. Conditions: none.
-/
import Derived.Test.YtjeogeablbkhgaaOpenS
import Derived.Test.YtjeogeablbkhgaaOpen
namespace Go.Proofs.Ytjeogeablbkhgaa.Mem
set_option maxRecDepth 100000
open Go.ChangeShapes Go.WideShapes Go.ChangeAt Go.RowKit Go.Deep

/-- Bytes that came in. -/
def U8s (w : World) (A : Option Addr) (ks : List Int) : Prop := ∀ i (h : i < ks.length), ∃ b off, A = some ⟨b, off, none⟩ ∧ w.cell? ⟨b, off + i, none⟩ = some (.int .u8 ks[i])
theorem U8s.later {w w' : World} {A : Option Addr} {ks : List Int} (h : U8s w A ks) (hb : Below w.heap.size w w') : U8s w' A ks := fun i hi => by
  obtain ⟨b, off, e, hc⟩ := h i hi
  exact ⟨b, off, e, (hb.cell (block_of_cell hc)).trans hc⟩
section
variable {H : Type} {enc : TypeId × Value → H} {W : World}
theorem u8_wf {x : Int} (h : (Lit.int .u8 x).wf = true) : 0 ≤ x ∧ x ≤ 255 := by
  have h1 : IntKind.u8.min = 0 := rfl
  have h2 : IntKind.u8.max = 255 := rfl
  simp only [Lit.wf, Bool.and_eq_true, decide_eq_true_eq, h1, h2] at h
  exact h
theorem arg_u8 {base : Nat} {v : Value} {d : DataW H} {p : List MemPlace} (hv : Value.okWide Try.prog W .any base 5 v) (h : DataW.Trod enc Try.prog W 0 (fun _ => true) true 5 v d p) : ∃ n : Int, v = .int .u8 n ∧ 0 ≤ n ∧ n ≤ 255 := by
  obtain ⟨n, rfl⟩ := okWide_int Try.underlying5 hv
  obtain ⟨fuel, hf⟩ := h
  obtain ⟨x, e, _, hw⟩ := DataW.trod_int Try.underlying5 hf
  simp [Value.cells] at e
  subst e
  exact ⟨_, rfl, u8_wf hw⟩
theorem arg_bytes {base : Nat} {v : Value} {d : DataW H} {p : List MemPlace} (hv : Value.okWide Try.prog W .any base 57 v) (h : DataW.Trod enc Try.prog W 0 (fun _ => true) true 57 v d p) (hs : Base.Small Try.prog 57 d) :
    ∃ (A : Option Addr) (ks : List Int) (cap : Nat), v = .slice A ks.length cap ∧ U8s W A ks ∧ (∀ k ∈ ks, 0 ≤ k ∧ k ≤ 255) ∧ ks.length ≤ cap ∧ (A = none → cap = 0) ∧ ks.length ≤ 140737488351232 := by
  obtain ⟨A0, l0, c0, rfl⟩ := okWide_slice Try.underlying57 hv
  obtain ⟨A, vs, cap, e, h1, h2, h3, h4⟩ := (came_of h hs (by simp [Value.cells])).rowsS Try.underlying57 (of_decide_eq_true (by kernel_rfl)) (of_decide_eq_true (by kernel_rfl))
  have hc : Try.prog.cellsOf 5 = 1 := by kernel_rfl
  rw [hc] at h1 h4
  obtain ⟨ks, rfl, hk⟩ := came_each (vals := fun x : Int => [Value.int .u8 x]) (ok := fun x => 0 ≤ x ∧ x ≤ 255) (fun v hv => (h4 v hv).2) fun v hv => by
    obtain ⟨n, y, g1, g2⟩ := hv
    obtain ⟨x, e, _, hw⟩ := DataW.trod_int Try.underlying5 g1
    exact ⟨x, e, u8_wf hw⟩
  rw [List.length_map] at e h2 h3
  rw [e]
  refine ⟨A, ks, cap, rfl, fun i hi => ?_, hk, h3.2, h3.1, h2⟩
  obtain ⟨b, off, e2, hr⟩ := h1 i (by rw [List.length_map]; exact hi)
  rw [List.getElem_map] at hr
  have h5 := hr 0 _ rfl
  rw [Nat.mul_one, Nat.add_zero] at h5
  exact ⟨b, off, e2, h5⟩
end
end Go.Proofs.Ytjeogeablbkhgaa.Mem
