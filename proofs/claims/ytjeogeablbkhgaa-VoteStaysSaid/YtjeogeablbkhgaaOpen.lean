/-
  How a slice of whole numbers that came in is opened. No program is named. Conditions: none of its own.
-/
import Derived.Test.YtjeogeablbkhgaaBase
import Derived.ChangeSlices
namespace Go.Proofs.Ytjeogeablbkhgaa.Base
open Go.ChangeShapes Go.WideShapes Go.ChangeAt Go.RowKit

theorem open_nums {H : Type} {enc : TypeId × Value → H} {P : Program} {t e : TypeId} {k : IntKind} (ht : P.underlying t = some (.slice e)) (he : P.underlying e = some (.int k)) (hc : P.cellsOf e = 1)
    {W : World} {base : Nat} {v : Value} {d : DataW H} {p : List MemPlace} (hv : Value.okWide P W .any base t v) (h : DataW.Trod enc P W 0 (fun _ => true) true t v d p) :
    ∃ (A : Option Addr) (f : Nat → Int) (len cap : Nat), v = .slice A len cap ∧ len ≤ maxLen ∧ (A = none → cap = 0) ∧ ∀ i, i < len → (∃ b off, A = some ⟨b, off, none⟩ ∧ W.cell? ⟨b, off + i, none⟩ = some (.int k (f i))) ∧ (Lit.int k (f i)).wf = true := by
  obtain ⟨a0, len, cap, rfl⟩ := okWide_slice ht hv
  obtain ⟨fuel, hf⟩ := h
  rcases open_ints ht he hc hf with ⟨hcs, hx⟩ | ⟨a, len', cap', zs, hcs, _, hl, hm, hz, hx, hcell, hwz⟩
  · simp [Value.cells] at hcs
    obtain ⟨rfl, rfl, rfl⟩ := hcs
    exact ⟨none, fun _ => 0, 0, 0, rfl, Nat.zero_le _, fun _ => rfl, fun i hi => absurd hi (by omega)⟩
  · simp [Value.cells] at hcs
    obtain ⟨rfl, rfl, rfl⟩ := hcs
    simp only [if_true] at hz
    refine ⟨some a, fun i => zs.getD i 0, len, cap, rfl, by omega, fun h => (by cases h), fun i hi => ⟨?_, ?_⟩⟩
    · have h1 := hcell i (by omega)
      obtain ⟨ab, ao, spot⟩ := a
      have hspot : spot = none := by
        have h0 := World.cell?_spot (hcell 0 (by omega))
        simpa [Addr.add] using h0
      subst hspot
      refine ⟨ab, ao, rfl, ?_⟩
      rw [← h1]
      congr 1
      unfold Addr.add
      by_cases h0 : i = 0
      · subst h0; rfl
      · rw [if_neg h0]
    · exact hwz _ (by
        show zs.getD i 0 ∈ zs
        rw [List.getD_eq_getElem?_getD, List.getElem?_eq_getElem (by omega)]
        exact List.getElem_mem _)
end Go.Proofs.Ytjeogeablbkhgaa.Base
