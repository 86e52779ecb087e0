/-
  Layer 6's laws: a case (items and nodes) that came in. Conditions: none.
-/
import Derived.Test.YtphgnglbniclgaaItemMem
namespace Go.Proofs.Ytphgnglbniclgaa.Item
open Go.ChangeShapes Go.WideShapes Go.ChangeAt Go.RowKit Go.Deep Go.Proofs.Ytphgnglbniclgaa.Mem

theorem cellsCase : Try.prog.cellsOf 27 = 2 := by kernel_rfl
theorem open_case {H : Type} {enc : TypeId × Value → H} {W : World} {base : Nat} {v : Value} {d : DataW H} {p : List MemPlace}
    (hv : Value.okWide Try.prog W .any base 27 v) (h : DataW.Trod enc Try.prog W 0 (fun _ => true) true 27 v d p) :
    ∃ (A B : Option Addr) (l : List It) (ns : List Int) (c d : Nat), v = .agg #[.slice A l.length c, .slice B ns.length d] ∧ Items W A l ∧ l.length ≤ maxLen ∧ (∀ x ∈ l, x.ok) ∧ Cap A l.length c ∧ Nums W B ns ∧ ns.length ≤ maxLen ∧ (∀ x ∈ ns, I64 x) ∧ Cap B ns.length d := by
  obtain ⟨c0, c1, y0, y1, m, rfl, _, _, h0, h1⟩ := Go.Joins.open_agg2 Try.underlying27 (by kernel_rfl) cellsCase hv h
  obtain ⟨A, n, c, e0⟩ := Go.Joins.slice_form Try.underlying24 h0
  obtain ⟨B, k, d, e1⟩ := Go.Joins.slice_form Try.underlying25 h1
  obtain rfl : c0 = .slice A n c := by simpa using e0
  obtain rfl : c1 = .slice B k d := by simpa using e1
  obtain ⟨l, rfl, a1, a2, a3, a4⟩ := items_trod h0
  obtain ⟨ns, rfl, b1, b2, b3, b4⟩ := nums_trod h1
  exact ⟨A, B, l, ns, c, d, rfl, a1, a2, a3, a4, b1, b2, b3, b4⟩
end Go.Proofs.Ytphgnglbniclgaa.Item
