/-
  Layer 15's laws: the document's example; ints and bytes that came in. Conditions: none.
-/
import Derived.Test.YtbchgnlfkcgklaaSpn7
import Derived.Deep.DeepHandedRow
import Derived.Lib.LaidTab
namespace Go.Proofs.Ytbchgnlfkcgklaa.Spn
set_option maxRecDepth 100000
open Go.ChangeShapes Go.WideShapes Go.ChangeAt Go.RowKit Go.Deep Go.Proofs.Ytbchgnlfkcgklaa.Mem

section
variable {H : Type} {enc : TypeId × Value → H} {W : World}
theorem arg_int {base : Nat} {v : Value} {d : DataW H} {p : List MemPlace} (hv : Value.okWide Try.prog W .any base 3 v) (h : DataW.Trod enc Try.prog W 0 (fun _ => true) true 3 v d p) : ∃ n : Int, v = .int .i64 n ∧ -9223372036854775808 ≤ n ∧ n ≤ 9223372036854775807 := by
  obtain ⟨n, rfl⟩ := okWide_int Try.underlying3 hv
  obtain ⟨fuel, hf⟩ := h
  obtain ⟨x, e, _, hw⟩ := DataW.trod_int Try.underlying3 hf
  simp [Value.cells] at e
  subst e
  have h1 : IntKind.i64.min = -9223372036854775808 := rfl
  have h2 : IntKind.i64.max = 9223372036854775807 := rfl
  simp only [Lit.wf, Bool.and_eq_true, decide_eq_true_eq, h1, h2] at hw
  exact ⟨_, rfl, hw⟩
theorem arg_u8 {base : Nat} {v : Value} {d : DataW H} {p : List MemPlace} (hv : Value.okWide Try.prog W .any base 5 v) (h : DataW.Trod enc Try.prog W 0 (fun _ => true) true 5 v d p) : ∃ n : Nat, v = .int .u8 (n : Int) ∧ n ≤ 255 := by
  obtain ⟨n, rfl⟩ := okWide_int Try.underlying5 hv
  obtain ⟨fuel, hf⟩ := h
  obtain ⟨x, e, _, hw⟩ := DataW.trod_int Try.underlying5 hf
  simp [Value.cells] at e
  subst e
  have h1 : IntKind.u8.min = 0 := rfl
  have h2 : IntKind.u8.max = 255 := rfl
  simp only [Lit.wf, Bool.and_eq_true, decide_eq_true_eq, h1, h2] at hw
  exact ⟨n.toNat, by rw [Int.toNat_of_nonneg hw.1], by omega⟩
end
theorem awake_any (w : World) : Calls Try.prog 7 #[] w fun e w' => e = .returned (.bool true) ∧ Below w.heap.size w w' := by
  have HP := Lib.hid (Path_any 4 3 7 w)
  rw [show pathI 4 3 7 = [4, 2, 1, 3] by decide] at HP
  go_enter Try.func7, Try.ntmps7
  go_wp2_with fail
  refine HP.out.mono ?_
  rintro e w1 ⟨v, rfl, hrow, hb1⟩
  obtain ⟨A, c, rfl, hir, _, _⟩ := hrow.islice
  obtain ⟨w2, hw2⟩ : ∃ W, W = w1.alloc (.cells #[.int .i64 4, .int .i64 2, .int .i64 1, .int .i64 3] 3) := ⟨_, rfl⟩
  have hb2 : Below w1.heap.size w1 w2 := by rw [hw2]; exact below_alloc _ _
  have hc2 : Cells w2 w1.heap.size 3 [.int .i64 4, .int .i64 2, .int .i64 1, .int .i64 3] := by rw [hw2]; exact cells_new _ _ _ _ rfl
  have hir2 : IRow w2 (some ⟨w1.heap.size, 0, none⟩) [4, 2, 1, 3] := fun k hk => by
    refine ⟨w1.heap.size, 0, rfl, ?_⟩
    rw [Nat.zero_add]
    match k, hk with
    | 0, _ => exact hc2.cell rfl
    | 1, _ => exact hc2.cell rfl
    | 2, _ => exact hc2.cell rfl
    | 3, _ => exact hc2.cell rfl
  have HS := Lib.hid (Same_any A (some ⟨w1.heap.size, 0, none⟩) [4, 2, 1, 3] [4, 2, 1, 3] c 4 w2 (hir.later hb2) hir2 (by decide))
  have HB2 := Lib.hid (hb1.trans (hb2.mono hb1.size))
  clear hrow hb1 hir hb2 hc2 hir2 HP
  go_wp2_with (rw [← hw2])
  refine HS.out.mono ?_
  rintro e w3 ⟨rfl, hb3⟩
  have HF := Lib.hid (Far_any 7 w3)
  rw [show farI 7 = 4 by decide] at HF
  have HB3 := Lib.hid (HB2.out.trans (hb3.mono HB2.out.size))
  clear hb3 hw2 HS
  go_wp2_with fail
  refine HF.out.mono ?_
  rintro e w4 ⟨rfl, hb4⟩
  have HPA := Lib.hid (Parent_any 7 (by decide) w4)
  rw [show parI 7 = 3 by decide] at HPA
  have HB4 := Lib.hid (HB3.out.trans (hb4.mono HB3.out.size))
  clear hb4 HF
  go_wp2_with fail
  refine HPA.out.mono ?_
  rintro e w5 ⟨rfl, rfl⟩
  go_wp2_with fail
  go_returns
  exact ⟨rfl, HB4.out⟩
end Go.Proofs.Ytbchgnlfkcgklaa.Spn
