/-
  Layer 12's laws: keys and operations that came in; awake. Conditions: none.
-/
import Derived.Test.YtnbdgjaekjneaaaWhlTick
import Derived.Test.YtnbdgjaekjneaaaOpenS
namespace Go.Proofs.Ytnbdgjaekjneaaa.Whl
set_option maxRecDepth 100000
open Go.ChangeShapes Go.WideShapes Go.ChangeAt Go.RowKit Go.Deep Go.Proofs.Ytnbdgjaekjneaaa.Mem

section
variable {H : Type} {enc : TypeId × Value → H} {W : World}
theorem cellsKey : Try.prog.cellsOf 34 = 6 := by kernel_rfl
theorem cellsTid : Try.prog.cellsOf 32 = 3 := by kernel_rfl
theorem cellsInt : Try.prog.cellsOf 3 = 1 := by kernel_rfl
abbrev I64 (x : Int) : Prop := -9223372036854775808 ≤ x ∧ x ≤ 9223372036854775807
theorem i64_wf {x : Int} (h : (Lit.int .i64 x).wf = true) : I64 x := by
  have h1 : IntKind.i64.min = -9223372036854775808 := rfl
  have h2 : IntKind.i64.max = 9223372036854775807 := rfl
  simp only [Lit.wf, Bool.and_eq_true, decide_eq_true_eq, h1, h2] at h
  exact h
theorem cameS_int {c : Value} (h : CameS Try.prog enc W 3 [c]) : ∃ x, c = .int .i64 x ∧ I64 x := by
  obtain ⟨x, e, hx⟩ := h.one.int Try.underlying3
  exact ⟨x, e, i64_wf hx⟩
theorem came_key {cs : List Value} (h : CameS Try.prog enc W 34 cs) : ∃ k : Ky, cs = k.vals ∧ True := by
  obtain ⟨f0, f1, f2, f3, hst, e0, e1, e2, e3, o0, o1, o2, o3⟩ : ∃ f0 f1 f2 f3 : Field, Try.prog.underlying 34 = some (.struct #[f0, f1, f2, f3]) ∧ f0.type = 3 ∧ f1.type = 3 ∧ f2.type = 3 ∧ f3.type = 32 ∧ f0.offset = 0 ∧ f1.offset = 1 ∧ f2.offset = 2 ∧ f3.offset = 3 :=
    ⟨_, _, _, _, Try.underlying34, rfl, rfl, rfl, rfl, rfl, rfl, rfl, rfl⟩
  obtain ⟨hlen, hf⟩ := h.fields hst
  rw [cellsKey] at hlen
  match cs, hlen with
  | [c0, c1, c2, c3, c4, c5], _ =>
    have g0 := hf 0 f0 rfl
    have g1 := hf 1 f1 rfl
    have g2 := hf 2 f2 rfl
    have g3 := hf 3 f3 rfl
    rw [e0, o0, cellsInt] at g0
    rw [e1, o1, cellsInt] at g1
    rw [e2, o2, cellsInt] at g2
    rw [e3, o3, cellsTid] at g3
    obtain ⟨x0, rfl, _⟩ := cameS_int g0
    obtain ⟨x1, rfl, _⟩ := cameS_int g1
    obtain ⟨x2, rfl, _⟩ := cameS_int g2
    obtain ⟨i0, i1, i2, hit, t0, t1, t2, p0, p1, p2⟩ : ∃ f0 f1 f2 : Field, Try.prog.underlying 32 = some (.struct #[f0, f1, f2]) ∧ f0.type = 3 ∧ f1.type = 3 ∧ f2.type = 3 ∧ f0.offset = 0 ∧ f1.offset = 1 ∧ f2.offset = 2 :=
      ⟨_, _, _, Try.underlying32, rfl, rfl, rfl, rfl, rfl, rfl⟩
    obtain ⟨_, hf3⟩ := g3.fields hit
    have k0 := hf3 0 i0 rfl
    have k1 := hf3 1 i1 rfl
    have k2 := hf3 2 i2 rfl
    rw [t0, p0, cellsInt] at k0
    rw [t1, p1, cellsInt] at k1
    rw [t2, p2, cellsInt] at k2
    obtain ⟨x3, rfl, _⟩ := cameS_int k0
    obtain ⟨x4, rfl, _⟩ := cameS_int k1
    obtain ⟨x5, rfl, _⟩ := cameS_int k2
    exact ⟨⟨x0, x1, x2, x3, x4, x5⟩, rfl, trivial⟩
/-- A key that came in by value. -/
theorem arg_key {base : Nat} {v : Value} {d : DataW H} {p : List MemPlace} (hv : Value.okWide Try.prog W .any base 34 v) (h : DataW.Trod enc Try.prog W 0 (fun _ => true) true 34 v d p) (hs : Base.Small Try.prog 34 d) : ∃ k : Ky, v = k.val := by
  obtain ⟨cs, rfl, hc⟩ := came_arg hv h hs Try.underlying34
  obtain ⟨k, rfl, _⟩ := came_key hc
  exact ⟨k, rfl⟩
theorem arg_int {base : Nat} {v : Value} {d : DataW H} {p : List MemPlace} (hv : Value.okWide Try.prog W .any base 3 v) (h : DataW.Trod enc Try.prog W 0 (fun _ => true) true 3 v d p) : ∃ n : Int, v = .int .i64 n ∧ I64 n := by
  obtain ⟨n, rfl⟩ := okWide_int Try.underlying3 hv
  obtain ⟨fuel, hf⟩ := h
  obtain ⟨x, e, _, hw⟩ := DataW.trod_int Try.underlying3 hf
  simp [Value.cells] at e
  subst e
  exact ⟨_, rfl, i64_wf hw⟩
end
set_option maxHeartbeats 1000000 in
theorem awake_any (w : World) : Calls Try.prog 7 #[] w fun e w' => e = .returned (.bool true) ∧ Below w.heap.size w w' := by
  have HC := Lib.hid (New_any w)
  go_enter Try.func7, Try.ntmps7
  go_wp2_with fail
  refine HC.out.mono ?_
  rintro e w1 ⟨rfl, h1, hb1⟩
  obtain ⟨k, hk⟩ : ∃ k : Ky, k = ⟨1, 0, 0, 0, 0, 0⟩ := ⟨_, rfl⟩
  obtain ⟨w2, hw2⟩ : ∃ W, W = w1.alloc (.cells #[.int .i64 1, .int .i64 0, .int .i64 0, .int .i64 0, .int .i64 0, .int .i64 0] 34) := ⟨_, rfl⟩
  have hb2 : Below w1.heap.size w1 w2 := by rw [hw2]; exact below_alloc _ _
  have hc2 : Cells w2 w1.heap.size 34 (Ky.vals ⟨1, 0, 0, 0, 0, 0⟩) := by rw [hw2]; exact cells_new _ _ _ _ rfl
  have x0 := hc2.cell (j := 0) rfl
  have x1 := hc2.cell (j := 1) rfl
  have x2 := hc2.cell (j := 2) rfl
  have x3 := hc2.cell (j := 3) rfl
  have x4 := hc2.cell (j := 4) rfl
  have x5 := hc2.cell (j := 5) rfl
  dsimp only at x0 x1 x2 x3 x4 x5
  have HB2 := Lib.hid (hb1.trans (hb2.mono hb1.size))
  have HH2 := Lib.hid (h1.later hb2)
  have HS := Lib.hid (SetC_any HH2.out ⟨1, 0, 0, 0, 0, 0⟩ 2 HB2.out.size List.Pairwise.nil (Int.le_refl _) (by decide))
  rw [show setC ⟨0, []⟩ ⟨1, 0, 0, 0, 0, 0⟩ 2 = (0, ⟨0, [(⟨1, 0, 0, 0, 0, 0⟩, 2)]⟩) by decide] at HS
  unfold Ky.val at HS
  clear h1 hb1 hb2 hc2 HC hk
  go_upto_region 3 with (fail)
  rw [← hw2]
  clear hw2
  go_wp2_with fail
  refine HS.out.mono ?_
  rintro e w3 ⟨rfl, A3, ac3, h3, ho3, hg3⟩
  have HB3 := Lib.hid (HB2.out.trans (ho3.below (B := w.heap.size) HB2.out.size fun k e => by
    rcases e with e | e
    · rw [e]; exact Nat.le_refl _
    · cases e))
  have HT := Lib.hid (TickC_any h3 HB3.out.size (by simp) (Int.le_refl _))
  rw [show tickC ⟨0, [(⟨1, 0, 0, 0, 0, 0⟩, 2)]⟩ = ([], ⟨1, [(⟨1, 0, 0, 0, 0, 0⟩, 2)]⟩) by decide] at HT
  have HH3 := Lib.hid h3
  clear ho3 hg3 h3 x0 x1 x2 x3 x4 x5 HS HH2
  go_wp2_with fail
  refine HT.out.mono ?_
  rintro e w4 ⟨v, rfl, hown, h4, ho4⟩
  obtain ⟨V, c, rfl⟩ := row_slice hown
  have HB4 := Lib.hid (HB3.out.trans (ho4.below (B := w.heap.size) HB3.out.size fun k e => by
    rcases e with e | e
    · rw [e]; exact Nat.le_refl _
    · exact (HH3.out.row.lt k (by rw [own_blk]; exact e.symm)).1))
  have HT2 := Lib.hid (TickC_any h4 HB4.out.size (by simp) (by decide))
  rw [show tickC ⟨1, [(⟨1, 0, 0, 0, 0, 0⟩, 2)]⟩ = ([⟨1, 0, 0, 0, 0, 0⟩], ⟨2, []⟩) by decide] at HT2
  have HH4 := Lib.hid h4
  clear hown ho4 h4 HT
  go_wp2_with fail
  refine HT2.out.mono ?_
  rintro e w5 ⟨v, rfl, hown, h5, ho5⟩
  obtain ⟨V5, c5, rfl⟩ := row_slice hown
  have HB5 := Lib.hid (HB4.out.trans (ho5.below (B := w.heap.size) HB4.out.size fun k e => by
    rcases e with e | e
    · rw [e]; exact Nat.le_refl _
    · exact (HH4.out.row.lt k (by rw [own_blk]; exact e.symm)).1))
  have HN := Lib.hid (Now_any h5)
  clear hown ho5 h5 HT2
  go_wp2_with fail
  refine HN.out.mono ?_
  rintro e w6 ⟨rfl, rfl⟩
  go_wp2_with fail
  go_returns
  exact ⟨rfl, HB5.out⟩
end Go.Proofs.Ytnbdgjaekjneaaa.Whl
