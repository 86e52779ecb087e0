/-
  Layer 10's laws: a record that came in; the law's own small functions. Conditions: none.
-/
import Derived.Test.YtfnkjdkckpdfhaaMsgEnc
namespace Go.Proofs.Ytfnkjdkckpdfhaa.Msg
set_option maxRecDepth 100000
open Go.ChangeShapes Go.WideShapes Go.ChangeAt Go.RowKit Go.Deep Go.Proofs.Ytfnkjdkckpdfhaa.Mem Go.Proofs.Ytfnkjdkckpdfhaa.Item Go.Proofs.Ytfnkjdkckpdfhaa.Wire

theorem structRec : ∃ f0 f1 f2 f3 f4 f5 f6 f7 f8 f9 f10 : Field, Try.prog.underlying 27 = some (.struct #[f0, f1, f2, f3, f4, f5, f6, f7, f8, f9, f10]) ∧
    (f0.type = 3 ∧ f1.type = 23 ∧ f2.type = 24 ∧ f3.type = 25 ∧ f4.type = 3 ∧ f5.type = 3 ∧ f6.type = 3 ∧ f7.type = 3 ∧ f8.type = 3 ∧ f9.type = 3 ∧ f10.type = 4) ∧
    (f0.offset = 0 ∧ f1.offset = 1 ∧ f2.offset = 4 ∧ f3.offset = 5 ∧ f4.offset = 6 ∧ f5.offset = 7 ∧ f6.offset = 8 ∧ f7.offset = 9 ∧ f8.offset = 10 ∧ f9.offset = 11 ∧ f10.offset = 12) :=
  ⟨_, _, _, _, _, _, _, _, _, _, _, Try.underlying27, ⟨rfl, rfl, rfl, rfl, rfl, rfl, rfl, rfl, rfl, rfl, rfl⟩, ⟨rfl, rfl, rfl, rfl, rfl, rfl, rfl, rfl, rfl, rfl, rfl⟩⟩
theorem cellsRec : Try.prog.cellsOf 27 = 13 := by kernel_rfl
theorem cellsInt : Try.prog.cellsOf 3 = 1 := by kernel_rfl
theorem cellsBool : Try.prog.cellsOf 4 = 1 := by kernel_rfl
theorem cellsItems : Try.prog.cellsOf 24 = 1 := by kernel_rfl
theorem cellsInts : Try.prog.cellsOf 25 = 1 := by kernel_rfl
theorem array13 {α : Type} {cs : Array α} (h : cs.size = 13) : ∃ c0 c1 c2 c3 c4 c5 c6 c7 c8 c9 c10 c11 c12, cs = #[c0, c1, c2, c3, c4, c5, c6, c7, c8, c9, c10, c11, c12] := by
  obtain ⟨l⟩ := cs
  match l, h with
  | [c0, c1, c2, c3, c4, c5, c6, c7, c8, c9, c10, c11, c12], _ => exact ⟨c0, c1, c2, c3, c4, c5, c6, c7, c8, c9, c10, c11, c12, rfl⟩
theorem list11 {α : Type} {cs : List α} (h : cs.length = 11) : ∃ c0 c1 c2 c3 c4 c5 c6 c7 c8 c9 c10, cs = [c0, c1, c2, c3, c4, c5, c6, c7, c8, c9, c10] := by
  match cs, h with
  | [c0, c1, c2, c3, c4, c5, c6, c7, c8, c9, c10], _ => exact ⟨c0, c1, c2, c3, c4, c5, c6, c7, c8, c9, c10, rfl⟩
section
variable {H : Type} {enc : TypeId × Value → H} {W : World}
theorem int_cell {m : Nat} {c : Value} {y : DataW H × List MemPlace} (h : DataW.trod enc Try.prog W 0 (fun _ => true) true m 3 [c] = some y) : ∃ x, c = .int .i64 x ∧ I64 x := by
  obtain ⟨x, q, _, wf⟩ := DataW.trod_int Try.underlying3 h
  simp at q
  exact ⟨x, q, i64_wf wf⟩
theorem bool_cell {m : Nat} {c : Value} {y : DataW H × List MemPlace} (h : DataW.trod enc Try.prog W 0 (fun _ => true) true m 4 [c] = some y) : ∃ x, c = .bool x := by
  obtain ⟨x, q, _⟩ := DataW.trod_bool Try.underlying4 h
  simp at q
  exact ⟨x, q⟩
/-- A record that came in. -/
theorem open_rec {base : Nat} {v : Value} {d : DataW H} {p : List MemPlace}
    (hv : Value.okWide Try.prog W .any base 27 v) (h : DataW.Trod enc Try.prog W 0 (fun _ => true) true 27 v d p) : ∃ (r : Rc) (y : Lay), v = r.val y ∧ Has W r y ∧ r.ok ∧ r.items.length ≤ maxLen ∧ r.nodes.length ≤ maxLen := by
  obtain ⟨f0, f1, f2, f3, f4, f5, f6, f7, f8, f9, f10, hst, ⟨e0, e1, e2, e3, e4, e5, e6, e7, e8, e9, e10⟩, o0, o1, o2, o3, o4, o5, o6, o7, o8, o9, o10⟩ := structRec
  obtain ⟨cs, rfl, hsz⟩ := okWide_struct hst hv
  obtain ⟨c0, c1, c2, c3, c4, c5, c6, c7, c8, c9, c10, c11, c12, rfl⟩ := array13 (hsz.trans cellsRec)
  obtain ⟨fuel, hf⟩ := h
  obtain ⟨xs, n, _, _, hlen, hxl, hg⟩ := DataW.trod_struct hst hf
  obtain ⟨y0, y1, y2, y3, y4, y5, y6, y7, y8, y9, y10, rfl⟩ := list11 hxl
  have g0 := hg 0 f0 rfl
  have g1 := hg 1 f1 rfl
  have g2 := hg 2 f2 rfl
  have g3 := hg 3 f3 rfl
  have g4 := hg 4 f4 rfl
  have g5 := hg 5 f5 rfl
  have g6 := hg 6 f6 rfl
  have g7 := hg 7 f7 rfl
  have g8 := hg 8 f8 rfl
  have g9 := hg 9 f9 rfl
  have g10 := hg 10 f10 rfl
  rw [e0, o0, cellsInt] at g0
  rw [e1, o1, cellsTid] at g1
  rw [e2, o2, cellsItems] at g2
  rw [e3, o3, cellsInts] at g3
  rw [e4, o4, cellsInt] at g4
  rw [e5, o5, cellsInt] at g5
  rw [e6, o6, cellsInt] at g6
  rw [e7, o7, cellsInt] at g7
  rw [e8, o8, cellsInt] at g8
  rw [e9, o9, cellsInt] at g9
  rw [e10, o10, cellsBool] at g10
  obtain ⟨x0, rfl, w0⟩ := int_cell (c := c0) g0
  obtain ⟨F0, F1, F2, hts, hone, t0, t1, t2⟩ : ∃ F0 F1 F2 : Field, Try.prog.underlying 23 = some (.struct #[F0, F1, F2]) ∧ oneCellFields Try.prog #[F0, F1, F2] = true ∧ F0.type = 3 ∧ F1.type = 3 ∧ F2.type = 3 := ⟨_, _, _, Try.underlying23, by kernel_rfl, rfl, rfl, rfl⟩
  obtain ⟨z0, z1, z2, m, _, _, h0, h1, h2⟩ := trod_struct3 hts g1
  obtain ⟨O0, K0⟩ := hone_of hone 0 F0 rfl
  obtain ⟨O1, K1⟩ := hone_of hone 1 F1 rfl
  obtain ⟨O2, K2⟩ := hone_of hone 2 F2 rfl
  rw [O0, K0, t0] at h0
  rw [O1, K1, t1] at h1
  rw [O2, K2, t2] at h2
  obtain ⟨x1, rfl, w1⟩ := int_cell (c := c1) h0
  obtain ⟨x2, rfl, w2⟩ := int_cell (c := c2) h1
  obtain ⟨x3, rfl, w3⟩ := int_cell (c := c3) h2
  change DataW.trod enc Try.prog W 0 (fun _ => true) true n 24 [c4] = some y2 at g2
  change DataW.trod enc Try.prog W 0 (fun _ => true) true n 25 [c5] = some y3 at g3
  obtain ⟨A, L, cc, q4⟩ := Go.Joins.slice_form Try.underlying24 g2
  obtain ⟨B, M, dd, q5⟩ := Go.Joins.slice_form Try.underlying25 g3
  obtain rfl : c4 = .slice A L cc := by simpa using q4
  obtain rfl : c5 = .slice B M dd := by simpa using q5
  obtain ⟨its, rfl, a1, a2, a3, a4⟩ := items_trod g2
  obtain ⟨nds, rfl, b1, b2, b3, b4⟩ := nums_trod g3
  obtain ⟨x6, rfl, w6⟩ := int_cell (c := c6) g4
  obtain ⟨x7, rfl, w7⟩ := int_cell (c := c7) g5
  obtain ⟨x8, rfl, w8⟩ := int_cell (c := c8) g6
  obtain ⟨x9, rfl, w9⟩ := int_cell (c := c9) g7
  obtain ⟨x10, rfl, w10⟩ := int_cell (c := c10) g8
  obtain ⟨x11, rfl, w11⟩ := int_cell (c := c11) g9
  obtain ⟨x12, rfl⟩ := bool_cell (c := c12) g10
  exact ⟨⟨x0, ⟨x1, x2, x3⟩, its, nds, x6, x7, x8, x9, x10, x11, x12⟩, ⟨A, cc, B, dd⟩, rfl, ⟨a1, b1⟩, ⟨w0, ⟨w1, w2, w3⟩, a3, b3, w6, w7, w8, w9, w10, w11⟩, a2, b2⟩
end

theorem plain_any (r : Rc) (y : Lay) (w : World) : Calls Try.prog 9 #[r.val y] w fun e w' => e = .returned (r.val y) ∧ Below w.heap.size w w' := by
  obtain ⟨k, ⟨t1, t2, t3⟩, its, nds, a0, a1, a2, a3, a4, a5, yes⟩ := r
  obtain ⟨A, c, B, d⟩ := y
  generalize hL : its.length = L
  generalize hM : nds.length = M
  unfold Rc.val
  simp only [hL, hM]
  clear hL hM
  go_enter Try.func9, Try.ntmps9
  go_wp2
  go_returns
  exact ⟨rfl, Go.Joins.below_alloc2 _ _ _⟩
def rcEnd : Rc := ⟨1, ⟨0, 0, 0⟩, [], [], 3, 0, 0, 0, 0, 0, false⟩
theorem enc_end : enc rcEnd = ([1, 0, 0, 0, 0, 0, 0, 0, 3], 0) := by decide
theorem rawake_any (w : World) : Calls Try.prog 6 #[] w fun e w' => e = .returned (.bool true) ∧ Below w.heap.size w w' := by
  have HE := encode_any rcEnd lay0 w ⟨items_nil _ _, nums_nil _ _⟩ (by decide) (by decide)
  rw [enc_end] at HE
  have HE := Lib.hid HE
  go_enter Try.func6, Try.ntmps6
  go_wp2_with fail
  refine HE.out.mono ?_
  rintro e w1 ⟨rfl, hb1⟩
  have HB1 := Lib.hid hb1
  clear hb1
  simp only [bs]
  go_wp2
  go_returns
  exact ⟨rfl, HB1.out⟩
theorem great_any (r : Rc) (y : Lay) (w : World) : Calls Try.prog 7 #[r.val y] w fun e w' => e = .returned (.bool (decide (60 < r.items.length) || decide (60 < r.nodes.length))) ∧ Below w.heap.size w w' := by
  obtain ⟨k, ⟨t1, t2, t3⟩, its, nds, a0, a1, a2, a3, a4, a5, yes⟩ := r
  obtain ⟨A, c, B, d⟩ := y
  generalize hL : its.length = L
  generalize hM : nds.length = M
  unfold Rc.val
  simp only [hL, hM]
  clear hL hM
  by_cases h1 : 60 < L
  · rw [decide_eq_true h1, Bool.true_or]
    go_enter Try.func7, Try.ntmps7
    go_wp2
    go_returns
    exact ⟨rfl, below_alloc _ _⟩
  · rw [decide_eq_false h1, Bool.false_or]
    by_cases h2 : 60 < M
    · rw [decide_eq_true h2]
      go_enter Try.func7, Try.ntmps7
      go_wp2
      go_returns
      exact ⟨ret_bool (by simp; omega), below_alloc _ _⟩
    · rw [decide_eq_false h2]
      go_enter Try.func7, Try.ntmps7
      go_wp2
      go_returns
      exact ⟨ret_bool (by simp; omega), below_alloc _ _⟩
end Go.Proofs.Ytfnkjdkckpdfhaa.Msg
