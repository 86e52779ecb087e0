/-
  Layer 18's laws: what came in; how great a script is. Conditions: none.
-/
import Derived.Test.YtiobblmagjbhjaaLeaNew
import Derived.Test.YtiobblmagjbhjaaSameI
import Derived.Test.YtiobblmagjbhjaaOpenS
import Derived.Test.YtiobblmagjbhjaaU8s
namespace Go.Proofs.Ytiobblmagjbhjaa.Lea
set_option maxRecDepth 100000
open Go.ChangeShapes Go.WideShapes Go.ChangeAt Go.RowKit Go.Deep Go.Proofs.Ytiobblmagjbhjaa.Mem

section
variable {H : Type} {enc : TypeId × Value → H} {W : World}
theorem cellsTid : Try.prog.cellsOf 34 = 3 := by kernel_rfl
theorem cellsInt : Try.prog.cellsOf 3 = 1 := by kernel_rfl
abbrev I64 (x : Int) : Prop := -9223372036854775808 ≤ x ∧ x ≤ 9223372036854775807
theorem i64_wf {x : Int} (h : (Lit.int .i64 x).wf = true) : I64 x := by
  have h1 : IntKind.i64.min = -9223372036854775808 := rfl
  have h2 : IntKind.i64.max = 9223372036854775807 := rfl
  simp only [Lit.wf, Bool.and_eq_true, decide_eq_true_eq, h1, h2] at h
  exact h
theorem cameS_int {c : Value} (h : CameS Try.prog enc W 3 [c]) : ∃ x, c = .int .i64 x ∧ I64 x := by
  obtain ⟨x, e, hx⟩ := h.one.int Try.underlying3
  exact ⟨x, e, i64_wf hx⟩
theorem came_tid {cs : List Value} (h : CameS Try.prog enc W 34 cs) : ∃ t : Lt, cs = lt3 t ∧ True := by
  obtain ⟨f0, f1, f2, hst, e0, e1, e2, o0, o1, o2⟩ : ∃ f0 f1 f2 : Field, Try.prog.underlying 34 = some (.struct #[f0, f1, f2]) ∧ f0.type = 3 ∧ f1.type = 3 ∧ f2.type = 3 ∧ f0.offset = 0 ∧ f1.offset = 1 ∧ f2.offset = 2 :=
    ⟨_, _, _, Try.underlying34, rfl, rfl, rfl, rfl, rfl, rfl⟩
  obtain ⟨hlen, hf⟩ := h.fields hst
  rw [cellsTid] at hlen
  match cs, hlen with
  | [c0, c1, c2], _ =>
    have g0 := hf 0 f0 rfl
    have g1 := hf 1 f1 rfl
    have g2 := hf 2 f2 rfl
    rw [e0, o0, cellsInt] at g0
    rw [e1, o1, cellsInt] at g1
    rw [e2, o2, cellsInt] at g2
    obtain ⟨x0, rfl, _⟩ := cameS_int g0
    obtain ⟨x1, rfl, _⟩ := cameS_int g1
    obtain ⟨x2, rfl, _⟩ := cameS_int g2
    exact ⟨⟨x0, x1, x2⟩, rfl, trivial⟩
theorem arg_tid {base : Nat} {v : Value} {d : DataW H} {p : List MemPlace} (hv : Value.okWide Try.prog W .any base 34 v) (h : DataW.Trod enc Try.prog W 0 (fun _ => true) true 34 v d p) (hs : Base.Small Try.prog 34 d) : ∃ t : Lt, v = t.v := by
  obtain ⟨cs, rfl, hc⟩ := came_arg hv h hs Try.underlying34
  obtain ⟨k, rfl, _⟩ := came_tid hc
  exact ⟨k, rfl⟩
theorem arg_int {base : Nat} {v : Value} {d : DataW H} {p : List MemPlace} (hv : Value.okWide Try.prog W .any base 3 v) (h : DataW.Trod enc Try.prog W 0 (fun _ => true) true 3 v d p) : ∃ n : Int, v = .int .i64 n ∧ I64 n := by
  obtain ⟨n, rfl⟩ := okWide_int Try.underlying3 hv
  obtain ⟨fuel, hf⟩ := h
  obtain ⟨x, e, _, hw⟩ := DataW.trod_int Try.underlying3 hf
  simp [Value.cells] at e
  subst e
  exact ⟨_, rfl, i64_wf hw⟩
end
/-- An operation of a script. -/
structure Opl where
  k : Int
  n : Int
  tid : Lt
  A : Option Addr
  ac : Nat
  l : List Int
def Opl.vals (o : Opl) : List Value := [.int .i64 o.k, .int .i64 o.n, .int .i64 o.tid.node, .int .i64 o.tid.epoch, .int .i64 o.tid.seq, .slice o.A o.l.length o.ac]
structure Opl.Ok (w : World) (o : Opl) : Prop where
  is : IRow w o.A o.l
  len : o.l.length ≤ 140737488351232
theorem Opl.Ok.later {w w' : World} {o : Opl} (h : o.Ok w) (hb : Below w.heap.size w w') : o.Ok w' := ⟨h.is.later hb, h.len⟩
theorem irow_lt {w : World} {A : Option Addr} {l : List Int} (h : IRow w A l) (hne : l ≠ []) {k : Nat} (e : blk A = some k) : k < w.heap.size := by
  obtain ⟨b, off, e2, hc⟩ := h 0 (List.length_pos_iff.2 hne)
  subst e2
  have e3 : b = k := Option.some.inj e
  subst e3
  exact block_of_cell hc
section
variable {H : Type} {enc : TypeId × Value → H} {W : World}
theorem cellsOp : Try.prog.cellsOf 37 = 6 := by kernel_rfl
theorem cellsInts : Try.prog.cellsOf 35 = 1 := by kernel_rfl
theorem came_op {cs : List Value} (h : CameS Try.prog enc W 37 cs) : ∃ o : Opl, cs = o.vals ∧ o.Ok W := by
  obtain ⟨f0, f1, f2, f3, hst, e0, e1, e2, e3, o0, o1, o2, o3⟩ : ∃ f0 f1 f2 f3 : Field, Try.prog.underlying 37 = some (.struct #[f0, f1, f2, f3]) ∧ f0.type = 3 ∧ f1.type = 3 ∧ f2.type = 34 ∧ f3.type = 35 ∧ f0.offset = 0 ∧ f1.offset = 1 ∧ f2.offset = 2 ∧ f3.offset = 5 :=
    ⟨_, _, _, _, Try.underlying37, rfl, rfl, rfl, rfl, rfl, rfl, rfl, rfl⟩
  obtain ⟨hlen, hf⟩ := h.fields hst
  rw [cellsOp] at hlen
  match cs, hlen with
  | [c0, c1, c2, c3, c4, c5], _ =>
    have g0 := hf 0 f0 rfl
    have g1 := hf 1 f1 rfl
    have g2 := hf 2 f2 rfl
    have g3 := hf 3 f3 rfl
    rw [e0, o0, cellsInt] at g0
    rw [e1, o1, cellsInt] at g1
    rw [e2, o2, cellsTid] at g2
    rw [e3, o3, cellsInts] at g3
    obtain ⟨x0, rfl, _⟩ := cameS_int g0
    obtain ⟨x1, rfl, _⟩ := cameS_int g1
    have g2' : CameS Try.prog enc W 34 [c2, c3, c4] := g2
    obtain ⟨t, ht, _⟩ := came_tid g2'
    unfold lt3 at ht
    simp only [List.cons.injEq, and_true] at ht
    obtain ⟨rfl, rfl, rfl⟩ := ht
    have g6 : CameS Try.prog enc W 35 [c5] := g3
    obtain ⟨A2, vs2, cap2, rfl, k1, k2, k3, k4⟩ := g6.one.rowsS Try.underlying35 (of_decide_eq_true (by kernel_rfl)) (of_decide_eq_true (by kernel_rfl))
    obtain ⟨l2, rfl, _⟩ := came_each (vals := fun c : Int => [Value.int .i64 c]) (ok := fun _ => True) (fun v hv => (k4 v hv).2) fun v hv => by
      obtain ⟨n, y, q1, q2⟩ := hv
      obtain ⟨x, e, _, hw⟩ := DataW.trod_int Try.underlying3 q1
      exact ⟨x, e, trivial⟩
    rw [cellsInt] at k1
    rw [List.length_map] at k2
    refine ⟨⟨x0, x1, t, A2, cap2, l2⟩, ?_, fun i hi => ?_, k2⟩
    · unfold Opl.vals
      rw [List.length_map]
    · dsimp only at hi ⊢
      obtain ⟨b, off, e, hr⟩ := k1 i (by rw [List.length_map]; exact hi)
      rw [List.getElem_map] at hr
      have h5 := hr 0 _ rfl
      rw [Nat.mul_one, Nat.add_zero] at h5
      exact ⟨b, off, e, h5⟩
/-- The slice whose first cell is at A holds these operations. -/
def Opls (w : World) (A : Option Addr) (os : List Opl) : Prop := Sl w A 6 (os.map Opl.vals) ∧ ∀ o ∈ os, o.Ok w
theorem Opls.later {w w' : World} {A : Option Addr} {os : List Opl} (h : Opls w A os) (hb : Below w.heap.size w w') : Opls w' A os := ⟨h.1.later hb, fun o ho => (h.2 o ho).later hb⟩
theorem Opls.at {w : World} {A : Option Addr} {os : List Opl} (h : Opls w A os) {k : Nat} (hk : k < os.length) : ∃ g off, A = some ⟨g, off, none⟩ ∧ w.rangeAt g (off + k * 6) os[k].vals ∧ os[k].Ok w := by
  obtain ⟨g, off, e, hr⟩ := h.1 k (by rw [List.length_map]; exact hk)
  rw [List.getElem_map] at hr
  exact ⟨g, off, e, hr, h.2 _ (List.getElem_mem hk)⟩
theorem came_ops {c : Value} (h : Came Try.prog enc W 22 c) : ∃ (A : Option Addr) (os : List Opl) (cap : Nat), c = .slice A os.length cap ∧ Opls W A os ∧ os.length ≤ 140737488351232 := by
  obtain ⟨A, vs, cap, rfl, h1, h2, h3, h4⟩ := h.rowsS Try.underlying22 (of_decide_eq_true (by kernel_rfl)) (of_decide_eq_true (by kernel_rfl))
  obtain ⟨l, rfl, hl⟩ := came_each (vals := Opl.vals) (ok := fun o => o.Ok W) (fun v hv => (h4 v hv).2) fun v hv => came_op hv
  rw [cellsOp] at h1
  rw [List.length_map] at h2 ⊢
  exact ⟨A, l, cap, rfl, ⟨h1, hl⟩, h2⟩
end
def greatN (os : List Opl) : Bool := decide (150 < os.length) || os.any fun o => decide (40 < o.l.length)
theorem great_no {os : List Opl} (h : greatN os = false) : os.length ≤ 150 ∧ ∀ o ∈ os, o.l.length ≤ 40 := by
  unfold greatN at h
  rw [Bool.or_eq_false_iff, decide_eq_false_iff_not, List.any_eq_false] at h
  refine ⟨by omega, fun o ho => ?_⟩
  have := h.2 o ho
  rw [decide_eq_true_eq] at this
  omega
set_option maxHeartbeats 1000000 in
theorem great_any (A : Option Addr) (os : List Opl) (cap : Nat) (w : World) (h : Opls w A os) (hl : os.length ≤ 140737488351232) :
    Calls Try.prog 8 #[.slice A os.length cap] w fun e w' => e = .returned (.bool (greatN os)) ∧ Below w.heap.size w w' := by
  obtain ⟨n, hn⟩ : ∃ n, os.length = n := ⟨_, rfl⟩
  have HH := Lib.hid h
  have HL := Lib.hid hn
  have hnl : n ≤ 140737488351232 := by rw [← hn]; exact hl
  by_cases h1 : 150 < n
  · have e1 : decide ((n : Int) > 150) = true := by simp; omega
    have HG : Hid (greatN os = true) := Lib.hid (by unfold greatN; rw [hn]; simp [h1])
    rw [hn, HG.out]
    clear h hl hn
    go_enter Try.func8, Try.ntmps8
    go_wp2_with fail
    go_returns
    exact ⟨rfl, Below.refl _ _⟩
  · have e1 : decide ((n : Int) > 150) = false := by simp; omega
    have HG : Hid (greatN os = os.any fun o => decide (40 < o.l.length)) := Lib.hid (by unfold greatN; rw [hn]; simp [h1])
    rw [hn, HG.out]
    obtain ⟨ans, hans⟩ : ∃ B, (os.any fun o => decide (40 < o.l.length)) = B := ⟨_, rfl⟩
    have HANS := Lib.hid hans
    rw [hans]
    clear h hl hn HG hans
    go_enter Try.func8, Try.ntmps8
    go_wp2_with fail
    go_loopw [4, 10] (fun _ i wr => ∃ k : Nat, k ≤ n ∧ i = .int .i64 (k : Int) ∧ Hid (∀ o ∈ os.take k, o.l.length ≤ 40) ∧ Hid (Below w.heap.size w wr)) (fun _ i _ => n - (intOf i).toNat)
    case atStart => exact ⟨0, Nat.zero_le _, rfl, Lib.hid (fun o ho => by cases ho), Lib.hid (Below.refl _ _)⟩
    case round =>
      obtain ⟨k, hk, rfl, HT, HB⟩ := hrel
      by_cases hkn : k < n
      · have hkl : k < os.length := by rw [HL.out]; exact hkn
        obtain ⟨g, off, rfl, hr, ho⟩ := (HH.out.later HB.out).at hkl
        have HMEM := Lib.hid (List.getElem_mem hkl)
        have htk : os.take (k + 1) = os.take k ++ [os[k]] := List.take_succ_eq_append_getElem hkl
        obtain ⟨o, hoe⟩ : ∃ o, os[k] = o := ⟨_, rfl⟩
        rw [hoe] at hr ho HMEM htk
        have HTK := Lib.hid htk
        obtain ⟨ok, on, ⟨tn, te, ts⟩, oA, oac, ol⟩ := o
        have x0 := hr 0 _ rfl
        rw [Nat.add_zero] at x0
        have x1 := hr 1 _ rfl
        have x2 := hr 2 _ rfl
        have x3 := hr 3 _ rfl
        have x4 := hr 4 _ rfl
        have x5 := hr 5 _ rfl
        dsimp only at x0 x1 x2 x3 x4 x5
        have hol := ho.len
        dsimp only at hol
        obtain ⟨q, hq⟩ : ∃ q, ol.length = q := ⟨_, rfl⟩
        rw [hq] at x5 hol
        have HQ := Lib.hid hq
        obtain ⟨we, hwe⟩ : ∃ W, W = wr.alloc (.cells #[.int .i64 ok, .int .i64 on, .int .i64 tn, .int .i64 te, .int .i64 ts, .slice oA q oac] 37) := ⟨_, rfl⟩
        have hbe : Below wr.heap.size wr we := by rw [hwe]; exact below_alloc _ _
        have hce : Cells we wr.heap.size 37 [.int .i64 ok, .int .i64 on, .int .i64 tn, .int .i64 te, .int .i64 ts, .slice oA q oac] := by rw [hwe]; exact cells_new _ _ _ _ rfl
        have z5 := hce.cell (j := 5) rfl
        have HBA := Lib.hid (HB.out.trans (hbe.mono HB.out.size))
        have HYES : Hid (40 < q → ans = true) := Lib.hid (fun e => by rw [← HANS.out, List.any_eq_true]; exact ⟨_, HMEM.out, decide_eq_true (by rw [hq]; exact e)⟩)
        clear hr ho hoe hq hbe hce htk
        go_upto_region 6 with (fail)
        rw [← hwe]
        clear hwe x0 x1 x2 x3 x4 x5
        by_cases hgr : 40 < q
        · have e3 : decide ((q : Int) > 40) = true := by simp; omega
          have HE := Lib.hid (HYES.out hgr)
          go_wp2_with fail
          go_returns
          exact ⟨ret_val (congrArg Value.bool HE.out.symm), HBA.out⟩
        · have e3 : decide ((q : Int) > 40) = false := by simp; omega
          have HN2 : Hid (∀ o ∈ os.take (k + 1), o.l.length ≤ 40) := Lib.hid (by
            rw [HTK.out]
            intro o ho
            rcases List.mem_append.1 ho with ho | ho
            · exact HT.out o ho
            · rw [List.mem_singleton.1 ho]
              have := HQ.out
              dsimp only
              omega)
          go_wp2_with fail
          go_roundw
          case rel => exact ⟨k + 1, by omega, by go_num, HN2, HBA⟩
          case measure => simp [intOf]; omega
      · obtain rfl : k = n := by omega
        have HE : Hid (ans = false) := Lib.hid (by
          rw [← HANS.out, List.any_eq_false]
          intro o ho
          have h2 := HT.out o (by rw [List.take_of_length_le (by rw [HL.out]; exact Nat.le_refl _)]; exact ho)
          rw [decide_eq_true_eq]
          omega)
        go_wp2_with fail
        go_returns
        exact ⟨ret_val (congrArg Value.bool HE.out.symm), HB.out⟩
end Go.Proofs.Ytiobblmagjbhjaa.Lea
