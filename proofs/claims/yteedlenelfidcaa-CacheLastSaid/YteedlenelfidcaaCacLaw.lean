/-
  Layer 17's laws: what came in; how great a script is; entries in the document's words; the document's example. Conditions: none.
-/
import Derived.Test.YteedlenelfidcaaCacMany
import Derived.Test.YteedlenelfidcaaCacRef2
import Derived.Test.YteedlenelfidcaaOpenS
import Derived.Test.YteedlenelfidcaaU8s
namespace Go.Proofs.Yteedlenelfidcaa.Cac
set_option maxRecDepth 100000
open Go.ChangeShapes Go.WideShapes Go.ChangeAt Go.RowKit Go.Deep Go.Proofs.Yteedlenelfidcaa.Mem

section
variable {H : Type} {enc : TypeId × Value → H} {W : World}
theorem cellsEn : Try.prog.cellsOf 38 = 4 := by kernel_rfl
theorem cellsInt : Try.prog.cellsOf 3 = 1 := by kernel_rfl
abbrev I64 (x : Int) : Prop := -9223372036854775808 ≤ x ∧ x ≤ 9223372036854775807
theorem i64_wf {x : Int} (h : (Lit.int .i64 x).wf = true) : I64 x := by
  have h1 : IntKind.i64.min = -9223372036854775808 := rfl
  have h2 : IntKind.i64.max = 9223372036854775807 := rfl
  simp only [Lit.wf, Bool.and_eq_true, decide_eq_true_eq, h1, h2] at h
  exact h
theorem cameS_int {c : Value} (h : CameS Try.prog enc W 3 [c]) : ∃ x, c = .int .i64 x ∧ I64 x := by
  obtain ⟨x, e, hx⟩ := h.one.int Try.underlying3
  exact ⟨x, e, i64_wf hx⟩
theorem came_en {cs : List Value} (h : CameS Try.prog enc W 38 cs) : ∃ e : En, cs = e.vals ∧ True := by
  obtain ⟨f0, f1, f2, f3, hst, e0, e1, e2, e3, o0, o1, o2, o3⟩ : ∃ f0 f1 f2 f3 : Field, Try.prog.underlying 38 = some (.struct #[f0, f1, f2, f3]) ∧ f0.type = 3 ∧ f1.type = 3 ∧ f2.type = 3 ∧ f3.type = 3 ∧ f0.offset = 0 ∧ f1.offset = 1 ∧ f2.offset = 2 ∧ f3.offset = 3 :=
    ⟨_, _, _, _, Try.underlying38, rfl, rfl, rfl, rfl, rfl, rfl, rfl, rfl⟩
  obtain ⟨hlen, hf⟩ := h.fields hst
  rw [cellsEn] at hlen
  match cs, hlen with
  | [c0, c1, c2, c3], _ =>
    have g0 := hf 0 f0 rfl
    have g1 := hf 1 f1 rfl
    have g2 := hf 2 f2 rfl
    have g3 := hf 3 f3 rfl
    rw [e0, o0, cellsInt] at g0
    rw [e1, o1, cellsInt] at g1
    rw [e2, o2, cellsInt] at g2
    rw [e3, o3, cellsInt] at g3
    obtain ⟨x0, rfl, _⟩ := cameS_int g0
    obtain ⟨x1, rfl, _⟩ := cameS_int g1
    obtain ⟨x2, rfl, _⟩ := cameS_int g2
    obtain ⟨x3, rfl, _⟩ := cameS_int g3
    exact ⟨⟨x0, x1, x2, x3⟩, rfl, trivial⟩
theorem arg_en {base : Nat} {v : Value} {d : DataW H} {p : List MemPlace} (hv : Value.okWide Try.prog W .any base 38 v) (h : DataW.Trod enc Try.prog W 0 (fun _ => true) true 38 v d p) (hs : Base.Small Try.prog 38 d) : ∃ e : En, v = e.v := by
  obtain ⟨cs, rfl, hc⟩ := came_arg hv h hs Try.underlying38
  obtain ⟨k, rfl, _⟩ := came_en hc
  exact ⟨k, rfl⟩
theorem arg_int {base : Nat} {v : Value} {d : DataW H} {p : List MemPlace} (hv : Value.okWide Try.prog W .any base 3 v) (h : DataW.Trod enc Try.prog W 0 (fun _ => true) true 3 v d p) : ∃ n : Int, v = .int .i64 n ∧ I64 n := by
  obtain ⟨n, rfl⟩ := okWide_int Try.underlying3 hv
  obtain ⟨fuel, hf⟩ := h
  obtain ⟨x, e, _, hw⟩ := DataW.trod_int Try.underlying3 hf
  simp [Value.cells] at e
  subst e
  exact ⟨_, rfl, i64_wf hw⟩
end
/-- An operation of a script. -/
structure Opk where
  k : Int
  c : Int
  v : Int
  A : Option Addr
  ac : Nat
  l : List En
  C : Option Addr
  cc : Nat
  cs : List Int
def Opk.vals (o : Opk) : List Value := [.int .i64 o.k, .int .i64 o.c, .int .i64 o.v, .slice o.A o.l.length o.ac, .slice o.C o.cs.length o.cc]
structure Opk.Ok (w : World) (o : Opk) : Prop where
  es : Sl w o.A 4 (o.l.map En.vals)
  len : o.l.length ≤ 140737488351232
  cap : Cap o.A o.l.length o.ac
  is : Sl w o.C 1 (ints o.cs)
  len2 : o.cs.length ≤ 140737488351232
  cap2 : Cap o.C o.cs.length o.cc
theorem Opk.Ok.later {w w' : World} {o : Opk} (h : o.Ok w) (hb : Below w.heap.size w w') : o.Ok w' := ⟨h.es.later hb, h.len, h.cap, h.is.later hb, h.len2, h.cap2⟩
section
variable {H : Type} {enc : TypeId × Value → H} {W : World}
theorem cellsOp : Try.prog.cellsOf 36 = 5 := by kernel_rfl
theorem cellsEs : Try.prog.cellsOf 33 = 1 := by kernel_rfl
theorem cellsInts : Try.prog.cellsOf 34 = 1 := by kernel_rfl
theorem came_op {cs : List Value} (h : CameS Try.prog enc W 36 cs) : ∃ o : Opk, cs = o.vals ∧ o.Ok W := by
  obtain ⟨f0, f1, f2, f3, f4, hst, e0, e1, e2, e3, e4, o0, o1, o2, o3, o4⟩ : ∃ f0 f1 f2 f3 f4 : Field, Try.prog.underlying 36 = some (.struct #[f0, f1, f2, f3, f4]) ∧ f0.type = 3 ∧ f1.type = 3 ∧ f2.type = 3 ∧ f3.type = 33 ∧ f4.type = 34 ∧ f0.offset = 0 ∧ f1.offset = 1 ∧ f2.offset = 2 ∧ f3.offset = 3 ∧ f4.offset = 4 :=
    ⟨_, _, _, _, _, Try.underlying36, rfl, rfl, rfl, rfl, rfl, rfl, rfl, rfl, rfl, rfl⟩
  obtain ⟨hlen, hf⟩ := h.fields hst
  rw [cellsOp] at hlen
  match cs, hlen with
  | [c0, c1, c2, c3, c4], _ =>
    have g0 := hf 0 f0 rfl
    have g1 := hf 1 f1 rfl
    have g2 := hf 2 f2 rfl
    have g3 := hf 3 f3 rfl
    have g4 := hf 4 f4 rfl
    rw [e0, o0, cellsInt] at g0
    rw [e1, o1, cellsInt] at g1
    rw [e2, o2, cellsInt] at g2
    rw [e3, o3, cellsEs] at g3
    rw [e4, o4, cellsInts] at g4
    obtain ⟨x0, rfl, _⟩ := cameS_int g0
    obtain ⟨x1, rfl, _⟩ := cameS_int g1
    obtain ⟨x2, rfl, _⟩ := cameS_int g2
    have g5 : CameS Try.prog enc W 33 [c3] := g3
    obtain ⟨A, vs, cap, rfl, h1, h2, h3, h4⟩ := g5.one.rowsS Try.underlying33 (of_decide_eq_true (by kernel_rfl)) (of_decide_eq_true (by kernel_rfl))
    obtain ⟨l, rfl, _⟩ := came_each (vals := En.vals) (ok := fun _ => True) (fun v hv => (h4 v hv).2) fun v hv => came_en hv
    rw [cellsEn] at h1
    rw [List.length_map] at h2 h3
    have g6 : CameS Try.prog enc W 34 [c4] := g4
    obtain ⟨A2, vs2, cap2, rfl, k1, k2, k3, k4⟩ := g6.one.rowsS Try.underlying34 (of_decide_eq_true (by kernel_rfl)) (of_decide_eq_true (by kernel_rfl))
    obtain ⟨l2, rfl, _⟩ := came_each (vals := fun c : Int => [Value.int .i64 c]) (ok := fun _ => True) (fun v hv => (k4 v hv).2) fun v hv => by
      obtain ⟨n, y, q1, q2⟩ := hv
      obtain ⟨x, e, _, hw⟩ := DataW.trod_int Try.underlying3 q1
      exact ⟨x, e, trivial⟩
    rw [cellsInt] at k1
    rw [List.length_map] at k2 k3
    refine ⟨⟨x0, x1, x2, A, cap, l, A2, cap2, l2⟩, ?_, h1, h2, h3, k1, k2, k3⟩
    unfold Opk.vals
    rw [List.length_map, List.length_map]
/-- The slice whose first cell is at A holds these operations. -/
def Opks (w : World) (A : Option Addr) (os : List Opk) : Prop := Sl w A 5 (os.map Opk.vals) ∧ ∀ o ∈ os, o.Ok w
theorem Opks.later {w w' : World} {A : Option Addr} {os : List Opk} (h : Opks w A os) (hb : Below w.heap.size w w') : Opks w' A os := ⟨h.1.later hb, fun o ho => (h.2 o ho).later hb⟩
theorem Opks.at {w : World} {A : Option Addr} {os : List Opk} (h : Opks w A os) {k : Nat} (hk : k < os.length) : ∃ g off, A = some ⟨g, off, none⟩ ∧ w.rangeAt g (off + k * 5) os[k].vals ∧ os[k].Ok w := by
  obtain ⟨g, off, e, hr⟩ := h.1 k (by rw [List.length_map]; exact hk)
  rw [List.getElem_map] at hr
  exact ⟨g, off, e, hr, h.2 _ (List.getElem_mem hk)⟩
theorem came_ops {c : Value} (h : Came Try.prog enc W 22 c) : ∃ (A : Option Addr) (os : List Opk) (cap : Nat), c = .slice A os.length cap ∧ Opks W A os ∧ os.length ≤ 140737488351232 ∧ Cap A os.length cap := by
  obtain ⟨A, vs, cap, rfl, h1, h2, h3, h4⟩ := h.rowsS Try.underlying22 (of_decide_eq_true (by kernel_rfl)) (of_decide_eq_true (by kernel_rfl))
  obtain ⟨l, rfl, hl⟩ := came_each (vals := Opk.vals) (ok := fun o => o.Ok W) (fun v hv => (h4 v hv).2) fun v hv => came_op hv
  rw [cellsOp] at h1
  rw [List.length_map] at h2 h3 ⊢
  exact ⟨A, l, cap, rfl, ⟨h1, hl⟩, h2, h3⟩
end
/-- Is a script more than is played? -/
def greatN (os : List Opk) : Bool := decide (150 < os.length) || os.any fun o => decide (40 < o.l.length ∨ 40 < o.cs.length)
theorem great_no {os : List Opk} (h : greatN os = false) : os.length ≤ 150 ∧ ∀ o ∈ os, o.l.length ≤ 40 ∧ o.cs.length ≤ 40 := by
  unfold greatN at h
  rw [Bool.or_eq_false_iff, decide_eq_false_iff_not, List.any_eq_false] at h
  refine ⟨by omega, fun o ho => ?_⟩
  have := h.2 o ho
  rw [decide_eq_true_eq] at this
  omega
set_option maxHeartbeats 1000000 in
theorem great_any (A : Option Addr) (os : List Opk) (cap : Nat) (w : World) (h : Opks w A os) (hl : os.length ≤ 140737488351232) :
    Calls Try.prog 8 #[.slice A os.length cap] w fun e w' => e = .returned (.bool (greatN os)) ∧ Below w.heap.size w w' := by
  obtain ⟨n, hn⟩ : ∃ n, os.length = n := ⟨_, rfl⟩
  have HH := Lib.hid h
  have HL := Lib.hid hn
  have hnl : n ≤ 140737488351232 := by rw [← hn]; exact hl
  by_cases h1 : 150 < n
  · have e1 : decide ((n : Int) > 150) = true := by simp; omega
    have HG : Hid (greatN os = true) := Lib.hid (by unfold greatN; rw [hn]; simp [h1])
    rw [hn, HG.out]
    clear h hl hn
    go_enter Try.func8, Try.ntmps8
    go_wp2_with fail
    go_returns
    exact ⟨rfl, Below.refl _ _⟩
  · have e1 : decide ((n : Int) > 150) = false := by simp; omega
    have HG : Hid (greatN os = os.any fun o => decide (40 < o.l.length ∨ 40 < o.cs.length)) := Lib.hid (by unfold greatN; rw [hn]; simp [h1])
    rw [hn, HG.out]
    obtain ⟨ans, hans⟩ : ∃ B, (os.any fun o => decide (40 < o.l.length ∨ 40 < o.cs.length)) = B := ⟨_, rfl⟩
    have HANS := Lib.hid hans
    rw [hans]
    clear h hl hn HG hans
    go_enter Try.func8, Try.ntmps8
    go_wp2_with fail
    go_loopw [4, 10] (fun _ i wr => ∃ k : Nat, k ≤ n ∧ i = .int .i64 (k : Int) ∧ Hid (∀ o ∈ os.take k, o.l.length ≤ 40 ∧ o.cs.length ≤ 40) ∧ Hid (Below w.heap.size w wr)) (fun _ i _ => n - (intOf i).toNat)
    case atStart => exact ⟨0, Nat.zero_le _, rfl, Lib.hid (fun o ho => by cases ho), Lib.hid (Below.refl _ _)⟩
    case round =>
      obtain ⟨k, hk, rfl, HT, HB⟩ := hrel
      by_cases hkn : k < n
      · have hkl : k < os.length := by rw [HL.out]; exact hkn
        obtain ⟨g, off, rfl, hr, ho⟩ := (HH.out.later HB.out).at hkl
        have HMEM := Lib.hid (List.getElem_mem hkl)
        have htk : os.take (k + 1) = os.take k ++ [os[k]] := List.take_succ_eq_append_getElem hkl
        obtain ⟨o, hoe⟩ : ∃ o, os[k] = o := ⟨_, rfl⟩
        rw [hoe] at hr ho HMEM htk
        have HTK := Lib.hid htk
        obtain ⟨ok, oc, ov, oA, oac, ol, oC, occ, ocs⟩ := o
        have x0 := hr 0 _ rfl
        rw [Nat.add_zero] at x0
        have x1 := hr 1 _ rfl
        have x2 := hr 2 _ rfl
        have x3 := hr 3 _ rfl
        have x4 := hr 4 _ rfl
        dsimp only at x0 x1 x2 x3 x4
        have hol := ho.len
        have hoc := ho.len2
        dsimp only at hol hoc
        obtain ⟨q, hq⟩ : ∃ q, ol.length = q := ⟨_, rfl⟩
        obtain ⟨q2, hq2⟩ : ∃ q, ocs.length = q := ⟨_, rfl⟩
        rw [hq] at x3 hol
        rw [hq2] at x4 hoc
        have HQ := Lib.hid hq
        have HQ2 := Lib.hid hq2
        obtain ⟨we, hwe⟩ : ∃ W, W = wr.alloc (.cells #[.int .i64 ok, .int .i64 oc, .int .i64 ov, .slice oA q oac, .slice oC q2 occ] 36) := ⟨_, rfl⟩
        have hbe : Below wr.heap.size wr we := by rw [hwe]; exact below_alloc _ _
        have hce : Cells we wr.heap.size 36 [.int .i64 ok, .int .i64 oc, .int .i64 ov, .slice oA q oac, .slice oC q2 occ] := by rw [hwe]; exact cells_new _ _ _ _ rfl
        have z3 := hce.cell (j := 3) rfl
        have z4 := hce.cell (j := 4) rfl
        have HBA := Lib.hid (HB.out.trans (hbe.mono HB.out.size))
        have HYES : Hid (40 < q ∨ 40 < q2 → ans = true) := Lib.hid (fun e => by rw [← HANS.out, List.any_eq_true]; exact ⟨_, HMEM.out, decide_eq_true (by rw [hq, hq2]; exact e)⟩)
        clear hr ho hoe hq hq2 hbe hce htk
        go_upto_region 6 with (fail)
        rw [← hwe]
        clear hwe x0 x1 x2 x3 x4
        by_cases hgr : 40 < q
        · have e3 : decide ((q : Int) > 40) = true := by simp; omega
          have HE := Lib.hid (HYES.out (Or.inl hgr))
          go_wp2_with fail
          go_returns
          exact ⟨ret_val (congrArg Value.bool HE.out.symm), HBA.out⟩
        · have e3 : decide ((q : Int) > 40) = false := by simp; omega
          by_cases hgr2 : 40 < q2
          · have e4 : decide ((q2 : Int) > 40) = true := by simp; omega
            have HE := Lib.hid (HYES.out (Or.inr hgr2))
            go_wp2_with fail
            go_returns
            exact ⟨ret_val (congrArg Value.bool HE.out.symm), HBA.out⟩
          · have e4 : decide ((q2 : Int) > 40) = false := by simp; omega
            have HN2 : Hid (∀ o ∈ os.take (k + 1), o.l.length ≤ 40 ∧ o.cs.length ≤ 40) := Lib.hid (by
              rw [HTK.out]
              intro o ho
              rcases List.mem_append.1 ho with ho | ho
              · exact HT.out o ho
              · rw [List.mem_singleton.1 ho]
                have := HQ.out
                have := HQ2.out
                exact ⟨by dsimp only; omega, by dsimp only; omega⟩)
            go_wp2_with fail
            go_roundw
            case rel => exact ⟨k + 1, by omega, by go_num, HN2, HBA⟩
            case measure => simp [intOf]; omega
      · obtain rfl : k = n := by omega
        have HE : Hid (ans = false) := Lib.hid (by
          rw [← HANS.out, List.any_eq_false]
          intro o ho
          have h2 := HT.out o (by rw [List.take_of_length_le (by rw [HL.out]; exact Nat.le_refl _)]; exact ho)
          rw [decide_eq_true_eq]
          omega)
        go_wp2_with fail
        go_returns
        exact ⟨ret_val (congrArg Value.bool HE.out.symm), HB.out⟩
set_option maxHeartbeats 1000000 in
theorem plain_any (l : List En) (A : Option Addr) (c : Nat) (w : World) (h : Sl w A 4 (l.map En.vals)) (hl : l.length ≤ 800) :
    Calls Try.prog 21 #[.slice A l.length c] w fun e w' => ∃ V vc, e = .returned (.slice V l.length vc) ∧ OwnG 40 4 En.vals w.heap.size w' (.slice V l.length vc) l ∧ Below w.heap.size w w' := by
  obtain ⟨n, hn⟩ : ∃ n, l.length = n := ⟨_, rfl⟩
  have HN := Lib.hid hn
  have HS := Lib.hid h
  rw [hn] at hl ⊢
  clear hn h
  go_enter Try.func21, Try.ntmps21
  go_wp2_with fail
  go_loopw [3, 5, 8] (fun a _ j wr => ∃ (k : Nat) (V : Option Addr) (vn vc : Nat), k ≤ n ∧ j = .int .i64 (k : Int) ∧ a = .slice V vn vc ∧ Hid (OwnG 40 4 En.vals w.heap.size wr (.slice V vn vc) (l.take k)) ∧ Hid (Below w.heap.size w wr)) (fun _ _ j _ => n - (intOf j).toNat)
  case atStart => exact ⟨0, none, 0, 0, Nat.zero_le _, rfl, rfl, Lib.hid (OwnG.nil _ _ _ _ _), Lib.hid (Below.refl _ _)⟩
  case round =>
    obtain ⟨k, V, vn, vc, hkn, rfl, rfl, HV, HB⟩ := hrel
    by_cases hlt : k < n
    · have hkl : k < l.length := by rw [HN.out]; exact hlt
      obtain ⟨g, off, rfl, hr⟩ := (HS.out.later HB.out) k (by rw [List.length_map]; exact hkl)
      obtain ⟨o, ho⟩ : ∃ o, l[k] = o := ⟨_, rfl⟩
      rw [List.getElem_map, ho] at hr
      have z0 := hr 0 _ rfl
      rw [Nat.add_zero] at z0
      have z1 := hr 1 _ rfl
      have z2 := hr 2 _ rfl
      have z3 := hr 3 _ rfl
      obtain ⟨wb, hwb⟩ : ∃ W, W = wr.alloc (.cells #[.int .i64 o.cell, .int .i64 o.ver, .int .i64 o.val, .int .i64 o.frm] 38) := ⟨_, rfl⟩
      have hbb : Below wr.heap.size wr wb := by rw [hwb]; exact below_alloc _ _
      have hcb : Cells wb wr.heap.size 38 o.vals := by rw [hwb]; exact cells_new _ _ _ _ rfl
      have HBB : Hid (Below w.heap.size w wb) := Lib.hid (HB.out.trans (hbb.mono HB.out.size))
      have htk : l.take (k + 1) = l.take k ++ [o] := by rw [List.take_succ_eq_append_getElem hkl, ho]
      obtain ⟨V', n', c', w5, hrun, hrow, hbu⟩ := OwnG.more el_re fit_es (HV.out.later hbb) o #[.int .i64 o.cell, .int .i64 o.ver, .int .i64 o.val, .int .i64 o.frm] rfl HBB.out.size (by rw [List.length_take]; omega)
      have HV5 : Hid (OwnG 40 4 En.vals w.heap.size w5 (.slice V' n' c') (l.take (k + 1))) := Lib.hid (by rw [htk]; exact hrow)
      have HB5 : Hid (Below w.heap.size w w5) := Lib.hid (HBB.out.trans hbu)
      have HRUN := Lib.hid hrun
      have x0 := hcb.cell (j := 0) rfl
      have x1 := hcb.cell (j := 1) rfl
      have x2 := hcb.cell (j := 2) rfl
      have x3 := hcb.cell (j := 3) rfl
      clear hr ho hkl hbb hcb htk hrun hrow hbu
      go_upto_region 5 with (fail)
      rw [← hwb]
      clear hwb z0 z1 z2 z3
      go_wp2_with (at_builtin
                   refine Lib.wpList_append_run (wb.alloc (.cells #[.int .i64 o.cell, .int .i64 o.ver, .int .i64 o.val, .int .i64 o.frm] 40)) rfl (.tmp 12) (.tmp 14) 30 30 rfl (.slice V vn vc) (.slice (some ⟨wb.heap.size, 0, none⟩) 1 1) rfl rfl _ _ HRUN.out ?_)
      go_roundw
      case rel => exact ⟨k + 1, V', n', c', by omega, by go_num, rfl, HV5, HB5⟩
      case measure => simp [intOf]; omega
    · obtain rfl : k = n := by omega
      have HF : Hid (OwnG 40 4 En.vals w.heap.size wr (.slice V vn vc) l) := Lib.hid (by
        have h1 := HV.out
        rw [List.take_of_length_le (by rw [HN.out]; exact Nat.le_refl _)] at h1
        exact h1)
      have hvn : vn = k := by have h1 := (HF.out.sl fit_es).1; rw [h1]; exact HN.out
      subst hvn
      go_wp2_with fail
      go_returns
      exact ⟨_, _, rfl, HF.out, HB.out⟩
end Go.Proofs.Yteedlenelfidcaa.Cac
