/-
  Layer 19's laws: what came in; how great parts are.
  Conditions: none.
-/
import Derived.Test.YtjeogeablbkhgaaP40
import Derived.Test.YtjeogeablbkhgaaP41
import Derived.Test.YtjeogeablbkhgaaP43
namespace Go.Proofs.Ytjeogeablbkhgaa.Vot
set_option maxRecDepth 100000
open Go.ChangeShapes Go.WideShapes Go.ChangeAt Go.RowKit Go.Deep Go.Proofs.Ytjeogeablbkhgaa.Mem Go.Proofs.Ytjeogeablbkhgaa.Item
section
variable {H : Type} {enc : TypeId × Value → H} {W : World}
theorem cellsTid : Try.prog.cellsOf 23 = 3 := by kernel_rfl
theorem cellsInt : Try.prog.cellsOf 3 = 1 := by kernel_rfl
theorem cellsBool : Try.prog.cellsOf 4 = 1 := by kernel_rfl
theorem cellsItem : Try.prog.cellsOf 60 = 5 := by kernel_rfl
theorem cellsItems : Try.prog.cellsOf 49 = 1 := by kernel_rfl
theorem cellsPart : Try.prog.cellsOf 55 = 2 := by kernel_rfl
theorem cellsInts : Try.prog.cellsOf 37 = 1 := by kernel_rfl
theorem i64_wf {x : Int} (h : (Lit.int .i64 x).wf = true) : I64 x := by
 have h1 : IntKind.i64.min = -9223372036854775808 := rfl
 have h2 : IntKind.i64.max = 9223372036854775807 := rfl
 simp only [Lit.wf, Bool.and_eq_true, decide_eq_true_eq, h1, h2] at h
 exact h
theorem cameS_int {c : Value} (h : CameS Try.prog enc W 3 [c]) : ∃ x, c = .int .i64 x := by
 obtain ⟨x, e, _⟩ := h.one.int Try.underlying3
 exact ⟨x, e⟩
theorem cameS_bool {c : Value} (h : CameS Try.prog enc W 4 [c]) : ∃ x, c = .bool x := h.one.bool Try.underlying4
theorem came_tid {cs : List Value} (h : CameS Try.prog enc W 23 cs) : ∃ t : Tid, cs = [.int .i64 t.node, .int .i64 t.epoch, .int .i64 t.seq] := by
 obtain ⟨f0, f1, f2, hst, e0, e1, e2, o0, o1, o2⟩ : ∃ f0 f1 f2 : Field, Try.prog.underlying 23 = some (.struct #[f0, f1, f2]) ∧ f0.type = 3 ∧ f1.type = 3 ∧ f2.type = 3 ∧ f0.offset = 0 ∧ f1.offset = 1 ∧ f2.offset = 2 :=
  ⟨_, _, _, Try.underlying23, rfl, rfl, rfl, rfl, rfl, rfl⟩
 obtain ⟨hlen, hf⟩ := h.fields hst
 rw [cellsTid] at hlen
 match cs, hlen with
 | [c0, c1, c2], _ =>
  have g0 := hf 0 f0 rfl
  have g1 := hf 1 f1 rfl
  have g2 := hf 2 f2 rfl
  rw [e0, o0, cellsInt] at g0
  rw [e1, o1, cellsInt] at g1
  rw [e2, o2, cellsInt] at g2
  obtain ⟨x0, rfl⟩ := cameS_int g0
  obtain ⟨x1, rfl⟩ := cameS_int g1
  obtain ⟨x2, rfl⟩ := cameS_int g2
  exact ⟨⟨x0, x1, x2⟩, rfl⟩
theorem arg_tid {base : Nat} {v : Value} {d : DataW H} {p : List MemPlace} (hv : Value.okWide Try.prog W .any base 23 v) (h : DataW.Trod enc Try.prog W 0 (fun _ => true) true 23 v d p) (hs : Base.Small Try.prog 23 d) : ∃ t : Tid, v = .agg #[.int .i64 t.node, .int .i64 t.epoch, .int .i64 t.seq] := by
 obtain ⟨cs, rfl, hc⟩ := came_arg hv h hs Try.underlying23
 obtain ⟨k, rfl⟩ := came_tid hc
 exact ⟨k, rfl⟩
theorem came_item {cs : List Value} (h : CameS Try.prog enc W 60 cs) : ∃ x : It, cs = x.vals ∧ True := by
 obtain ⟨f0, f1, f2, f3, f4, hst, e0, e1, e2, e3, e4, o0, o1, o2, o3, o4⟩ : ∃ f0 f1 f2 f3 f4 : Field, Try.prog.underlying 60 = some (.struct #[f0, f1, f2, f3, f4]) ∧ f0.type = 3 ∧ f1.type = 3 ∧ f2.type = 3 ∧ f3.type = 4 ∧ f4.type = 3 ∧ f0.offset = 0 ∧ f1.offset = 1 ∧ f2.offset = 2 ∧ f3.offset = 3 ∧ f4.offset = 4 :=
  ⟨_, _, _, _, _, Try.underlying60, rfl, rfl, rfl, rfl, rfl, rfl, rfl, rfl, rfl, rfl⟩
 obtain ⟨hlen, hf⟩ := h.fields hst
 rw [cellsItem] at hlen
 match cs, hlen with
 | [c0, c1, c2, c3, c4], _ =>
  have g0 := hf 0 f0 rfl
  have g1 := hf 1 f1 rfl
  have g2 := hf 2 f2 rfl
  have g3 := hf 3 f3 rfl
  have g4 := hf 4 f4 rfl
  rw [e0, o0, cellsInt] at g0
  rw [e1, o1, cellsInt] at g1
  rw [e2, o2, cellsInt] at g2
  rw [e3, o3, cellsBool] at g3
  rw [e4, o4, cellsInt] at g4
  obtain ⟨x0, rfl⟩ := cameS_int g0
  obtain ⟨x1, rfl⟩ := cameS_int g1
  obtain ⟨x2, rfl⟩ := cameS_int g2
  obtain ⟨x3, rfl⟩ := cameS_bool g3
  obtain ⟨x4, rfl⟩ := cameS_int g4
  exact ⟨⟨x0, x1, x2, x3, x4⟩, rfl, trivial⟩
/-- A part that came in. -/
structure InOk (w : World) (s : Sd) : Prop where
 is : Items w s.A s.its
 nil : s.A = none → s.c = 0
 len : s.its.length ≤ 140737488351232
 no : s.yes = false ∧ s.ack = false
theorem InOk.later {w w' : World} {s : Sd} (h : InOk w s) (hb : Below w.heap.size w w') : InOk w' s := ⟨h.is.later hb, h.nil, h.len, h.no⟩
theorem came_part {cs : List Value} (h : CameS Try.prog enc W 55 cs) : ∃ s : Sd, cs = pv s ∧ InOk W s := by
 obtain ⟨f0, f1, hst, e0, e1, o0, o1⟩ : ∃ f0 f1 : Field, Try.prog.underlying 55 = some (.struct #[f0, f1]) ∧ f0.type = 3 ∧ f1.type = 49 ∧ f0.offset = 0 ∧ f1.offset = 1 :=
  ⟨_, _, Try.underlying55, rfl, rfl, rfl, rfl⟩
 obtain ⟨hlen, hf⟩ := h.fields hst
 rw [cellsPart] at hlen
 match cs, hlen with
 | [c0, c1], _ =>
  have g0 := hf 0 f0 rfl
  have g1 := hf 1 f1 rfl
  rw [e0, o0, cellsInt] at g0
  rw [e1, o1, cellsItems] at g1
  obtain ⟨x0, rfl⟩ := cameS_int g0
  have g6 : CameS Try.prog enc W 49 [c1] := g1
  obtain ⟨A2, vs2, cap2, rfl, k1, k2, k3, k4⟩ := g6.one.rowsS Try.underlying49 (of_decide_eq_true (by kernel_rfl)) (of_decide_eq_true (by kernel_rfl))
  obtain ⟨l2, rfl, _⟩ := came_each (vals := It.vals) (ok := fun _ => True) (fun v hv => (k4 v hv).2) fun v hv => came_item hv
  rw [cellsItem] at k1
  rw [List.length_map] at k2
  refine ⟨⟨x0, A2, cap2, l2, false, false⟩, ?_, sl_items k1, fun e => ?_, k2, rfl, rfl⟩
  ·unfold pv
   rw [List.length_map]
  ·exact k3.1 e
/-- The slice whose first cell is at O holds these parts, as they came in. -/
def InParts (w : World) (O : Option Addr) (ps : List Sd) : Prop := Sl w O 2 (ps.map pv) ∧ ∀ s ∈ ps, InOk w s
theorem InParts.later {w w' : World} {O : Option Addr} {ps : List Sd} (h : InParts w O ps) (hb : Below w.heap.size w w') : InParts w' O ps := ⟨h.1.later hb, fun s hs => (h.2 s hs).later hb⟩
theorem InParts.at {w : World} {O : Option Addr} {ps : List Sd} (h : InParts w O ps) {k : Nat} (hk : k < ps.length) : ∃ g off, O = some ⟨g, off, none⟩ ∧ w.rangeAt g (off + k * 2) (pv ps[k]) := by
 obtain ⟨g, off, e, hr⟩ := h.1 k (by rw [List.length_map]; exact hk)
 rw [List.getElem_map] at hr
 exact ⟨g, off, e, hr⟩
theorem came_parts {c : Value} (h : Came Try.prog enc W 24 c) : ∃ (O : Option Addr) (ps : List Sd) (cap : Nat), c = .slice O ps.length cap ∧ InParts W O ps ∧ ps.length ≤ 140737488351232 := by
 obtain ⟨A, vs, cap, rfl, h1, h2, h3, h4⟩ := h.rowsS Try.underlying24 (of_decide_eq_true (by kernel_rfl)) (of_decide_eq_true (by kernel_rfl))
 obtain ⟨l, rfl, hl⟩ := came_each (vals := pv) (ok := fun o => InOk W o) (fun v hv => (h4 v hv).2) fun v hv => came_part hv
 rw [cellsPart] at h1
 rw [List.length_map] at h2 ⊢
 exact ⟨A, l, cap, rfl, ⟨h1, hl⟩, h2⟩
end
/-- Are parts more than what is played? -/
def greatP (ps : List Sd) : Bool := decide (40 < ps.length) || ps.any fun s => decide (40 < s.its.length)
theorem InParts.small {w : World} {O : Option Addr} {ps : List Sd} (h : InParts w O ps) (hg : greatP ps = false) : ps.length ≤ 40 ∧ Parts w O ps ∧ ∀ s ∈ ps, s.yes = false ∧ s.ack = false := by
 unfold greatP at hg
 rw [Bool.or_eq_false_iff, decide_eq_false_iff_not, List.any_eq_false] at hg
 refine ⟨by omega, ⟨h.1, fun s hs => ⟨(h.2 s hs).is, (h.2 s hs).nil, ?_⟩⟩, fun s hs => (h.2 s hs).no⟩
 have := hg.2 s hs
 rw [decide_eq_true_eq] at this
 omega
theorem great_any {w : World} {O : Option Addr} {ps : List Sd} {cap : Nat} (h : InParts w O ps) (hl : ps.length ≤ 140737488351232) :
  Calls Try.prog 8 #[.slice O ps.length cap] w fun e w' => e = .returned (.bool (greatP ps)) ∧ Below w.heap.size w w' := by
 obtain ⟨n, hn⟩ : ∃ n, ps.length = n := ⟨_, rfl⟩
 have HH := Lib.hid h
 have HL := Lib.hid hn
 have hnl : n ≤ 140737488351232 := by rw [← hn]; exact hl
 by_cases h1 : 40 < n
 ·have e1 : decide ((n : Int) > 40) = true := by simp; omega
  have HG : Hid (greatP ps = true) := Lib.hid (by unfold greatP; rw [hn]; simp [h1])
  rw [hn, HG.out]
  clear h hl hn
  go_enter Try.func8, Try.ntmps8
  go_wp2_with fail
  go_returns
  exact ⟨rfl, Below.refl _ _⟩
 ·have e1 : decide ((n : Int) > 40) = false := by simp; omega
  have HG : Hid (greatP ps = ps.any fun o => decide (40 < o.its.length)) := Lib.hid (by unfold greatP; rw [hn]; simp [h1])
  rw [hn, HG.out]
  obtain ⟨ans, hans⟩ : ∃ B, (ps.any fun o => decide (40 < o.its.length)) = B := ⟨_, rfl⟩
  have HANS := Lib.hid hans
  rw [hans]
  clear h hl hn HG hans
  go_enter Try.func8, Try.ntmps8
  go_wp2_with fail
  go_loopw [4, 10] (fun _ i wr => ∃ k : Nat, k ≤ n ∧ i = .int .i64 (k : Int) ∧ Hid (∀ o ∈ ps.take k, o.its.length ≤ 40) ∧ Hid (Below w.heap.size w wr)) (fun _ i _ => n - (intOf i).toNat)
  case atStart => exact ⟨0, Nat.zero_le _, rfl, Lib.hid (fun o ho => by cases ho), Lib.hid (Below.refl _ _)⟩
  case round =>
   obtain ⟨k, hk, rfl, HT, HB⟩ := hrel
   by_cases hkn : k < n
   ·have hkl : k < ps.length := by rw [HL.out]; exact hkn
    obtain ⟨g, off, rfl, hr⟩ := (HH.out.later HB.out).at hkl
    have HMEM := Lib.hid (List.getElem_mem hkl)
    obtain ⟨s, hs⟩ : ∃ o, ps[k] = o := ⟨_, rfl⟩
    have HTK := Lib.hid (take_more hkl hs)
    rw [hs] at hr HMEM
    have hol := (HH.out.2 s HMEM.out).len
    have x0 : wr.cell? ⟨g, off + k * 2, none⟩ = _ := hr 0 _ rfl
    have x1 := hr 1 _ rfl
    obtain ⟨hbb, hcb⟩ := copy_part wr s
    obtain ⟨q, hq⟩ : ∃ q, s.its.length = q := ⟨_, rfl⟩
    have HQ := Lib.hid hq
    unfold pv at hcb
    rw [hq] at x1 hbb hcb hol
    obtain ⟨we, hwe⟩ : ∃ W, W = wr.alloc (.cells #[.int .i64 s.node, .slice s.A q s.c] 55) := ⟨_, rfl⟩
    rw [← hwe] at hbb hcb
    have z1 := hcb.cell (j := 1) rfl
    have HBA := Lib.hid (HB.out.trans (hbb.mono HB.out.size))
    have HYES : Hid (40 < q → ans = true) := Lib.hid (fun e => by rw [← HANS.out, List.any_eq_true]; exact ⟨_, HMEM.out, decide_eq_true (by rw [hq]; exact e)⟩)
    clear hr hs hq hbb hcb hkl
    go_upto_region 6 with (fail)
    rw [← hwe]
    clear hwe x0 x1
    by_cases hgr : 40 < q
    ·have e3 : decide ((q : Int) > 40) = true := by simp; omega
     have HE := Lib.hid (HYES.out hgr)
     go_wp2_with fail
     go_returns
     exact ⟨ret_val (congrArg Value.bool HE.out.symm), HBA.out⟩
    ·have e3 : decide ((q : Int) > 40) = false := by simp; omega
     have HN2 : Hid (∀ o ∈ ps.take (k + 1), o.its.length ≤ 40) := Lib.hid (by
      rw [HTK.out]
      intro o ho
      rcases List.mem_append.1 ho with ho | ho
      ·exact HT.out o ho
      ·rw [List.mem_singleton.1 ho]
       have := HQ.out
       omega)
     go_wp2_with fail
     go_roundw
     case rel => exact ⟨k + 1, by omega, by go_num, HN2, HBA⟩
     case measure => simp [intOf]; omega
   ·obtain rfl : k = n := by omega
    have HE : Hid (ans = false) := Lib.hid (by
     rw [← HANS.out, List.any_eq_false]
     intro o ho
     have h2 := HT.out o (by rw [List.take_of_length_le (by rw [HL.out]; exact Nat.le_refl _)]; exact ho)
     rw [decide_eq_true_eq]
     omega)
    go_wp2_with fail
    go_returns
    exact ⟨ret_val (congrArg Value.bool HE.out.symm), HB.out⟩
end Go.Proofs.Ytjeogeablbkhgaa.Vot
