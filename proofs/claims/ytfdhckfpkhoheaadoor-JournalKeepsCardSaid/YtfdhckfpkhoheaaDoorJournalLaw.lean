/-
  What the law of layer 5 shares: a script in memory, great; is a list a beginning of another one? Conditions: none.
-/
import Derived.Test.YtfdhckfpkhoheaaDoorJournalCode
import Derived.Test.YtfdhckfpkhoheaaDoorSame
import Derived.Test.YtfdhckfpkhoheaaDoorOpn
import Derived.Deep.QuietTactic
import Derived.BigQuiet
import Derived.Deep.DeepHandedRow
import Derived.Lib.LaidTab
import Derived.Deep.Slices
import Derived.Deep.Fields
import Derived.ChangeSame
namespace Go.Proofs.YtfdhckfpkhoheaaDoor.Journal
open Go.ChangeShapes Go.WideShapes Go.ChangeAt Go.RowKit Go.Deep Go.Proofs.YtfdhckfpkhoheaaDoor.Mem

set_option maxHeartbeats 1000000 in
theorem begins_yes (A B : Option Addr) (ss ts : List ByteArray) (c d : Nat) (w : World) (ha : Strs w A ss) (hb : Strs w B ts) (hl : ss.length ≤ 1000000000) (hcap : ts.length ≤ d) (hpre : ts.take ss.length = ss) :
    Calls Tryd.prog 14 #[.slice A ss.length c, .slice B ts.length d] w fun e w' => e = .returned (.bool true) ∧ Below w.heap.size w w' := by
  have hle : ss.length ≤ ts.length := by
    have h := congrArg List.length hpre
    rw [List.length_take] at h
    omega
  have hcd : (ss.length : Int) ≤ (d : Int) := by omega
  have hs := same_any A B ss ss c d w ha (by have h := hb.take ss.length; rw [hpre] at h; exact h) hl
  have HS := Lib.hid hs
  clear hs hpre
  go_enter Tryd.func14, Tryd.ntmps14
  go_wp2_with fail
  refine HS.out.mono ?_
  rintro e w1 ⟨rfl, hb1⟩
  go_wp2_with fail
  go_returns
  exact ⟨rfl, hb1⟩
set_option maxHeartbeats 2000000 in
theorem great_any (A : Option Addr) (os : List Opn) (c most : Nat) (w : World) (hs : Ops w A os) (hmost : most ≤ 1000) :
    Calls Tryd.prog 5 #[.slice A os.length c, .int .i64 (most : Int)] w fun e w' => e = .returned (.bool (!small most 9000 os)) ∧ Below w.heap.size w w' := by
  by_cases h1 : most < os.length
  · have HF := Lib.hid (show small most 9000 os = false by unfold Mem.small; rw [decide_eq_false (by omega)]; rfl)
    go_enter Tryd.func5, Tryd.ntmps5
    go_wp2
    go_returns
    exact ⟨by rw [HF.out]; rfl, Below.refl _ _⟩
  · have HS := Lib.hid hs
    clear hs
    go_enter Tryd.func5, Tryd.ntmps5
    go_wp2
    go_loopw [5, 16] (fun n i wr => ∃ k : Nat, k ≤ os.length ∧ i = .int .i64 (k : Int) ∧ n = .int .i64 (total (os.take k) : Nat) ∧ total (os.take k) ≤ 9000 ∧ (∀ o ∈ os.take k, o.ss.length ≤ 20) ∧ Below w.heap.size w wr) (fun _ i _ => os.length - (intOf i).toNat)
    case atStart => exact ⟨0, Nat.zero_le _, rfl, rfl, Nat.zero_le _, fun o h => (by cases h), Below.refl _ _⟩
    case round =>
      obtain ⟨k, hk, rfl, rfl, hle, hall, hb⟩ := hrel
      have HB := Lib.hid hb
      have HA := Lib.hid hall
      clear hb hall
      by_cases hlt : k < os.length
      · obtain ⟨hok, b, off, rfl, c0, c1, c2⟩ := (HS.out.later HB.out) k hlt
        have HT := Lib.hid (total_take os k hlt)
        have HTK := Lib.hid (List.take_succ_eq_append_getElem hlt)
        have HME := Lib.hid (List.getElem_mem hlt)
        have HTL := Lib.hid (total_le os (k + 1))
        have htx := hok.texts
        have hln := hok.len
        unfold maxLen at hln
        generalize os[k] = o at *
        obtain ⟨ok, on, oA, oc, ss⟩ := o
        simp only at c0 c1 c2 htx hln
        generalize total (os.take k) = t at *
        by_cases h20 : 20 < ss.length
        · have HF := Lib.hid (show small most 9000 os = false by
            unfold Mem.small
            have h : os.all (fun o => decide (o.ss.length ≤ 20)) = false := List.all_eq_false.2 ⟨_, HME.out, by simp; omega⟩
            rw [h, Bool.and_false, Bool.false_and])
          go_wp2
          go_returns
          exact ⟨by rw [HF.out]; rfl, HB.out.trans ((below_alloc wr _).mono HB.out.size)⟩
        · have HX := Lib.hid htx
          clear htx
          have HBX := Lib.hid (below_alloc wr (.cells #[.int .i64 ok, .int .i64 on, .slice oA ss.length oc] 34))
          go_wp2
          go_loop [5, 27] (fun n j => ∃ i : Nat, i ≤ ss.length ∧ j = .int .i64 (i : Int) ∧ n = .int .i64 ((t + (cat (ss.take i)).length : Nat) : Int) ∧ t + (cat (ss.take i)).length ≤ 9000) (fun _ j => ss.length - (intOf j).toNat)
          case atStart => exact ⟨0, Nat.zero_le _, rfl, by simp [cat], by simp [cat]; omega⟩
          case round =>
            obtain ⟨i, hi, rfl, rfl, hle2⟩ := hrel
            by_cases hil : i < ss.length
            · obtain ⟨ad, rfl, hc, hz⟩ := (HX.out.later HBX.out) i hil
              have HC2 := Lib.hid (cat_take ss i hil)
              have HCL := Lib.hid (cat_take_le ss (i + 1))
              generalize ss[i] = s at *
              have hcl : (cat (ss.take (i + 1))).length = (cat (ss.take i)).length + s.size := by rw [HC2.out, List.length_append, toList_size]
              have HCE := Lib.hid hcl
              clear hcl
              generalize (cat (ss.take i)).length = m at *
              by_cases h3 : 9000 < t + m + s.size
              · have HF := Lib.hid (show small most 9000 os = false by
                  unfold Mem.small
                  have h1 := HTL.out
                  have h2 := HT.out
                  have h4 := HCE.out
                  have h5 := HCL.out
                  have h : decide (total os ≤ 9000) = false := decide_eq_false (by omega)
                  rw [h, Bool.and_false])
                go_wp2
                go_returns
                exact ⟨by rw [HF.out]; rfl, HB.out.trans (HBX.out.mono HB.out.size)⟩
              · go_wp2
                go_round
                case rel => exact ⟨i + 1, by omega, by go_num, by rw [HCE.out]; go_num, by rw [HCE.out]; omega⟩
                case measure => simp [intOf]; omega
            · have he2 : ss.take i = ss := List.take_of_length_le (by omega)
              rw [he2] at hle2 ⊢
              clear he2
              go_wp2
              go_roundw
              case rel =>
                refine ⟨k + 1, by omega, by go_num, by rw [HT.out], by rw [HT.out]; exact hle2, ?_, HB.out.trans (HBX.out.mono HB.out.size)⟩
                intro o ho
                rw [HTK.out] at ho
                rcases List.mem_append.1 ho with ho | ho
                · exact HA.out o ho
                · obtain rfl := List.mem_singleton.1 ho
                  show ss.length ≤ 20
                  omega
              case measure => simp [intOf]; omega
      · have he : os.take k = os := List.take_of_length_le (by omega)
        rw [he] at hle HA
        have HF := Lib.hid (show small most 9000 os = true by
          unfold Mem.small
          rw [decide_eq_true (by omega), decide_eq_true hle, List.all_eq_true.2 fun o ho => decide_eq_true (HA.out o ho)]
          rfl)
        go_wp2
        go_returns
        exact ⟨by rw [HF.out]; rfl, HB.out⟩

/-- A slice of texts that lies within what came in. -/
theorem open_inner {H : Type} {enc : TypeId × Value → H} {W : World} {n : Nat} {v : Value} {x : DataW H × List MemPlace}
    (h : DataW.trod enc Tryd.prog W 0 (fun _ => true) true n 30 [v] = some x) (hsz : Base.Small Tryd.prog 30 x.1) :
    ∃ (A : Option Addr) (ss : List ByteArray) (c : Nat), v = .slice A ss.length c ∧ Strs W A ss ∧ ss.length ≤ maxLen ∧ Cap A ss.length c := by
  rcases open_strings Tryd.underlying30 Tryd.underlying9 cellsString h with ⟨hcs, _⟩ | ⟨a, len, cap, ss, hcs, _, hl, hm, hz, hx, hcell, _⟩
  · obtain rfl := List.singleton_inj.1 hcs
    exact ⟨none, [], 0, rfl, strs_nil _ _, by decide, fun _ => rfl, Nat.le_refl _⟩
  · obtain rfl := List.singleton_inj.1 hcs
    simp only [if_true] at hz
    have hlen : (ss.take len).length = len := by rw [List.length_take]; omega
    refine ⟨some a, ss.take len, cap, by rw [hlen], ?_, by rw [hlen]; omega, (fun h => by cases h), by rw [hlen]; exact hl⟩
    intro k hk
    have hk' : k < ss.length := by omega
    refine ⟨a, rfl, ?_, ?_⟩
    · rw [hcell k hk', List.getElem_take]
      simp [List.getD, hk']
    · have hm' : (DataW.lit (.string (ss.take len)[k].data.toList) : DataW H) ∈ strs (ss.take len) := by
        unfold strs
        exact List.mem_map.2 ⟨_, List.getElem_mem hk, rfl⟩
      have h1 : x.1 = DataW.slice (strs (ss.take len)) (strs (ss.drop len)) := by rw [hx]
      rw [h1] at hsz
      have h2 := (hsz.elem Tryd.underlying30 hm').text
      rw [toList_size] at h2
      omega

theorem structOp : ∃ f0 f1 f2 : Field, Tryd.prog.underlying 34 = some (.struct #[f0, f1, f2]) ∧ oneCellFields Tryd.prog #[f0, f1, f2] = true ∧ f0.type = 3 ∧ f1.type = 3 ∧ f2.type = 30 :=
  ⟨_, _, _, Tryd.underlying34, by kernel_rfl, rfl, rfl, rfl⟩
theorem cellsOp : Tryd.prog.cellsOf 34 = 3 := by kernel_rfl
theorem range64 {x : Int} (h : (Lit.int .i64 x).wf = true) : -9223372036854775808 ≤ x ∧ x ≤ 9223372036854775807 := by
  have h1 : IntKind.i64.min = -9223372036854775808 := rfl
  have h2 : IntKind.i64.max = 9223372036854775807 := rfl
  simp only [Lit.wf, Bool.and_eq_true, decide_eq_true_eq, h1, h2] at h
  exact h
/-- A script that came in. -/
theorem open_ops {H : Type} {enc : TypeId × Value → H} {W : World} {base : Nat} {v : Value} {d : DataW H} {p : List MemPlace}
    (hv : Value.okWide Tryd.prog W .any base 22 v) (h : DataW.Trod enc Tryd.prog W 0 (fun _ => true) true 22 v d p)
    (hsz : Base.Small Tryd.prog 22 d) :
    ∃ (A : Option Addr) (os : List Opn) (cap : Nat), v = .slice A os.length cap ∧ Ops W A os ∧ os.length ≤ maxLen := by
  obtain ⟨f0, f1, f2, hst, hone, e0, e1, e2⟩ := structOp
  obtain ⟨a0, len, cap, rfl⟩ := okWide_slice Tryd.underlying22 hv
  obtain ⟨fuel, hf⟩ := h
  rcases open_slice Tryd.underlying22 hf with ⟨hcs, hx⟩ | ⟨a, len', cap', m, n, D, Pl, hcs, _, hl, hm, hmm, hx, hi⟩
  · simp [Value.cells] at hcs
    obtain ⟨rfl, rfl, rfl⟩ := hcs
    exact ⟨none, [], 0, rfl, fun k hk => absurd hk (by simp), by decide⟩
  · simp [Value.cells] at hcs
    obtain ⟨rfl, rfl, rfl⟩ := hcs
    simp only [if_true] at hmm
    simp only [Prod.mk.injEq] at hx
    obtain ⟨hx, _⟩ := hx
    have each : ∀ i, i < len → ∃ o : Opn, o.Ok W ∧ W.cell? (a.add (i * 3)) = some (.int .i64 o.k) ∧ W.cell? (a.add (i * 3 + 1)) = some (.int .i64 o.n) ∧ W.cell? (a.add (i * 3 + 2)) = some (.slice o.A o.ss.length o.c) := by
      intro i hil
      obtain ⟨cs', hc, hr⟩ := hi i (by omega)
      rw [cellsOp] at hc
      obtain ⟨xs, n', _, hy, hlen, hxl, hg⟩ := DataW.trod_struct hst hr
      obtain ⟨_, hcl, hat⟩ := World.cells?_some hc
      obtain ⟨o0, k0⟩ := hone_of hone 0 f0 rfl
      obtain ⟨o1, k1⟩ := hone_of hone 1 f1 rfl
      obtain ⟨o2, k2⟩ := hone_of hone 2 f2 rfl
      match cs', hcl with
      | [c0, c1, c2], _ =>
        match xs, hxl with
        | [y0, y1, y2], _ =>
          have g0 := hg 0 f0 rfl
          have g1 := hg 1 f1 rfl
          have g2 := hg 2 f2 rfl
          rw [o0, k0, e0] at g0
          rw [o1, k1, e1] at g1
          rw [o2, k2, e2] at g2
          change DataW.trod enc Tryd.prog W 0 (fun _ => true) true n' 3 [c0] = some y0 at g0
          change DataW.trod enc Tryd.prog W 0 (fun _ => true) true n' 3 [c1] = some y1 at g1
          change DataW.trod enc Tryd.prog W 0 (fun _ => true) true n' 30 [c2] = some y2 at g2
          obtain ⟨x0, q0, r0, w0⟩ := DataW.trod_int Tryd.underlying3 g0
          obtain ⟨x1, q1, r1, w1⟩ := DataW.trod_int Tryd.underlying3 g1
          simp at q0 q1
          subst q0; subst q1
          have hel := (hx ▸ hsz).elem Tryd.underlying22 (d := D i) (List.mem_map.2 ⟨i, List.mem_range.2 hil, rfl⟩)
          simp only [Prod.mk.injEq] at hy
          rw [hy.1] at hel
          have hp := hel.part (j := 2) (f := f2) hst rfl (d := y2.1) rfl
          rw [e2] at hp
          obtain ⟨A, ss, c, rfl, hs, hln, hA⟩ := open_inner g2 hp
          have h0 := hat 0 (by omega)
          have h1 := hat 1 (by omega)
          have h2 := hat 2 (by omega)
          simp only [Go.Deep.add_add] at h0 h1 h2
          have hrg := range64 w1
          refine ⟨⟨x0, x1, A, c, ss⟩, ⟨hrg.1, hrg.2, hs, hA, hln⟩, ?_, h1, h2⟩
          rw [Nat.add_zero] at h0
          exact h0
    have choice : ∃ f : Nat → Opn, ∀ i, i < len → (f i).Ok W ∧ W.cell? (a.add (i * 3)) = some (.int .i64 (f i).k) ∧ W.cell? (a.add (i * 3 + 1)) = some (.int .i64 (f i).n) ∧ W.cell? (a.add (i * 3 + 2)) = some (.slice (f i).A (f i).ss.length (f i).c) := by
      refine ⟨fun i => if hi : i < len then (each i hi).choose else ⟨0, 0, none, 0, []⟩, fun i hi => ?_⟩
      simp only [dif_pos hi]
      exact (each i hi).choose_spec
    obtain ⟨f, hfn⟩ := choice
    refine ⟨some a, (List.range len).map f, cap, by simp, ?_, by simp; omega⟩
    intro k hk
    have hk' : k < len := by simpa using hk
    have hspec := hfn k hk'
    have hspot : a.spot = none := by
      have := World.cell?_spot (hfn 0 (by omega)).2.1
      simpa [Addr.add] using this
    obtain ⟨ab, ao, asp⟩ := a
    simp only at hspot
    subst hspot
    simp only [add_plain, ← Nat.add_assoc] at hspec
    have e : ((List.range len).map f)[k] = f k := by simp
    rw [e]
    exact ⟨hspec.1, ab, ao, rfl, hspec.2⟩
end Go.Proofs.YtfdhckfpkhoheaaDoor.Journal
