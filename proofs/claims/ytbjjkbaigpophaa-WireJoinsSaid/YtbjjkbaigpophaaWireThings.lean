/-
  A slice of things (layer 2's laws): how it lies in memory, and what 'long' answers of it. Conditions: none.
-/
import Derived.Test.YtbjjkbaigpophaaWireRef
import Derived.Test.YtbjjkbaigpophaaBase
import Derived.Deep.DeepHandedRow
import Derived.Lib.LaidTab
import Derived.Deep.Slices
import Derived.Deep.Fields
import Derived.ChangeSame
namespace Go.Proofs.Ytbjjkbaigpophaa.Wire
open Go.ChangeShapes Go.WideShapes Go.ChangeAt Go.RowKit Go.Deep Go.Proofs.Ytbjjkbaigpophaa.Mem

/-- The slice whose first cell is at A holds these things. -/
def Things (w : World) (A : Option Addr) (ts : List Th) : Prop := ∀ k (h : k < ts.length), ts[k].ok ∧ ∃ b off, A = some ⟨b, off, none⟩ ∧
  w.cell? ⟨b, off + k * 3, none⟩ = some (.int .i64 ts[k].k) ∧ w.cell? ⟨b, off + k * 3 + 1, none⟩ = some (.int .i64 ts[k].n) ∧ w.cell? ⟨b, off + k * 3 + 2, none⟩ = some (.string ts[k].s)
theorem things_nil (w : World) (A : Option Addr) : Things w A [] := fun k hk => absurd hk (by simp)
theorem Things.later {w w' : World} {A : Option Addr} {ts : List Th} (h : Things w A ts) (hb : Below w.heap.size w w') : Things w' A ts := by
  intro k hlt
  obtain ⟨ho, b, off, e, h0, h1, h2⟩ := h k hlt
  exact ⟨ho, b, off, e, (hb.cell (block_of_cell h0)).trans h0, (hb.cell (block_of_cell h1)).trans h1, (hb.cell (block_of_cell h2)).trans h2⟩

theorem structThing : ∃ f0 f1 f2 : Field, Try.prog.underlying 29 = some (.struct #[f0, f1, f2]) ∧ oneCellFields Try.prog #[f0, f1, f2] = true ∧ f0.type = 3 ∧ f1.type = 3 ∧ f2.type = 9 :=
  ⟨_, _, _, Try.underlying29, by kernel_rfl, rfl, rfl, rfl⟩
theorem cellsThing : Try.prog.cellsOf 29 = 3 := by kernel_rfl

theorem i64_range {x : Int} (h : (Lit.int .i64 x).wf = true) : -9223372036854775808 ≤ x ∧ x ≤ 9223372036854775807 := by
  have h1 : IntKind.i64.min = -9223372036854775808 := rfl
  have h2 : IntKind.i64.max = 9223372036854775807 := rfl
  simp only [Lit.wf, Bool.and_eq_true, decide_eq_true_eq, h1, h2] at h
  exact h

theorem u8_range {x : Int} (h : (Lit.int .u8 x).wf = true) : 0 ≤ x ∧ x < 256 := by
  have h1 : IntKind.u8.min = 0 := rfl
  have h2 : IntKind.u8.max = 255 := rfl
  simp only [Lit.wf, Bool.and_eq_true, decide_eq_true_eq, h1, h2] at h
  omega

theorem choose_below {α : Type} {n : Nat} {Q : Nat → α → Prop} (x0 : α) (h : ∀ i, i < n → ∃ x, Q i x) : ∃ f : Nat → α, ∀ i, i < n → Q i (f i) := by
  refine ⟨fun i => if hi : i < n then (h i hi).choose else x0, fun i hi => ?_⟩
  show Q i (if hi : i < n then (h i hi).choose else x0)
  rw [dif_pos hi]
  exact (h i hi).choose_spec

/-- A slice of things that came in. -/
theorem open_things {H : Type} {enc : TypeId × Value → H} {W : World} {base : Nat} {v : Value} {d : DataW H} {p : List MemPlace}
    (hv : Value.okWide Try.prog W .any base 22 v) (h : DataW.Trod enc Try.prog W 0 (fun _ => true) true 22 v d p)
    (hsz : Base.Small Try.prog 22 d) :
    ∃ (A : Option Addr) (ts : List Th) (cap : Nat), v = .slice A ts.length cap ∧ Things W A ts ∧ ts.length ≤ maxLen ∧ (A = none → cap = 0) := by
  obtain ⟨f0, f1, f2, hst, hone, e0, e1, e2⟩ := structThing
  obtain ⟨a0, len, cap, rfl⟩ := okWide_slice Try.underlying22 hv
  obtain ⟨fuel, hf⟩ := h
  rcases open_slice Try.underlying22 hf with ⟨hcs, hx⟩ | ⟨a, len', cap', m, n, D, Pl, hcs, _, hl, hm, hmm, hx, hi⟩
  · simp [Value.cells] at hcs
    obtain ⟨rfl, rfl, rfl⟩ := hcs
    exact ⟨none, [], 0, rfl, things_nil _ _, by decide, fun _ => rfl⟩
  · simp [Value.cells] at hcs
    obtain ⟨rfl, rfl, rfl⟩ := hcs
    simp only [if_true] at hmm
    simp only [Prod.mk.injEq] at hx
    obtain ⟨hx, _⟩ := hx
    have each : ∀ i, i < len → ∃ t : Th, t.ok ∧ W.cell? (a.add (i * 3)) = some (.int .i64 t.k) ∧ W.cell? (a.add (i * 3 + 1)) = some (.int .i64 t.n) ∧ W.cell? (a.add (i * 3 + 2)) = some (.string t.s) := by
      intro i hil
      obtain ⟨cs', hc, hr⟩ := hi i (by omega)
      rw [cellsThing] at hc
      obtain ⟨xs, n', _, hy, hlen, hxl, hg⟩ := DataW.trod_struct hst hr
      obtain ⟨_, hcl, hat⟩ := World.cells?_some hc
      obtain ⟨o0, k0⟩ := hone_of hone 0 f0 rfl
      obtain ⟨o1, k1⟩ := hone_of hone 1 f1 rfl
      obtain ⟨o2, k2⟩ := hone_of hone 2 f2 rfl
      match cs', hcl with
      | [c0, c1, c2], _ =>
        match xs, hxl with
        | [y0, y1, y2], _ =>
          have g0 := hg 0 f0 rfl
          have g1 := hg 1 f1 rfl
          have g2 := hg 2 f2 rfl
          rw [o0, k0, e0] at g0
          rw [o1, k1, e1] at g1
          rw [o2, k2, e2] at g2
          change DataW.trod enc Try.prog W 0 (fun _ => true) true n' 3 [c0] = some y0 at g0
          change DataW.trod enc Try.prog W 0 (fun _ => true) true n' 3 [c1] = some y1 at g1
          change DataW.trod enc Try.prog W 0 (fun _ => true) true n' 9 [c2] = some y2 at g2
          obtain ⟨x0, q0, r0, w0⟩ := DataW.trod_int Try.underlying3 g0
          obtain ⟨x1, q1, r1, w1⟩ := DataW.trod_int Try.underlying3 g1
          obtain ⟨x2, q2, r2, w2⟩ := DataW.trod_string Try.underlying9 g2
          simp at q0 q1 q2
          subst q0; subst q1; subst q2
          have h0 := hat 0 (by omega)
          have h1 := hat 1 (by omega)
          have h2 := hat 2 (by omega)
          simp only [Go.Deep.add_add] at h0 h1 h2
          have hb : x2.data.toList.length ≤ 140737488351232 := by
            have hel := (hx ▸ hsz).elem Try.underlying22 (d := D i) (List.mem_map.2 ⟨i, List.mem_range.2 hil, rfl⟩)
            simp only [Prod.mk.injEq] at hy
            rw [hy.1] at hel
            have hp := hel.part (j := 2) (f := f2) hst rfl (d := y2.1) rfl
            rw [r2] at hp
            exact hp.text
          rw [toList_size] at hb
          have hs2 : x2.size ≤ 140737488355328 := by omega
          refine ⟨⟨x0, x1, x2⟩, ⟨i64_range w0, i64_range w1, hs2⟩, ?_, ?_, ?_⟩
          · rw [Nat.add_zero] at h0
            exact h0
          · exact h1
          · exact h2
    obtain ⟨f, hfn⟩ := choose_below th0 each
    refine ⟨some a, (List.range len).map f, cap, by simp, ?_, by simp; omega, fun h => by cases h⟩
    intro k hk
    have hk' : k < len := by simpa using hk
    have hspec := hfn k hk'
    have hspot : a.spot = none := by
      have := World.cell?_spot (hfn 0 (by omega)).2.1
      simpa [Addr.add] using this
    obtain ⟨ab, ao, asp⟩ := a
    simp only at hspot
    subst hspot
    simp only [add_plain, ← Nat.add_assoc] at hspec
    have e : ((List.range len).map f)[k] = f k := by simp
    rw [e]
    exact ⟨hspec.1, ab, ao, rfl, hspec.2⟩

theorem sum_take (l : List Nat) (k : Nat) (h : k < l.length) : (l.take (k + 1)).sum = (l.take k).sum + l[k] := by
  rw [List.take_succ_eq_append_getElem h, List.sum_append]; simp
theorem sum_take_le (l : List Nat) (k : Nat) : (l.take k).sum ≤ l.sum := by
  have h : l.sum = (l.take k).sum + (l.drop k).sum := by rw [← List.sum_append, List.take_append_drop]
  omega

set_option maxHeartbeats 1000000 in
theorem long_no (A : Option Addr) (ts : List Th) (cap : Nat) (w : World) (hs : Things w A ts) (hl : (ts.map (·.s.size)).sum ≤ 200000) (hn : ts.length ≤ 100) :
    Calls Try.prog 9 #[.slice A ts.length cap] w fun e w' => e = .returned (.bool false) ∧ Below w.heap.size w w' := by
  go_enter Try.func9, Try.ntmps9
  go_wp2
  go_loopw [3, 11] (fun n i wr => ∃ k : Nat, k ≤ ts.length ∧ i = .int .i64 k ∧ n = .int .i64 (((ts.map (·.s.size)).take k).sum : Nat) ∧ Below w.heap.size w wr) (fun _ i _ => ts.length - (intOf i).toNat)
  case atStart => exact ⟨0, Nat.zero_le _, rfl, rfl, Below.refl _ _⟩
  case round =>
    obtain ⟨k, hk, rfl, rfl, hb⟩ := hrel
    by_cases hlt : k < ts.length
    · obtain ⟨hok, b, off, rfl, h0, h1, h2⟩ := (hs k hlt)
      have c0 := (hb.cell (block_of_cell h0)).trans h0
      have c1 := (hb.cell (block_of_cell h1)).trans h1
      have c2 := (hb.cell (block_of_cell h2)).trans h2
      have hsum := sum_take (ts.map (·.s.size)) k (by simpa using hlt)
      have hle := sum_take_le (ts.map (·.s.size)) (k + 1)
      rw [List.getElem_map] at hsum
      generalize ts[k] = t at *
      obtain ⟨tk, tn, s⟩ := t
      simp only at h0 h1 h2 c0 c1 c2 hsum
      have HS := Lib.hid hsum
      rw [hsum] at hle
      generalize ((ts.map (·.s.size)).take k).sum = m at *
      have hle2 : m + s.size ≤ 200000 := by omega
      have hbs := hb.size
      clear hsum hl h0 h1 h2 hle
      go_wp2
      go_roundw
      case rel => exact ⟨k + 1, by omega, by go_num, by rw [HS.out]; go_num, hb.alloc hbs _⟩
      case measure => simp [intOf]; omega
    · go_wp2
      go_ret
      exact ⟨rfl, hb⟩

set_option maxHeartbeats 1000000 in
theorem long_yes (A : Option Addr) (ts : List Th) (cap : Nat) (w : World) (hs : Things w A ts) (hm : ts.length ≤ maxLen) (h : 100 < ts.length ∨ 200000 < (ts.map (·.s.size)).sum) :
    Calls Try.prog 9 #[.slice A ts.length cap] w fun e w' => e = .returned (.bool true) ∧ Below w.heap.size w w' := by
  unfold maxLen at hm
  by_cases h1 : 100 < ts.length
  · clear h
    go_enter Try.func9, Try.ntmps9
    go_wp2
    go_ret
    exact ⟨rfl, Below.refl _ _⟩
  · have h2 : 200000 < (ts.map (·.s.size)).sum := by omega
    clear h
    go_enter Try.func9, Try.ntmps9
    go_wp2
    go_loopw [3, 11] (fun n i wr => ∃ k : Nat, k ≤ ts.length ∧ i = .int .i64 k ∧ n = .int .i64 (((ts.map (·.s.size)).take k).sum : Nat) ∧ ((ts.map (·.s.size)).take k).sum ≤ 200000 ∧ Below w.heap.size w wr) (fun _ i _ => ts.length - (intOf i).toNat)
    case atStart => exact ⟨0, Nat.zero_le _, rfl, rfl, by simp, Below.refl _ _⟩
    case round =>
      obtain ⟨k, hk, rfl, rfl, hle, hb⟩ := hrel
      by_cases hlt : k < ts.length
      · obtain ⟨hok, b, off, rfl, h0, h1, h2⟩ := (hs k hlt)
        have c0 := (hb.cell (block_of_cell h0)).trans h0
        have c1 := (hb.cell (block_of_cell h1)).trans h1
        have c2 := (hb.cell (block_of_cell h2)).trans h2
        have hsum := sum_take (ts.map (·.s.size)) k (by simpa using hlt)
        have hss := hok.2.2
        rw [List.getElem_map] at hsum
        generalize ts[k] = t at *
        obtain ⟨tk, tn, s⟩ := t
        simp only at h0 h1 h2 c0 c1 c2 hsum hss
        have HS := Lib.hid hsum
        generalize hm' : ((ts.map (·.s.size)).take k).sum = m at *
        have hbs := hb.size
        clear hsum h0 h1 h2 hm'
        by_cases hov : m + s.size ≤ 200000
        · go_wp2
          go_roundw
          case rel => exact ⟨k + 1, by omega, by go_num, by rw [HS.out]; go_num, by rw [HS.out]; exact hov, hb.alloc hbs _⟩
          case measure => simp [intOf]; omega
        · go_wp2
          go_ret
          exact ⟨rfl, hb.alloc hbs _⟩
      · exfalso
        rw [List.take_of_length_le (by simp; omega)] at hle
        omega
end Go.Proofs.Ytbjjkbaigpophaa.Wire
