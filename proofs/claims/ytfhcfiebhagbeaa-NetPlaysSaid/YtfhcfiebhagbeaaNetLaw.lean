/-
  Layer 11's laws: what came in; awake, great. Conditions: none.
-/
import Derived.Test.YtfhcfiebhagbeaaNetSend
import Derived.Test.YtfhcfiebhagbeaaNetTake
import Derived.Test.YtfhcfiebhagbeaaNetCut
import Derived.Test.YtfhcfiebhagbeaaOpenR
namespace Go.Proofs.Ytfhcfiebhagbeaa.Net
set_option maxRecDepth 100000
open Go.ChangeShapes Go.WideShapes Go.ChangeAt Go.RowKit Go.Deep Go.Proofs.Ytfhcfiebhagbeaa.Mem

section
variable {H : Type} {enc : TypeId × Value → H} {W : World}
/-- Packets that came in. -/
theorem came_pks {c : Value} (h : Came Try.prog enc W 31 c) : ∃ (A : Option Addr) (l : List Pk) (cap : Nat), c = .slice A l.length cap ∧ Pks W A l ∧ l.length ≤ 140737488351232 ∧ Cap A l.length cap ∧ ∀ p ∈ l, p.ok := by
  obtain ⟨f0, f1, f2, f3, hst, hone, e0, e1, e2, e3⟩ : ∃ f0 f1 f2 f3 : Field, Try.prog.underlying 39 = some (.struct #[f0, f1, f2, f3]) ∧ oneCellFields Try.prog #[f0, f1, f2, f3] = true ∧ f0.type = 3 ∧ f1.type = 3 ∧ f2.type = 9 ∧ f3.type = 4 :=
    ⟨_, _, _, _, Try.underlying39, by kernel_rfl, rfl, rfl, rfl, rfl⟩
  obtain ⟨A, vs, cap, rfl, h1, h2, h3, h4⟩ := h.rows Try.underlying31 hst hone cells_pk (by show 0 < 4; decide) (of_decide_eq_true (by kernel_rfl))
  have each : ∀ vs : List (List Value), (∀ v ∈ vs, Fields Try.prog enc W #[f0, f1, f2, f3] v) → ∃ l : List Pk, vs = l.map Pk.vals ∧ ∀ p ∈ l, p.ok := by
    intro vs
    induction vs with
    | nil => intro _; exact ⟨[], rfl, fun p hp => (by cases hp)⟩
    | cons v vs ih =>
      intro hv
      obtain ⟨l, rfl, hl⟩ := ih fun x hx => hv x (List.mem_cons_of_mem _ hx)
      obtain ⟨hlen, hf⟩ := hv v List.mem_cons_self
      match v, hlen with
      | [c0, c1, c2, c3], _ =>
        have g0 := hf 0 f0 c0 rfl rfl
        have g1 := hf 1 f1 c1 rfl rfl
        have g2 := hf 2 f2 c2 rfl rfl
        have g3 := hf 3 f3 c3 rfl rfl
        rw [e0] at g0
        rw [e1] at g1
        rw [e2] at g2
        rw [e3] at g3
        obtain ⟨x0, rfl, w0⟩ := g0.int Try.underlying3
        obtain ⟨x1, rfl, w1⟩ := g1.int Try.underlying3
        obtain ⟨x2, rfl, w2⟩ := g2.string Try.underlying9
        obtain ⟨x3, rfl⟩ := g3.bool Try.underlying4
        refine ⟨⟨x0, x1, x2, x3⟩ :: l, rfl, fun p hp => ?_⟩
        rcases List.mem_cons.1 hp with rfl | hp
        · exact ⟨i64_wf w0, i64_wf w1, w2⟩
        · exact hl p hp
  obtain ⟨l, rfl, hl⟩ := each vs h4
  rw [List.length_map] at h2 h3 ⊢
  exact ⟨A, l, cap, rfl, h1, h2, h3, hl⟩
/-- An operation of a script. -/
structure Opk where
  k : Int
  a : Int
  b : Int
  A : Option Addr
  c : Nat
  l : List Pk
def Opk.vals (o : Opk) : List Value := [.int .i64 o.k, .int .i64 o.a, .int .i64 o.b, .slice o.A o.l.length o.c]
structure Opk.Ok (w : World) (o : Opk) : Prop where
  k : I64 o.k
  a : I64 o.a
  b : I64 o.b
  pks : Pks w o.A o.l
  len : o.l.length ≤ 140737488351232
  cap : Cap o.A o.l.length o.c
  oks : ∀ p ∈ o.l, p.ok
theorem Opk.Ok.later {w w' : World} {o : Opk} (h : o.Ok w) (hb : Below w.heap.size w w') : o.Ok w' := ⟨h.k, h.a, h.b, h.pks.later hb, h.len, h.cap, h.oks⟩
theorem fields_op {fs : Array Field} {v : List Value} (hst : Try.prog.underlying 33 = some (.struct fs)) (h : Fields Try.prog enc W fs v) : ∃ o : Opk, v = o.vals ∧ o.Ok W := by
  obtain ⟨f0, f1, f2, f3, hs, e0, e1, e2, e3⟩ : ∃ f0 f1 f2 f3 : Field, Try.prog.underlying 33 = some (.struct #[f0, f1, f2, f3]) ∧ f0.type = 3 ∧ f1.type = 3 ∧ f2.type = 3 ∧ f3.type = 31 :=
    ⟨_, _, _, _, Try.underlying33, rfl, rfl, rfl, rfl⟩
  rw [hs] at hst
  obtain rfl : #[f0, f1, f2, f3] = fs := by simpa using hst
  obtain ⟨hlen, hf⟩ := h
  match v, hlen with
  | [c0, c1, c2, c3], _ =>
    have g0 := hf 0 f0 c0 rfl rfl
    have g1 := hf 1 f1 c1 rfl rfl
    have g2 := hf 2 f2 c2 rfl rfl
    have g3 := hf 3 f3 c3 rfl rfl
    rw [e0] at g0
    rw [e1] at g1
    rw [e2] at g2
    rw [e3] at g3
    obtain ⟨x0, rfl, w0⟩ := g0.int Try.underlying3
    obtain ⟨x1, rfl, w1⟩ := g1.int Try.underlying3
    obtain ⟨x2, rfl, w2⟩ := g2.int Try.underlying3
    obtain ⟨A, l, cap, rfl, h1, h2, h3, h4⟩ := came_pks g3
    exact ⟨⟨x0, x1, x2, A, cap, l⟩, rfl, i64_wf w0, i64_wf w1, i64_wf w2, h1, h2, h3, h4⟩
theorem cellsOp : Try.prog.cellsOf 33 = 4 := by kernel_rfl
theorem oneOp : ∃ fs : Array Field, Try.prog.underlying 33 = some (.struct fs) ∧ fs.size = 4 ∧ oneCellFields Try.prog fs = true := ⟨_, Try.underlying33, rfl, by kernel_rfl⟩
/-- The slice whose first cell is at A holds these operations. -/
def Opks (w : World) (A : Option Addr) (os : List Opk) : Prop := Sl w A 4 (os.map Opk.vals) ∧ ∀ o ∈ os, o.Ok w
theorem Opks.later {w w' : World} {A : Option Addr} {os : List Opk} (h : Opks w A os) (hb : Below w.heap.size w w') : Opks w' A os := ⟨h.1.later hb, fun o ho => (h.2 o ho).later hb⟩
theorem Opks.at {w : World} {A : Option Addr} {os : List Opk} (h : Opks w A os) {k : Nat} (hk : k < os.length) : ∃ g off, A = some ⟨g, off, none⟩ ∧ w.rangeAt g (off + k * 4) os[k].vals ∧ os[k].Ok w := by
  obtain ⟨g, off, e, hr⟩ := h.1 k (by rw [List.length_map]; exact hk)
  rw [List.getElem_map] at hr
  exact ⟨g, off, e, hr, h.2 _ (List.getElem_mem hk)⟩
theorem came_ops {c : Value} (h : Came Try.prog enc W 22 c) : ∃ (A : Option Addr) (os : List Opk) (cap : Nat), c = .slice A os.length cap ∧ Opks W A os ∧ os.length ≤ 140737488351232 ∧ Cap A os.length cap := by
  obtain ⟨fs, hst, hsz, hone⟩ := oneOp
  obtain ⟨A, vs, cap, rfl, h1, h2, h3, h4⟩ := h.rows Try.underlying22 hst hone (by rw [hsz]; exact cellsOp) (by omega) (of_decide_eq_true (by kernel_rfl))
  have each : ∀ vs : List (List Value), (∀ v ∈ vs, Fields Try.prog enc W fs v) → ∃ l : List Opk, vs = l.map Opk.vals ∧ ∀ o ∈ l, o.Ok W := by
    intro vs
    induction vs with
    | nil => intro _; exact ⟨[], rfl, fun p hp => (by cases hp)⟩
    | cons v vs ih =>
      intro hv
      obtain ⟨l, rfl, hl⟩ := ih fun x hx => hv x (List.mem_cons_of_mem _ hx)
      obtain ⟨o, rfl, ho⟩ := fields_op hst (hv v List.mem_cons_self)
      refine ⟨o :: l, rfl, fun p hp => ?_⟩
      rcases List.mem_cons.1 hp with rfl | hp
      · exact ho
      · exact hl p hp
  obtain ⟨l, rfl, hl⟩ := each vs h4
  rw [hsz] at h1
  rw [List.length_map] at h2 h3 ⊢
  exact ⟨A, l, cap, rfl, ⟨h1, hl⟩, h2, h3⟩
end
/-- How many packets all operations have. -/
def total (os : List Opk) : Nat := (os.map fun o => o.l.length).sum
theorem total_take (os : List Opk) (k : Nat) (h : k < os.length) : total (os.take (k + 1)) = total (os.take k) + os[k].l.length := by
  rw [List.take_succ_eq_append_getElem h]
  unfold total
  rw [List.map_append, List.sum_append]
  rfl
theorem total_le (os : List Opk) (k : Nat) : total (os.take k) ≤ total os := by
  have h : total os = total (os.take k) + total (os.drop k) := by
    unfold total
    rw [← List.sum_append, ← List.map_append, List.take_append_drop]
  omega
/-- Is a script more than is played? -/
def greatN (os : List Opk) : Bool := decide (80 < os.length) || decide (400 < total os)
theorem great_any (A : Option Addr) (os : List Opk) (cap : Nat) (w : World) (h : Opks w A os) (hl : os.length ≤ 140737488351232) :
    Calls Try.prog 10 #[.slice A os.length cap] w fun e w' => e = .returned (.bool (greatN os)) ∧ Below w.heap.size w w' := by
  obtain ⟨n, hn⟩ : ∃ n, os.length = n := ⟨_, rfl⟩
  have HH := Lib.hid h
  have HL := Lib.hid hn
  have hnl : n ≤ 140737488351232 := by rw [← hn]; exact hl
  by_cases h1 : 80 < n
  · have e1 : decide ((n : Int) > 80) = true := by simp; omega
    have HG : Hid (greatN os = true) := Lib.hid (by unfold greatN; rw [hn]; simp [h1])
    rw [hn, HG.out]
    clear h hl hn
    go_enter Try.func10, Try.ntmps10
    go_wp2_with fail
    go_returns
    exact ⟨rfl, Below.refl _ _⟩
  · have e1 : decide ((n : Int) > 80) = false := by simp; omega
    have HG : Hid (greatN os = decide (400 < total os)) := Lib.hid (by unfold greatN; rw [hn]; simp [h1])
    rw [hn, HG.out]
    obtain ⟨ans, hans⟩ : ∃ B, decide (400 < total os) = B := ⟨_, rfl⟩
    have HANS := Lib.hid hans
    rw [hans]
    clear h hl hn HG hans
    go_enter Try.func10, Try.ntmps10
    go_wp2_with fail
    go_loopw [3, 5, 11] (fun x _ i wr => ∃ k : Nat, k ≤ n ∧ i = .int .i64 (k : Int) ∧ x = .int .i64 (total (os.take k) : Int) ∧ Hid (total (os.take k) ≤ 400) ∧ Hid (Below w.heap.size w wr)) (fun _ _ i _ => n - (intOf i).toNat)
    case atStart => exact ⟨0, Nat.zero_le _, rfl, rfl, Lib.hid (Nat.zero_le _), Lib.hid (Below.refl _ _)⟩
    case round =>
      obtain ⟨k, hk, rfl, rfl, HT, HB⟩ := hrel
      by_cases hkn : k < n
      · have hkl : k < os.length := by rw [HL.out]; exact hkn
        obtain ⟨g, off, rfl, hr, ho⟩ := (HH.out.later HB.out).at hkl
        have HTK := Lib.hid (total_take os k hkl)
        obtain ⟨⟨ok, oa, ob, oA, oc, ol⟩, hoe⟩ : ∃ o, os[k] = o := ⟨_, rfl⟩
        rw [hoe] at hr ho HTK
        have x0 := hr 0 _ rfl
        rw [Nat.add_zero] at x0
        have x1 := hr 1 _ rfl
        have x2 := hr 2 _ rfl
        have x3 := hr 3 _ rfl
        dsimp only at x0 x1 x2 x3 HTK
        have hol := ho.len
        dsimp only at hol
        obtain ⟨q, hq⟩ : ∃ q, ol.length = q := ⟨_, rfl⟩
        rw [hq] at x3 HTK hol
        have ht := HT.out
        have htl := Lib.hid (total_le os (k + 1))
        have HBA := Lib.hid (HB.out.trans ((below_alloc wr (.cells #[.int .i64 ok, .int .i64 oa, .int .i64 ob, .slice oA q oc] 33)).mono HB.out.size))
        obtain ⟨tt, htt⟩ : ∃ tt, total (os.take k) = tt := ⟨_, rfl⟩
        rw [htt] at ht HTK ⊢
        clear hr ho hoe hq HT htt
        by_cases hgr : 400 < tt + q
        · have e3 : decide ((tt : Int) + (q : Int) > 400) = true := by simp; omega
          have HE : Hid (ans = true) := Lib.hid (by rw [← HANS.out]; have := htl.out; rw [HTK.out] at this; simp; omega)
          go_wp2_with fail
          go_returns
          exact ⟨ret_bool HE.out, HBA.out⟩
        · have e3 : decide ((tt : Int) + (q : Int) > 400) = false := by simp; omega
          go_wp2_with fail
          go_roundw
          case rel => exact ⟨k + 1, by omega, by go_num, by rw [HTK.out]; simp, Lib.hid (by rw [HTK.out]; omega), HBA⟩
          case measure => simp [intOf]; omega
      · obtain rfl : k = n := by omega
        have e4 : os.take k = os := by rw [← HL.out]; exact List.take_length
        have HE : Hid (ans = false) := Lib.hid (by rw [← HANS.out]; have := HT.out; rw [e4] at this; simp; omega)
        clear e4
        go_wp2_with fail
        go_returns
        exact ⟨ret_bool HE.out, HB.out⟩
end Go.Proofs.Ytfhcfiebhagbeaa.Net
