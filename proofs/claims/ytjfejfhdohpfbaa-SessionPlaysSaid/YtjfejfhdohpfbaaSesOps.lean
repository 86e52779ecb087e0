/-
  Layer 14: scripts that came in; is one too great? Conditions: none.
-/
import Derived.Test.YtjfejfhdohpfbaaSesPlain
import Derived.Test.YtjfejfhdohpfbaaOpenS
import Derived.SliceStrings
namespace Go.Proofs.Ytjfejfhdohpfbaa.Ses
set_option maxRecDepth 100000
open Go.ChangeShapes Go.WideShapes Go.ChangeAt Go.RowKit Go.Deep Go.Proofs.Ytjfejfhdohpfbaa.Mem Go.Proofs.Ytjfejfhdohpfbaa.Win

theorem cellsString : Try.prog.cellsOf 9 = 1 := by kernel_rfl
theorem cellsStrings : Try.prog.cellsOf 44 = 1 := by kernel_rfl
theorem cellsInt : Try.prog.cellsOf 3 = 1 := by kernel_rfl
theorem cellsEnv : Try.prog.cellsOf 23 = 5 := by kernel_rfl
theorem cellsOp : Try.prog.cellsOf 46 = 8 := by kernel_rfl
/-- A slice of texts that lies within what came in. -/
theorem open_inner {H : Type} {enc : TypeId × Value → H} {W : World} {n : Nat} {v : Value} {x : DataW H × List MemPlace}
    (h : DataW.trod enc Try.prog W 0 (fun _ => true) true n 44 [v] = some x) (hsz : Base.Small Try.prog 44 x.1) :
    ∃ (A : Option Addr) (ss : List ByteArray) (c : Nat), v = .slice A ss.length c ∧ Strs W A ss ∧ ss.length ≤ maxLen ∧ Cap A ss.length c := by
  rcases open_strings Try.underlying44 Try.underlying9 cellsString h with ⟨hcs, _⟩ | ⟨a, len, cap, ss, hcs, _, hl, hm, hz, hx, hcell, _⟩
  · obtain rfl := List.singleton_inj.1 hcs
    exact ⟨none, [], 0, rfl, strs_nil _ _, by decide, fun _ => rfl, Nat.le_refl _⟩
  · obtain rfl := List.singleton_inj.1 hcs
    simp only [if_true] at hz
    have hlen : (ss.take len).length = len := by rw [List.length_take]; omega
    refine ⟨some a, ss.take len, cap, by rw [hlen], ?_, by rw [hlen]; omega, (fun h => by cases h), by rw [hlen]; exact hl⟩
    intro k hk
    have hk' : k < ss.length := by omega
    refine ⟨a, rfl, ?_, ?_⟩
    · rw [hcell k hk', List.getElem_take]
      simp [List.getD, hk']
    · have hm' : (DataW.lit (.string (ss.take len)[k].data.toList) : DataW H) ∈ strs (ss.take len) := by
        unfold strs
        exact List.mem_map.2 ⟨_, List.getElem_mem hk, rfl⟩
      have h1 : x.1 = DataW.slice (strs (ss.take len)) (strs (ss.drop len)) := by rw [hx]
      rw [h1] at hsz
      have h2 := (hsz.elem Try.underlying44 hm').text
      rw [toList_size] at h2
      omega

/-- A call of a script. -/
structure Opk where
  k : Int
  n : Int
  A : Option Addr
  c : Nat
  ss : List ByteArray
  e : Ev
def Opk.vals (o : Opk) : List Value := [.int .i64 o.k, .int .i64 o.n, .slice o.A o.ss.length o.c, .int .i64 o.e.kind, .int .i64 o.e.epoch, .int .i64 o.e.peer, .int .i64 o.e.seq, .string o.e.pay]
structure Opk.Ok (w : World) (o : Opk) : Prop where
  texts : Strs w o.A o.ss
  len : o.ss.length ≤ maxLen
  cap : Cap o.A o.ss.length o.c
  pay : o.e.pay.size ≤ 140737488355328
theorem Opk.Ok.later {w w' : World} {o : Opk} (h : o.Ok w) (hb : Below w.heap.size w w') : o.Ok w' := ⟨h.texts.later hb, h.len, h.cap, h.pay⟩
section
variable {H : Type} {enc : TypeId × Value → H} {W : World}
theorem came_int {c : Value} (h : CameS Try.prog enc W 3 [c]) : ∃ x, c = .int .i64 x := by
  obtain ⟨x, e, _⟩ := h.one.int Try.underlying3
  exact ⟨x, e⟩
theorem came_env {cs : List Value} (h : CameS Try.prog enc W 23 cs) : ∃ e : Ev, cs = e.vals ∧ e.pay.size ≤ 140737488355328 := by
  obtain ⟨f0, f1, f2, f3, f4, hst, ⟨e0, e1, e2, e3, e4⟩, o0, o1, o2, o3, o4⟩ : ∃ f0 f1 f2 f3 f4 : Field, Try.prog.underlying 23 = some (.struct #[f0, f1, f2, f3, f4]) ∧
    (f0.type = 3 ∧ f1.type = 3 ∧ f2.type = 3 ∧ f3.type = 3 ∧ f4.type = 9) ∧ f0.offset = 0 ∧ f1.offset = 1 ∧ f2.offset = 2 ∧ f3.offset = 3 ∧ f4.offset = 4 := ⟨_, _, _, _, _, Try.underlying23, ⟨rfl, rfl, rfl, rfl, rfl⟩, rfl, rfl, rfl, rfl, rfl⟩
  obtain ⟨hlen, hf⟩ := h.fields hst
  rw [cellsEnv] at hlen
  match cs, hlen with
  | [c0, c1, c2, c3, c4], _ =>
    have g0 := hf 0 f0 rfl
    have g1 := hf 1 f1 rfl
    have g2 := hf 2 f2 rfl
    have g3 := hf 3 f3 rfl
    have g4 := hf 4 f4 rfl
    rw [e0, o0, cellsInt] at g0
    rw [e1, o1, cellsInt] at g1
    rw [e2, o2, cellsInt] at g2
    rw [e3, o3, cellsInt] at g3
    rw [e4, o4, cellsString] at g4
    obtain ⟨x0, rfl⟩ := came_int (c := c0) g0
    obtain ⟨x1, rfl⟩ := came_int (c := c1) g1
    obtain ⟨x2, rfl⟩ := came_int (c := c2) g2
    obtain ⟨x3, rfl⟩ := came_int (c := c3) g3
    obtain ⟨x4, rfl, hz⟩ := (CameS.one (c := c4) g4).string Try.underlying9
    exact ⟨⟨x0, x1, x2, x3, x4⟩, rfl, Nat.le_trans hz (by decide)⟩
theorem came_op {cs : List Value} (h : CameS Try.prog enc W 46 cs) : ∃ o : Opk, cs = o.vals ∧ o.Ok W := by
  obtain ⟨f0, f1, f2, f3, hst, e0, e1, e2, e3, o0, o1, o2, o3⟩ : ∃ f0 f1 f2 f3 : Field, Try.prog.underlying 46 = some (.struct #[f0, f1, f2, f3]) ∧ f0.type = 3 ∧ f1.type = 3 ∧ f2.type = 44 ∧ f3.type = 23 ∧ f0.offset = 0 ∧ f1.offset = 1 ∧ f2.offset = 2 ∧ f3.offset = 3 :=
    ⟨_, _, _, _, Try.underlying46, rfl, rfl, rfl, rfl, rfl, rfl, rfl, rfl⟩
  obtain ⟨hlen, hf⟩ := h.fields hst
  rw [cellsOp] at hlen
  match cs, hlen with
  | [c0, c1, c2, c3, c4, c5, c6, c7], _ =>
    have g0 := hf 0 f0 rfl
    have g1 := hf 1 f1 rfl
    have g2 := hf 2 f2 rfl
    have g3 := hf 3 f3 rfl
    rw [e0, o0, cellsInt] at g0
    rw [e1, o1, cellsInt] at g1
    rw [e2, o2, cellsStrings] at g2
    rw [e3, o3, cellsEnv] at g3
    obtain ⟨x0, rfl⟩ := came_int (c := c0) g0
    obtain ⟨x1, rfl⟩ := came_int (c := c1) g1
    obtain ⟨n, y, h1, h2⟩ := CameS.one (c := c2) g2
    obtain ⟨A, ss, c, rfl, k1, k2, k3⟩ := open_inner h1 h2
    obtain ⟨e, he, hz⟩ := came_env (cs := [c3, c4, c5, c6, c7]) g3
    unfold Ev.vals at he
    simp only [List.cons.injEq, and_true] at he
    obtain ⟨rfl, rfl, rfl, rfl, rfl⟩ := he
    exact ⟨⟨x0, x1, A, c, ss, e⟩, rfl, k1, k2, k3, hz⟩
/-- The slice whose first cell is at A holds these calls. -/
def Opks (w : World) (A : Option Addr) (os : List Opk) : Prop := Sl w A 8 (os.map Opk.vals) ∧ ∀ o ∈ os, o.Ok w
theorem Opks.later {w w' : World} {A : Option Addr} {os : List Opk} (h : Opks w A os) (hb : Below w.heap.size w w') : Opks w' A os := ⟨h.1.later hb, fun o ho => (h.2 o ho).later hb⟩
theorem Opks.at {w : World} {A : Option Addr} {os : List Opk} (h : Opks w A os) {k : Nat} (hk : k < os.length) : ∃ g off, A = some ⟨g, off, none⟩ ∧ w.rangeAt g (off + k * 8) os[k].vals ∧ os[k].Ok w := by
  obtain ⟨g, off, e, hr⟩ := h.1 k (by rw [List.length_map]; exact hk)
  rw [List.getElem_map] at hr
  exact ⟨g, off, e, hr, h.2 _ (List.getElem_mem hk)⟩
theorem came_ops {c : Value} (h : Came Try.prog enc W 37 c) : ∃ (A : Option Addr) (os : List Opk) (cap : Nat), c = .slice A os.length cap ∧ Opks W A os ∧ os.length ≤ 140737488351232 ∧ Cap A os.length cap := by
  obtain ⟨A, vs, cap, rfl, h1, h2, h3, h4⟩ := h.rowsS Try.underlying37 (of_decide_eq_true (by kernel_rfl)) (of_decide_eq_true (by kernel_rfl))
  obtain ⟨l, rfl, hl⟩ := came_each (vals := Opk.vals) (ok := fun o => o.Ok W) (fun v hv => (h4 v hv).2) fun v hv => came_op hv
  rw [cellsOp] at h1
  rw [List.length_map] at h2 h3 ⊢
  exact ⟨A, l, cap, rfl, ⟨h1, hl⟩, h2, h3⟩
end
/-- May a call be played? -/
def fitO (o : Opk) : Bool := decide (o.ss.length ≤ 80) && decide (o.e.pay.size ≤ 5000) && o.ss.all fun s => decide (s.size ≤ 5000)
/-- Is a script more than is played? -/
def greatO (os : List Opk) : Bool := decide (120 < os.length) || !os.all fitO
end Go.Proofs.Ytjfejfhdohpfbaa.Ses
