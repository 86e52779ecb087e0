/-
  Layer 12: the code's wheel and the document's in one memory, and a box of the law's own. Conditions: none.
-/
import Derived.Test.YtnbdgjaekjneaaaWhlLike
import Derived.Test.YtnbdgjaekjneaaaWhlLaw
namespace Go.Proofs.Ytnbdgjaekjneaaa.Whl
set_option maxRecDepth 100000
open Go.RowKit Go.Deep Go.Proofs.Ytnbdgjaekjneaaa.Mem

theorem WxAt.lt {sT eT : TypeId} {B rb ac : Nat} {w : World} {R : Wr} {A : Option Addr} (h : WxAt sT eT B w rb R A ac) {k : Nat} (e : wfoot rb A k) : B ≤ k ∧ k < w.heap.size := by
  rcases e with e | e
  · rw [e]; exact ⟨h.low, h.cel.lt⟩
  · exact h.row.lt k (by rw [own_blk]; exact e.symm)
/-- Both are there, apart from each other and from what F names; the box in block gb holds vs. -/
structure Two (base : Nat) (w1 w : World) (cb rb gb : Nat) (vs : List Value) (F : Nat → Prop) (C R : Wr) : Prop where
  ex : ∃ A c A2 c2, WcAt base w cb C A c ∧ WrAt base w rb R A2 c2 ∧ (∀ k, wfoot cb A k → ¬ wfoot rb A2 k) ∧ ∀ k, wfoot cb A k ∨ wfoot rb A2 k → ¬ F k
  box : Cells w gb 37 vs
  low : Below base w1 w
  big : base ≤ w.heap.size
  fgb : F gb
  fl : ∀ k, F k → k < w.heap.size
section
variable {base : Nat} {w1 w w' : World} {cb rb gb : Nat} {vs : List Value} {F : Nat → Prop} {C C' R R' : Wr}
theorem Two.later (h : Two base w1 w cb rb gb vs F C R) (hb : Below w.heap.size w w') : Two base w1 w' cb rb gb vs F C R := by
  obtain ⟨A, c, A2, c2, h1, h2, h3, h4⟩ := h.ex
  exact ⟨⟨A, c, A2, c2, h1.later hb, h2.later hb, h3, h4⟩, h.box.later hb, h.low.trans (hb.mono h.big), Nat.le_trans h.big hb.size, h.fgb, fun k e => Nat.lt_of_lt_of_le (h.fl k e) hb.size⟩
/-- A thing of the call's own is made. -/
theorem Two.add (h : Two base w1 w cb rb gb vs F C R) (hb : Below w.heap.size w w') {G : Nat → Prop} (hG : ∀ k, G k → w.heap.size ≤ k ∧ k < w'.heap.size) : Two base w1 w' cb rb gb vs (fun k => F k ∨ G k) C R := by
  obtain ⟨A, c, A2, c2, h1, h2, h3, h4⟩ := h.ex
  refine ⟨⟨A, c, A2, c2, h1.later hb, h2.later hb, h3, fun k e e2 => ?_⟩, h.box.later hb, h.low.trans (hb.mono h.big), Nat.le_trans h.big hb.size, Or.inl h.fgb, fun k e => ?_⟩
  · rcases e2 with e2 | e2
    · exact h4 k e e2
    · have := (hG k e2).1
      rcases e with e | e
      · have := (h1.lt e).2; omega
      · have := (h2.lt e).2; omega
  · rcases e with e | e
    · exact Nat.lt_of_lt_of_le (h.fl k e) hb.size
    · exact (hG k e).2
theorem Two.fewer (h : Two base w1 w cb rb gb vs F C R) {G : Nat → Prop} (hG : ∀ k, G k → F k) (hg : G gb) : Two base w1 w cb rb gb vs G C R := by
  obtain ⟨A, c, A2, c2, h1, h2, h3, h4⟩ := h.ex
  exact ⟨⟨A, c, A2, c2, h1, h2, h3, fun k e e2 => h4 k e (hG k e2)⟩, h.box, h.low, h.big, hg, fun k e => h.fl k (hG k e)⟩
/-- The box of the next round. -/
theorem Two.next (h : Two base w1 w cb rb gb vs F C R) {vs2 : List Value} (cells : Array Value) (hc : cells.toList = vs2) : Two base w1 (w.alloc (.cells cells 37)) cb rb w.heap.size vs2 (fun k => k = w.heap.size) C R := by
  have hb := below_alloc w (.cells cells 37)
  obtain ⟨A, c, A2, c2, h1, h2, h3, h4⟩ := h.ex
  refine ⟨⟨A, c, A2, c2, h1.later hb, h2.later hb, h3, fun k e e2 => ?_⟩, cells_new _ _ _ _ hc, h.low.trans (hb.mono h.big), Nat.le_trans h.big hb.size, rfl, fun k e => by rw [e]; exact (cells_new w _ _ cells hc).lt⟩
  rcases e with e | e
  · have := (h1.lt e).2; omega
  · have := (h2.lt e).2; omega
theorem Two.callC (h : Two base w1 w cb rb gb vs F C R) {f : Nat} {args : Array Value} {Q : Ending → World → Prop} (hc : ∀ A c, WcAt base w cb C A c → Calls Try.prog f args w fun e w' => Q e w' ∧ WcStep base cb A w C' w') :
    Calls Try.prog f args w fun e w' => Q e w' ∧ Two base w1 w' cb rb gb vs F C' R ∧ Only (fun k => ¬ F k) w w' := by
  obtain ⟨A, c, A2, c2, h1, h2, h3, h4⟩ := h.ex
  refine (hc A c h1).mono ?_
  rintro e w' ⟨hq, hst⟩
  have hlow := WxStep.below hst h1 h.big
  obtain ⟨A', c', k1, k2, k3⟩ := hst
  have hft : ∀ k, wfoot cb A' k → wfoot cb A k ∨ w.heap.size ≤ k := by
    rintro k (e | e)
    · exact Or.inl (Or.inl e)
    · exact (k3 k e).imp_left fun e => Or.inr e
  refine ⟨hq, ⟨⟨A', c', A2, c2, k1, h2.only k2 (fun e2 => h3 rb e2 (Or.inl rfl)) fun k hk e2 => h3 k e2 (Or.inr (by rw [own_blk] at hk; exact hk.symm)), fun k e e2 => ?_, fun k e e2 => ?_⟩, cells_only h.box k2 fun e => h4 _ (Or.inl e) h.fgb, h.low.trans hlow, Nat.le_trans h.big k2.size, h.fgb, fun k e => Nat.lt_of_lt_of_le (h.fl k e) k2.size⟩, k2.mono fun k _ e e2 => h4 k (Or.inl e) e2⟩
  · rcases hft k e with e | e
    · exact h3 k e e2
    · have := (h2.lt e2).2; omega
  · have := h.fl k e2
    rcases e with e | e
    · rcases hft k e with e | e
      · exact h4 k (Or.inl e) e2
      · omega
    · exact h4 k (Or.inr e) e2
theorem Two.callR (h : Two base w1 w cb rb gb vs F C R) {f : Nat} {args : Array Value} {Q : Ending → World → Prop} (hc : ∀ A c, WrAt base w rb R A c → Calls Try.prog f args w fun e w' => Q e w' ∧ WStep base rb A w R' w') :
    Calls Try.prog f args w fun e w' => Q e w' ∧ Two base w1 w' cb rb gb vs F C R' ∧ Only (fun k => ¬ F k) w w' := by
  obtain ⟨A, c, A2, c2, h1, h2, h3, h4⟩ := h.ex
  refine (hc A2 c2 h2).mono ?_
  rintro e w' ⟨hq, hst⟩
  have hlow := WxStep.below hst h2 h.big
  obtain ⟨A', c', k1, k2, k3⟩ := hst
  have hft : ∀ k, wfoot rb A' k → wfoot rb A2 k ∨ w.heap.size ≤ k := by
    rintro k (e | e)
    · exact Or.inl (Or.inl e)
    · exact (k3 k e).imp_left fun e => Or.inr e
  refine ⟨hq, ⟨⟨A, c, A', c', h1.only k2 (fun e2 => h3 cb (Or.inl rfl) e2) fun k hk e2 => h3 k (Or.inr (by rw [own_blk] at hk; exact hk.symm)) e2, k1, fun k e e2 => ?_, fun k e e2 => ?_⟩, cells_only h.box k2 fun e => h4 _ (Or.inr e) h.fgb, h.low.trans hlow, Nat.le_trans h.big k2.size, h.fgb, fun k e => Nat.lt_of_lt_of_le (h.fl k e) k2.size⟩, k2.mono fun k _ e e2 => h4 k (Or.inr e) e2⟩
  · rcases hft k e2 with e2 | e2
    · exact h3 k e e2
    · have := (h1.lt e).2; omega
  · have := h.fl k e2
    rcases e with e | e
    · exact h4 k (Or.inl e) e2
    · rcases hft k e with e | e
      · exact h4 k (Or.inr e) e2
      · omega
end
/-- An operation of a script. -/
structure Opk where
  e : Int
  n : Int
  k : Ky
  A : Option Addr
  c : Nat
  l : List Ky
def Opk.vals (o : Opk) : List Value := [.int .i64 o.e, .int .i64 o.n, .int .i64 o.k.kind, .int .i64 o.k.cell, .int .i64 o.k.node, .int .i64 o.k.tn, .int .i64 o.k.te, .int .i64 o.k.ts, .slice o.A o.l.length o.c]
structure Opk.Ok (w : World) (o : Opk) : Prop where
  ks : Ks w o.A o.l
  len : o.l.length ≤ 140737488351232
  cap : Cap o.A o.l.length o.c
theorem Opk.Ok.later {w w' : World} {o : Opk} (h : o.Ok w) (hb : Below w.heap.size w w') : o.Ok w' := ⟨h.ks.later hb, h.len, h.cap⟩
section
variable {H : Type} {enc : TypeId × Value → H} {W : World}
theorem cellsOp : Try.prog.cellsOf 37 = 9 := by kernel_rfl
theorem cellsKeys : Try.prog.cellsOf 35 = 1 := by kernel_rfl
theorem came_op {cs : List Value} (h : CameS Try.prog enc W 37 cs) : ∃ o : Opk, cs = o.vals ∧ o.Ok W := by
  obtain ⟨f0, f1, f2, f3, hst, e0, e1, e2, e3, o0, o1, o2, o3⟩ : ∃ f0 f1 f2 f3 : Field, Try.prog.underlying 37 = some (.struct #[f0, f1, f2, f3]) ∧ f0.type = 3 ∧ f1.type = 3 ∧ f2.type = 34 ∧ f3.type = 35 ∧ f0.offset = 0 ∧ f1.offset = 1 ∧ f2.offset = 2 ∧ f3.offset = 8 :=
    ⟨_, _, _, _, Try.underlying37, rfl, rfl, rfl, rfl, rfl, rfl, rfl, rfl⟩
  obtain ⟨hlen, hf⟩ := h.fields hst
  rw [cellsOp] at hlen
  match cs, hlen with
  | [c0, c1, c2, c3, c4, c5, c6, c7, c8], _ =>
    have g0 := hf 0 f0 rfl
    have g1 := hf 1 f1 rfl
    have g2 := hf 2 f2 rfl
    have g3 := hf 3 f3 rfl
    rw [e0, o0, cellsInt] at g0
    rw [e1, o1, cellsInt] at g1
    rw [e2, o2, cellsKey] at g2
    rw [e3, o3, cellsKeys] at g3
    obtain ⟨x0, rfl, _⟩ := cameS_int g0
    obtain ⟨x1, rfl, _⟩ := cameS_int g1
    obtain ⟨k, hk, _⟩ := came_key g2
    have g4 : CameS Try.prog enc W 35 [c8] := g3
    obtain ⟨A, vs, cap, rfl, h1, h2, h3, h4⟩ := g4.one.rowsS Try.underlying35 (of_decide_eq_true (by kernel_rfl)) (of_decide_eq_true (by kernel_rfl))
    obtain ⟨l, rfl, _⟩ := came_each (vals := Ky.vals) (ok := fun _ => True) (fun v hv => (h4 v hv).2) fun v hv => came_key hv
    rw [cellsKey] at h1
    rw [List.length_map] at h2 h3
    have hk2 : [c2, c3, c4, c5, c6, c7] = k.vals := hk
    unfold Ky.vals at hk2
    simp only [List.cons.injEq, and_true] at hk2
    obtain ⟨rfl, rfl, rfl, rfl, rfl, rfl⟩ := hk2
    refine ⟨⟨x0, x1, k, A, cap, l⟩, ?_, h1, h2, h3⟩
    unfold Opk.vals
    rw [List.length_map]
/-- The slice whose first cell is at A holds these operations. -/
def Opks (w : World) (A : Option Addr) (os : List Opk) : Prop := Sl w A 9 (os.map Opk.vals) ∧ ∀ o ∈ os, o.Ok w
theorem Opks.later {w w' : World} {A : Option Addr} {os : List Opk} (h : Opks w A os) (hb : Below w.heap.size w w') : Opks w' A os := ⟨h.1.later hb, fun o ho => (h.2 o ho).later hb⟩
theorem Opks.at {w : World} {A : Option Addr} {os : List Opk} (h : Opks w A os) {k : Nat} (hk : k < os.length) : ∃ g off, A = some ⟨g, off, none⟩ ∧ w.rangeAt g (off + k * 9) os[k].vals ∧ os[k].Ok w := by
  obtain ⟨g, off, e, hr⟩ := h.1 k (by rw [List.length_map]; exact hk)
  rw [List.getElem_map] at hr
  exact ⟨g, off, e, hr, h.2 _ (List.getElem_mem hk)⟩
theorem came_ops {c : Value} (h : Came Try.prog enc W 22 c) : ∃ (A : Option Addr) (os : List Opk) (cap : Nat), c = .slice A os.length cap ∧ Opks W A os ∧ os.length ≤ 140737488351232 ∧ Cap A os.length cap := by
  obtain ⟨A, vs, cap, rfl, h1, h2, h3, h4⟩ := h.rowsS Try.underlying22 (of_decide_eq_true (by kernel_rfl)) (of_decide_eq_true (by kernel_rfl))
  obtain ⟨l, rfl, hl⟩ := came_each (vals := Opk.vals) (ok := fun o => o.Ok W) (fun v hv => (h4 v hv).2) fun v hv => came_op hv
  rw [cellsOp] at h1
  rw [List.length_map] at h2 h3 ⊢
  exact ⟨A, l, cap, rfl, ⟨h1, hl⟩, h2, h3⟩
end
/-- How many keys all operations have. -/
def total (os : List Opk) : Nat := (os.map fun o => o.l.length).sum
theorem total_take (os : List Opk) (k : Nat) (h : k < os.length) : total (os.take (k + 1)) = total (os.take k) + os[k].l.length := by
  rw [List.take_succ_eq_append_getElem h]
  unfold total
  rw [List.map_append, List.sum_append]
  rfl
theorem total_le (os : List Opk) (k : Nat) : total (os.take k) ≤ total os := by
  have h : total os = total (os.take k) + total (os.drop k) := by
    unfold total
    rw [← List.sum_append, ← List.map_append, List.take_append_drop]
  omega
/-- Is a script more than is played? -/
def greatN (os : List Opk) : Bool := decide (400 < os.length) || decide (400 < total os)
end Go.Proofs.Ytnbdgjaekjneaaa.Whl
