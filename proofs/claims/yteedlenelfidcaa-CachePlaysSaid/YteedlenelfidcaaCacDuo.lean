/-
  Layer 17: the code's cache and the document's in one memory, and a box of the law's own. Conditions: none.
-/
import Derived.Test.YteedlenelfidcaaCacK
namespace Go.Proofs.Yteedlenelfidcaa.Cac
set_option maxRecDepth 100000
open Go.RowKit Go.Deep Go.Proofs.Yteedlenelfidcaa.Mem

/-- What can be said of an operation that holds two structs against one another within a region that draws its order. -/
theorem exec_bin {P : Program} {ρ : Operand → Value} {o : Oper} (op : BinOp) (t : TypeId) (x y : Operand) (t2 : TypeId) (ho : o.op = .binOp op t x y t2) (xs ys : Array Value) (hx : ρ x = .agg xs) (hy : ρ y = .agg ys) {v : Value} {w : World} (hm : P.eqGuardType P.depth t = false)
    (hrun : (binOp op t (.agg xs) (.agg ys)).run P w = .ok v w) : (execOp ρ o).run P w = .ok (.value v) w := by
  unfold execOp
  simp only [ho, hx, hy, Sem.run_bind, Sem.run_pure, Result.andThen_ok, run_eqGuard_agg w op t x y xs ys hm, hrun]
/-- Both are there, apart from each other and from what F names; the box in block gb holds vs. -/
structure Two (base : Nat) (w1 w : World) (cb rb gb : Nat) (vs : List Value) (F : Nat → Prop) (C R : Cc) : Prop where
  ex : ∃ A c A2 c2, CcAt base w cb C A c ∧ CrAt base w rb R A2 c2 ∧ (∀ k, cfoot cb A k → ¬ cfoot rb A2 k) ∧ ∀ k, cfoot cb A k ∨ cfoot rb A2 k → ¬ F k
  box : Cells w gb 36 vs
  low : Below base w1 w
  big : base ≤ w.heap.size
  fgb : F gb
  fl : ∀ k, F k → k < w.heap.size
section
variable {base : Nat} {w1 w w' : World} {cb rb gb : Nat} {vs : List Value} {F : Nat → Prop} {C C' R R' : Cc}
theorem Two.later (h : Two base w1 w cb rb gb vs F C R) (hb : Below w.heap.size w w') : Two base w1 w' cb rb gb vs F C R := by
  obtain ⟨A, c, A2, c2, h1, h2, h3, h4⟩ := h.ex
  exact ⟨⟨A, c, A2, c2, h1.later hb, h2.later hb, h3, h4⟩, h.box.later hb, h.low.trans (hb.mono h.big), Nat.le_trans h.big hb.size, h.fgb, fun k e => Nat.lt_of_lt_of_le (h.fl k e) hb.size⟩
/-- A thing of the call's own is made. -/
theorem Two.add (h : Two base w1 w cb rb gb vs F C R) (hb : Below w.heap.size w w') {G : Nat → Prop} (hG : ∀ k, G k → w.heap.size ≤ k ∧ k < w'.heap.size) : Two base w1 w' cb rb gb vs (fun k => F k ∨ G k) C R := by
  obtain ⟨A, c, A2, c2, h1, h2, h3, h4⟩ := h.ex
  refine ⟨⟨A, c, A2, c2, h1.later hb, h2.later hb, h3, fun k e e2 => ?_⟩, h.box.later hb, h.low.trans (hb.mono h.big), Nat.le_trans h.big hb.size, Or.inl h.fgb, fun k e => ?_⟩
  · rcases e2 with e2 | e2
    · exact h4 k e e2
    · have := (hG k e2).1
      rcases e with e | e
      · have := (h1.lt e).2; omega
      · have := (h2.lt e).2; omega
  · rcases e with e | e
    · exact Nat.lt_of_lt_of_le (h.fl k e) hb.size
    · exact (hG k e).2
theorem Two.fewer (h : Two base w1 w cb rb gb vs F C R) {G : Nat → Prop} (hG : ∀ k, G k → F k) (hg : G gb) : Two base w1 w cb rb gb vs G C R := by
  obtain ⟨A, c, A2, c2, h1, h2, h3, h4⟩ := h.ex
  exact ⟨⟨A, c, A2, c2, h1, h2, h3, fun k e e2 => h4 k e (hG k e2)⟩, h.box, h.low, h.big, hg, fun k e => h.fl k (hG k e)⟩
/-- The box of the next round. -/
theorem Two.next (h : Two base w1 w cb rb gb vs F C R) {vs2 : List Value} (cells : Array Value) (hc : cells.toList = vs2) : Two base w1 (w.alloc (.cells cells 36)) cb rb w.heap.size vs2 (fun k => k = w.heap.size) C R := by
  have hb := below_alloc w (.cells cells 36)
  obtain ⟨A, c, A2, c2, h1, h2, h3, h4⟩ := h.ex
  refine ⟨⟨A, c, A2, c2, h1.later hb, h2.later hb, h3, fun k e e2 => ?_⟩, cells_new _ _ _ _ hc, h.low.trans (hb.mono h.big), Nat.le_trans h.big hb.size, rfl, fun k e => by rw [e]; exact (cells_new w _ _ cells hc).lt⟩
  rcases e with e | e
  · have := (h1.lt e).2; omega
  · have := (h2.lt e).2; omega
theorem Two.callC (h : Two base w1 w cb rb gb vs F C R) {f : Nat} {args : Array Value} {Q : Ending → World → Prop} (hc : ∀ A c, CcAt base w cb C A c → Calls Try.prog f args w fun e w' => Q e w' ∧ CcStep base cb A w C' w') :
    Calls Try.prog f args w fun e w' => Q e w' ∧ Two base w1 w' cb rb gb vs F C' R ∧ Only (fun k => ¬ F k) w w' := by
  obtain ⟨A, c, A2, c2, h1, h2, h3, h4⟩ := h.ex
  refine (hc A c h1).mono ?_
  rintro e w' ⟨hq, hst⟩
  have hlow := CxStep.below hst h1 h.big
  obtain ⟨A', c', k1, k2, k3⟩ := hst
  have hft : ∀ k, cfoot cb A' k → cfoot cb A k ∨ w.heap.size ≤ k := by
    rintro k (e | e)
    · exact Or.inl (Or.inl e)
    · exact (k3 k e).imp_left fun e => Or.inr e
  refine ⟨hq, ⟨⟨A', c', A2, c2, k1, h2.only k2 (fun e2 => h3 rb e2 (Or.inl rfl)) fun k hk e2 => h3 k e2 (Or.inr (by rw [own_blk] at hk; exact hk.symm)), fun k e e2 => ?_, fun k e e2 => ?_⟩, cells_only h.box k2 fun e => h4 _ (Or.inl e) h.fgb, h.low.trans hlow, Nat.le_trans h.big k2.size, h.fgb, fun k e => Nat.lt_of_lt_of_le (h.fl k e) k2.size⟩, k2.mono fun k _ e e2 => h4 k (Or.inl e) e2⟩
  · rcases hft k e with e | e
    · exact h3 k e e2
    · have := (h2.lt e2).2; omega
  · have := h.fl k e2
    rcases e with e | e
    · rcases hft k e with e | e
      · exact h4 k (Or.inl e) e2
      · omega
    · exact h4 k (Or.inr e) e2
theorem Two.callR (h : Two base w1 w cb rb gb vs F C R) {f : Nat} {args : Array Value} {Q : Ending → World → Prop} (hc : ∀ A c, CrAt base w rb R A c → Calls Try.prog f args w fun e w' => Q e w' ∧ CrStep base rb A w R' w') :
    Calls Try.prog f args w fun e w' => Q e w' ∧ Two base w1 w' cb rb gb vs F C R' ∧ Only (fun k => ¬ F k) w w' := by
  obtain ⟨A, c, A2, c2, h1, h2, h3, h4⟩ := h.ex
  refine (hc A2 c2 h2).mono ?_
  rintro e w' ⟨hq, hst⟩
  have hlow := CxStep.below hst h2 h.big
  obtain ⟨A', c', k1, k2, k3⟩ := hst
  have hft : ∀ k, cfoot rb A' k → cfoot rb A2 k ∨ w.heap.size ≤ k := by
    rintro k (e | e)
    · exact Or.inl (Or.inl e)
    · exact (k3 k e).imp_left fun e => Or.inr e
  refine ⟨hq, ⟨⟨A, c, A', c', h1.only k2 (fun e2 => h3 cb (Or.inl rfl) e2) fun k hk e2 => h3 k (Or.inr (by rw [own_blk] at hk; exact hk.symm)) e2, k1, fun k e e2 => ?_, fun k e e2 => ?_⟩, cells_only h.box k2 fun e => h4 _ (Or.inr e) h.fgb, h.low.trans hlow, Nat.le_trans h.big k2.size, h.fgb, fun k e => Nat.lt_of_lt_of_le (h.fl k e) k2.size⟩, k2.mono fun k _ e e2 => h4 k (Or.inr e) e2⟩
  · rcases hft k e2 with e2 | e2
    · exact h3 k e e2
    · have := (h1.lt e).2; omega
  · have := h.fl k e2
    rcases e with e | e
    · exact h4 k (Or.inl e) e2
    · rcases hft k e with e | e
      · exact h4 k (Or.inr e) e2
      · omega
theorem Two.stepR (h : Two base w1 w cb rb gb vs F C R) (hc : ∀ A c, CrAt base w rb R A c → CrStep base rb A w R' w') : Two base w1 w' cb rb gb vs F C R' ∧ Only (fun k => ¬ F k) w w' := by
  obtain ⟨A, c, A2, c2, h1, h2, h3, h4⟩ := h.ex
  have hst := hc A2 c2 h2
  have hlow := CxStep.below hst h2 h.big
  obtain ⟨A', c', k1, k2, k3⟩ := hst
  have hft : ∀ k, cfoot rb A' k → cfoot rb A2 k ∨ w.heap.size ≤ k := by
    rintro k (e | e)
    · exact Or.inl (Or.inl e)
    · exact (k3 k e).imp_left fun e => Or.inr e
  refine ⟨⟨⟨A, c, A', c', h1.only k2 (fun e2 => h3 cb (Or.inl rfl) e2) fun k hk e2 => h3 k (Or.inr (by rw [own_blk] at hk; exact hk.symm)) e2, k1, fun k e e2 => ?_, fun k e e2 => ?_⟩, cells_only h.box k2 fun e => h4 _ (Or.inr e) h.fgb, h.low.trans hlow, Nat.le_trans h.big k2.size, h.fgb, fun k e => Nat.lt_of_lt_of_le (h.fl k e) k2.size⟩, k2.mono fun k _ e e2 => h4 k (Or.inr e) e2⟩
  · rcases hft k e2 with e2 | e2
    · exact h3 k e e2
    · have := (h1.lt e).2; omega
  · have := h.fl k e2
    rcases e with e | e
    · exact h4 k (Or.inl e) e2
    · rcases hft k e with e | e
      · exact h4 k (Or.inr e) e2
      · omega
end
end Go.Proofs.Yteedlenelfidcaa.Cac
