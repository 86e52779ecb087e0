/-
  Layer 18's laws: rows of holds and of Booleans that a law keeps of its own. Conditions: none.
-/
import Derived.Test.YtiobblmagjbhjaaLeaAwk
import Derived.BigQuiet
namespace Go.Proofs.Ytiobblmagjbhjaa.Lea
set_option maxRecDepth 100000
open Go.RowKit Go.Deep Go.Proofs.Ytiobblmagjbhjaa.Mem

/-- One more is put behind a row of the call's own; only the row's block turns. -/
theorem own_app1 {α : Type} {sT eT : TypeId} {zv : Value} {sz bytes : Nat} {vals : α → List Value} {B n c : Nat} {w : World} {V : Option Addr} {l : List α} (E : Elem sT eT zv sz bytes) (hf : ∀ l : List α, Fit sz (l.map vals)) (h : OwnG eT sz vals B w (.slice V n c) l) (p : α) (cells : Array Value) (hc : cells.toList = vals p) (hB : B ≤ w.heap.size) (hl : l.length ≤ 2000) :
    ∃ V' n' c' w', (Builtin.append_ #[sT, sT] sT #[.slice V n c, .slice (some ⟨w.heap.size, 0, none⟩) 1 1]).run Try.prog (w.alloc (.cells cells eT)) = .ok (.slice V' n' c') w' ∧ OwnG eT sz vals B w' (.slice V' n' c') (l ++ [p]) ∧ Only (fun k => some k = blk V) w w' ∧ ∀ k, blk V' = some k → some k = blk V ∨ w.heap.size ≤ k := by
  obtain ⟨wd, hwd⟩ : ∃ W, W = w.alloc (.cells cells eT) := ⟨_, rfl⟩
  have hbd : Below w.heap.size w wd := by rw [hwd]; exact below_alloc _ _
  have hnew : Cells wd w.heap.size eT (vals p) := by rw [hwd]; exact cells_new w eT (vals p) _ hc
  have hsl : Sl wd (some ⟨w.heap.size, 0, none⟩) sz ([p].map vals) := cells_sl (by simpa using hnew) fun v hv => (hf [p]).len v hv
  obtain ⟨V', n', c', w', hrun, hrow, _, ho, hg⟩ := OwnG.appS E hf (h.later hbd) (m := [p]) hsl (fun e => by cases e) (Nat.le_trans hB hbd.size) (by simp only [List.length_singleton]; omega)
  rw [← hwd]
  refine ⟨V', n', c', w', hrun, hrow, (Only.of_below hbd).trans ho fun k _ e => ?_, fun k e => ?_⟩
  · rw [own_blk] at e
    exact e.symm
  · rcases hg k e with e2 | e2
    · rw [own_blk] at e2
      exact Or.inl e2.symm
    · exact Or.inr (Nat.le_trans hbd.size e2)
/-- What can be said of an operation that holds two structs against one another within a region that draws its order. -/
theorem exec_bin {P : Program} {ρ : Operand → Value} {o : Oper} (op : BinOp) (t : TypeId) (x y : Operand) (t2 : TypeId) (ho : o.op = .binOp op t x y t2) (xs ys : Array Value) (hx : ρ x = .agg xs) (hy : ρ y = .agg ys) {v : Value} {w : World} (hm : P.eqGuardType P.depth t = false)
    (hrun : (binOp op t (.agg xs) (.agg ys)).run P w = .ok v w) : (execOp ρ o).run P w = .ok (.value v) w := by
  unfold execOp
  simp only [ho, hx, hy, Sem.run_bind, Sem.run_pure, Result.andThen_ok, run_eqGuard_agg w op t x y xs ys hm, hrun]
theorem below_drew (w : World) (n : Nat) : Below w.heap.size w (w.drewN n) := (Below.refl _ w).trans ⟨rfl, rfl, rfl, Nat.le_refl _, fun _ _ => rfl⟩
def hvals (s : Sv) : List Value := [.int .i64 s.tid.node, .int .i64 s.tid.epoch, .int .i64 s.tid.seq, .int .i64 s.til]
def bvals (s : Sv) : List Value := [.bool s.held]
theorem fit_h (l : List Sv) : Fit 4 (l.map hvals) := ⟨fun v hv => by obtain ⟨x, _, rfl⟩ := List.mem_map.1 hv; rfl, fun v hv u hu => by
  obtain ⟨x, _, rfl⟩ := List.mem_map.1 hv
  unfold hvals at hu
  simp only [List.mem_cons, List.not_mem_nil, or_false] at hu
  rcases hu with rfl | rfl | rfl | rfl <;> rfl⟩
theorem fit_b (l : List Sv) : Fit 1 (l.map bvals) := ⟨fun v hv => by obtain ⟨x, _, rfl⟩ := List.mem_map.1 hv; rfl, fun v hv u hu => by
  obtain ⟨x, _, rfl⟩ := List.mem_map.1 hv
  unfold bvals at hu
  simp only [List.mem_cons, List.not_mem_nil, or_false] at hu
  rcases hu with rfl
  rfl⟩
theorem el_h : Elem 55 48 (.agg #[.int .i64 0, .int .i64 0, .int .i64 0, .int .i64 0]) 4 32 := ⟨Try.underlying55, by kernel_rfl, rfl, by decide, by decide⟩
theorem el_b : Elem 56 4 (.bool false) 1 1 := ⟨Try.underlying56, by kernel_rfl, rfl, by decide, by decide⟩
/-- What was: holds and whether there were any, in two rows apart. -/
structure Was (B : Nat) (w : World) (V : Option Addr) (vn vc : Nat) (O : Option Addr) (on oc : Nat) (l : List Sv) : Prop where
  hs : OwnG 48 4 hvals B w (.slice V vn vc) l
  bs : OwnG 4 1 bvals B w (.slice O on oc) l
  far : ∀ k, blk V = some k → blk O ≠ some k
theorem was_new (B : Nat) (w : World) : Was B w none 0 0 none 0 0 [] := ⟨OwnG.nil _ _ _ _ _, OwnG.nil _ _ _ _ _, fun k e => by cases e⟩
section
variable {B : Nat} {w w1 : World} {V O : Option Addr} {vn vc on oc : Nat} {l : List Sv}
theorem Was.only {S : Nat → Prop} (h : Was B w V vn vc O on oc l) (ho : Only S w w1) (hS : ∀ k, S k → k < B) : Was B w1 V vn vc O on oc l :=
  ⟨h.hs.only ho fun k e e2 => (by have := (h.hs.lt e).1; have := hS k e2; omega), h.bs.only ho fun k e e2 => (by have := (h.bs.lt e).1; have := hS k e2; omega), h.far⟩
theorem Was.later (h : Was B w V vn vc O on oc l) (hb : Below w.heap.size w w1) : Was B w1 V vn vc O on oc l := h.only (S := fun _ => False) (Only.of_below hb) fun _ e => e.elim
/-- One more of both: the two appends. -/
theorem Was.more (h : Was B w V vn vc O on oc l) (s : Sv) (hB : B ≤ w.heap.size) (hl : l.length ≤ 2000) :
    ∃ V' vn' vc' w2, (Builtin.append_ #[55, 55] 55 #[.slice V vn vc, .slice (some ⟨w.heap.size, 0, none⟩) 1 1]).run Try.prog (w.alloc (.cells #[.int .i64 s.tid.node, .int .i64 s.tid.epoch, .int .i64 s.tid.seq, .int .i64 s.til] 48)) = .ok (.slice V' vn' vc') w2 ∧
      ∃ O' on' oc' w3, (Builtin.append_ #[56, 56] 56 #[.slice O on oc, .slice (some ⟨w2.heap.size, 0, none⟩) 1 1]).run Try.prog (w2.alloc (.cells #[.bool s.held] 4)) = .ok (.slice O' on' oc') w3 ∧
      Was B w3 V' vn' vc' O' on' oc' (l ++ [s]) ∧ Below B w w3 := by
  obtain ⟨V', vn', vc', w2, r1, h1, o1, g1⟩ := own_app1 el_h fit_h h.hs s #[.int .i64 s.tid.node, .int .i64 s.tid.epoch, .int .i64 s.tid.seq, .int .i64 s.til] rfl hB hl
  have hb2 := h.bs.only o1 fun k e e2 => h.far k e2.symm (by rw [own_blk] at e; exact e)
  obtain ⟨O', on', oc', w3, r2, h2, o2, g2⟩ := own_app1 el_b fit_b hb2 s #[.bool s.held] rfl (Nat.le_trans hB o1.size) hl
  refine ⟨V', vn', vc', w2, r1, O', on', oc', w3, r2, ⟨h1.only o2 fun k e e2 => ?_, h2, fun k e e2 => ?_⟩, ?_⟩
  · rw [own_blk] at e
    rcases g1 k e with e3 | e3
    · exact h.far k e3.symm e2.symm
    · have := (h.bs.lt (k := k) (by rw [own_blk]; exact e2.symm)).2
      omega
  · have hk := (h1.lt (k := k) (by rw [own_blk]; exact e)).2
    rcases g2 k e2 with e4 | e4
    · rcases g1 k e with e3 | e3
      · exact h.far k e3.symm e4.symm
      · have := (h.bs.lt (k := k) (by rw [own_blk]; exact e4.symm)).2
        omega
    · omega
  · refine (o1.below hB fun k e => ?_).trans (o2.below (Nat.le_trans hB o1.size) fun k e => ?_)
    · exact (h.hs.lt (k := k) (by rw [own_blk]; exact e.symm)).1
    · exact (hb2.lt (k := k) (by rw [own_blk]; exact e.symm)).1
theorem Was.at (h : Was B w V vn vc O on oc l) {k : Nat} (hk : k < l.length) : vn = l.length ∧ on = l.length ∧ ∃ hb ob, V = some ⟨hb, 0, none⟩ ∧ O = some ⟨ob, 0, none⟩ ∧ CellsO w hb (k * 4) (hvals l[k]) ∧ w.cell? ⟨ob, k, none⟩ = some (.bool l[k].held) := by
  obtain ⟨e1, _⟩ := OwnG.sl fit_h h.hs
  obtain ⟨e2, _⟩ := OwnG.sl fit_b h.bs
  obtain ⟨hb, rfl, hc⟩ := OwnG.elem fit_h h.hs hk
  obtain ⟨ob, rfl, hd⟩ := OwnG.elem fit_b h.bs hk
  have h0 := hd.cell (j := 0) rfl
  rw [Nat.mul_one, Nat.add_zero] at h0
  exact ⟨e1, e2, hb, ob, rfl, rfl, hc, h0⟩
end
/-- Is a hold over behind an operation? -/
def overS (k : Int) (tid : Lt) (n : Int) (s : Sv) : Bool := (k == 1 && decide (s.tid = tid)) || (k == 2 && decide (s.til ≤ n))
/-- From a slot to the next one, behind an operation. -/
def Rl (k : Int) (tid : Lt) (n : Int) (s s' : Sv) : Prop :=
  (s.held = true → overS k tid n s = false → s'.held = true ∧ s'.tid = s.tid ∧ s.til ≤ s'.til) ∧ (s.held = true → overS k tid n s = true → s'.held = false) ∧ (s.held = false → s'.held = true → k = 0 ∧ s'.tid = tid)
theorem rl_hold {T : List Sv} (tid : Lt) (n : Int) (l : List Int) (c : Int) : Rl 0 tid n (ofT T c) (ofT (holdT T tid n l) c) := by
  have h := kp_hold (T := T) (who := tid) (u := n) l c
  refine ⟨fun e _ => h.1 e, fun _ e => ?_, fun e e2 => ⟨rfl, h.2 e e2⟩⟩
  unfold overS at e
  simp at e
theorem rl_drop {p : Sv → Bool} {k : Int} {tid : Lt} {n : Int} (hp : ∀ s, overS k tid n s = p s) (s : Sv) : Rl k tid n s (dropS p s) := by
  unfold dropS
  refine ⟨fun e e2 => ?_, fun e e2 => ?_, fun e e2 => ?_⟩
  · rw [hp] at e2
    rw [e, e2, if_neg (by decide)]
    exact ⟨e, rfl, Int.le_refl _⟩
  · rw [hp] at e2
    rw [e, e2, if_pos (by decide)]
    rfl
  · rw [e, if_neg (by simp)] at e2
    rw [e] at e2
    cases e2
theorem rl_same {k : Int} {tid : Lt} {n : Int} (h1 : k ≠ 1) (h2 : k ≠ 2) (s : Sv) : Rl k tid n s s := by
  refine ⟨fun e _ => ⟨e, rfl, Int.le_refl _⟩, fun _ e2 => ?_, fun e e2 => by rw [e] at e2; cases e2⟩
  unfold overS at e2
  rw [beq_eq_false_iff_ne.2 h1, beq_eq_false_iff_ne.2 h2] at e2
  cases e2
end Go.Proofs.Ytiobblmagjbhjaa.Lea
