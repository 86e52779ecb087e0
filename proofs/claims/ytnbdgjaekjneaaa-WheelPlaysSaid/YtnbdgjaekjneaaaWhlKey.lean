/-
  Layer 12: keys; two keys held against one another. Conditions: none.
-/
import Derived.Test.YtnbdgjaekjneaaaSls
import Derived.Laws.StructEq
namespace Go.Proofs.Ytnbdgjaekjneaaa.Whl
set_option maxRecDepth 100000
open Go.RowKit Go.Deep Go.Proofs.Ytnbdgjaekjneaaa.Mem

/-- A key: its kind, cell, node, and the transaction's node, epoch, number. -/
structure Ky where
  kind : Int
  cell : Int
  node : Int
  tn : Int
  te : Int
  ts : Int
deriving DecidableEq
def Ky.vals (k : Ky) : List Value := [.int .i64 k.kind, .int .i64 k.cell, .int .i64 k.node, .int .i64 k.tn, .int .i64 k.te, .int .i64 k.ts]
def Ky.val (k : Ky) : Value := .agg #[.int .i64 k.kind, .int .i64 k.cell, .int .i64 k.node, .int .i64 k.tn, .int .i64 k.te, .int .i64 k.ts]
theorem fit_ks (l : List Ky) : Fit 6 (l.map Ky.vals) := ⟨fun v hv => by obtain ⟨x, _, rfl⟩ := List.mem_map.1 hv; rfl, fun v hv u hu => by
  obtain ⟨x, _, rfl⟩ := List.mem_map.1 hv
  unfold Ky.vals at hu
  simp only [List.mem_cons, List.not_mem_nil, or_false] at hu
  rcases hu with rfl | rfl | rfl | rfl | rfl | rfl <;> rfl⟩
theorem key_equal (T : TypeId) (hT : Try.prog.underlying T = some (.struct (Try.prog.fieldsOf T))) (hT2 : Try.prog.stoodInHeld T = false)
    (hf : ∃ f0 f1 f2 f3 : Field, (Try.prog.fieldsOf T).toList = [f0, f1, f2, f3] ∧ f0.type = 3 ∧ f1.type = 3 ∧ f2.type = 3 ∧ f3.type = 32 ∧ f0.offset = 0 ∧ f1.offset = 1 ∧ f2.offset = 2 ∧ f3.offset = 3 ∧ f0.name ≠ "_" ∧ f1.name ≠ "_" ∧ f2.name ≠ "_" ∧ f3.name ≠ "_")
    (p q : Ky) (w : World) : (Op.equalIn 10000 T p.val q.val).run Try.prog w = .ok (decide (p = q)) w := by
  obtain ⟨pa, pb, pc, pd, pe, pf⟩ := p
  obtain ⟨qa, qb, qc, qd, qe, qf⟩ := q
  unfold Ky.val
  dsimp only
  rw [run_equalIn_agg w _ _ _ _ hT hT2]
  obtain ⟨f0, f1, f2, f3, hf, t0, t1, t2, t3, o0, o1, o2, o3, n0, n1, n2, n3⟩ := hf
  rw [hf]
  have g1 : Try.prog.underlying 32 = some (.struct (Try.prog.fieldsOf 32)) := by kernel_rfl
  have g2 : Try.prog.stoodInHeld 32 = false := by kernel_rfl
  have hu := Try.underlying3
  obtain ⟨i0, i1, i2, hi, s0, s1, s2, p0, p1, p2, m0, m1, m2⟩ : ∃ f0 f1 f2 : Field, (Try.prog.fieldsOf 32).toList = [f0, f1, f2] ∧ f0.type = 3 ∧ f1.type = 3 ∧ f2.type = 3 ∧ f0.offset = 0 ∧ f1.offset = 1 ∧ f2.offset = 2 ∧ f0.name ≠ "_" ∧ f1.name ≠ "_" ∧ f2.name ≠ "_" := ⟨_, _, _, rfl, rfl, rfl, rfl, rfl, rfl, rfl, by decide, by decide, by decide⟩
  have hans : decide ((⟨pa, pb, pc, pd, pe, pf⟩ : Ky) = ⟨qa, qb, qc, qd, qe, qf⟩) = (decide (pa = qa) && (decide (pb = qb) && (decide (pc = qc) && (decide (pd = qd) && decide (pe = qe) && decide (pf = qf))))) := by
    simp only [Ky.mk.injEq]
    by_cases h1 : pa = qa <;> by_cases h2 : pb = qb <;> by_cases h3 : pc = qc <;> by_cases h4 : pd = qd <;> by_cases h5 : pe = qe <;> by_cases h6 : pf = qf <;> simp [h1, h2, h3, h4, h5, h6]
  rw [hans]
  by_cases ha : pa = qa
  · by_cases hb : pb = qb
    · by_cases hc : pc = qc
      · simp [Op.eqFields, n0, n1, n2, n3, t0, t1, t2, t3, o0, o1, o2, o3, go_sem, hu, ha, hb, hc]
        by_cases hd : pd = qd <;> by_cases he : pe = qe <;> by_cases hf : pf = qf <;> simp [hd, he, hf]
      · simp [Op.eqFields, n0, n1, n2, t0, t1, t2, o0, o1, o2, go_sem, hu, ha, hb, hc]
    · simp [Op.eqFields, n0, n1, t0, t1, o0, o1, go_sem, hu, ha, hb]
  · simp [Op.eqFields, n0, t0, o0, go_sem, hu, ha]
theorem key_eql (p q : Ky) (w : World) : (binOp .eql 41 p.val q.val).run Try.prog w = .ok (.bool (decide (p = q))) w := by
  have h := key_equal 41 (by kernel_rfl) (by kernel_rfl) ⟨_, _, _, _, rfl, rfl, rfl, rfl, rfl, rfl, rfl, rfl, rfl, by decide, by decide, by decide, by decide⟩ p q w
  show (binOp .eql 41 (.agg _) (.agg _)).run Try.prog w = _
  rw [run_eql_struct]
  unfold Ky.val at h
  rw [h]
  rfl
theorem key_eqc (p q : Ky) (w : World) : (binOp .eql 34 p.val q.val).run Try.prog w = .ok (.bool (decide (p = q))) w := by
  have h := key_equal 34 (by kernel_rfl) (by kernel_rfl) ⟨_, _, _, _, rfl, rfl, rfl, rfl, rfl, rfl, rfl, rfl, rfl, by decide, by decide, by decide, by decide⟩ p q w
  show (binOp .eql 34 (.agg _) (.agg _)).run Try.prog w = _
  rw [run_eql_struct]
  unfold Ky.val at h
  rw [h]
  rfl
theorem key_neq (p q : Ky) (w : World) : (binOp .neq 41 p.val q.val).run Try.prog w = .ok (.bool (!decide (p = q))) w := by
  have h := key_equal 41 (by kernel_rfl) (by kernel_rfl) ⟨_, _, _, _, rfl, rfl, rfl, rfl, rfl, rfl, rfl, rfl, rfl, by decide, by decide, by decide, by decide⟩ p q w
  show (binOp .neq 41 (.agg _) (.agg _)).run Try.prog w = _
  rw [run_neq_struct]
  unfold Ky.val at h
  rw [h]
  rfl
/-- What can be said of an operation that holds two structs against one another within a region that draws its order. -/
theorem exec_bin {P : Program} {ρ : Operand → Value} {o : Oper} (op : BinOp) (t : TypeId) (x y : Operand) (t2 : TypeId) (ho : o.op = .binOp op t x y t2) (xs ys : Array Value) (hx : ρ x = .agg xs) (hy : ρ y = .agg ys) {v : Value} {w : World} (hm : P.eqGuardType P.depth t = false)
    (hrun : (binOp op t (.agg xs) (.agg ys)).run P w = .ok v w) : (execOp ρ o).run P w = .ok (.value v) w := by
  unfold execOp
  simp only [ho, hx, hy, Sem.run_bind, Sem.run_pure, Result.andThen_ok, run_eqGuard_agg w op t x y xs ys hm, hrun]
end Go.Proofs.Ytnbdgjaekjneaaa.Whl
