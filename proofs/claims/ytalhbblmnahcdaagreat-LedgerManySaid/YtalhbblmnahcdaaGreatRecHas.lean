/-
  Layer 7: which fields of a record aren't zero. Conditions: none.
-/
import Derived.Test.YtalhbblmnahcdaaGreatRecMem
import Derived.ChangeKeysEq
namespace Go.Proofs.YtalhbblmnahcdaaGreat.Rec
set_option maxRecDepth 100000
open Go.RowKit Go.Proofs.YtalhbblmnahcdaaGreat.Mem Go.Proofs.YtalhbblmnahcdaaGreat.Item

theorem tid_neq (a b c x y z : Int) (w : World) : (binOp .neq 47 (.agg #[.int .i64 a, .int .i64 b, .int .i64 c]) (.agg #[.int .i64 x, .int .i64 y, .int .i64 z])).run Tryz.prog w = .ok (.bool (!(decide (a = x) && decide (b = y) && decide (c = z)))) w := by
  have e : Tryz.prog.underlying 47 = some (.struct (Tryz.prog.fieldsOf 47)) := by kernel_rfl
  have e2 : Tryz.prog.stoodInHeld 47 = false := by kernel_rfl
  rw [run_neq_struct, run_equalIn_agg w _ _ _ _ e e2]
  obtain ⟨f0, f1, f2, hf, t0, t1, t2, o0, o1, o2, n0, n1, n2⟩ : ∃ f0 f1 f2 : Field, (Tryz.prog.fieldsOf 47).toList = [f0, f1, f2] ∧ f0.type = 3 ∧ f1.type = 3 ∧ f2.type = 3 ∧ f0.offset = 0 ∧ f1.offset = 1 ∧ f2.offset = 2 ∧ f0.name ≠ "_" ∧ f1.name ≠ "_" ∧ f2.name ≠ "_" := ⟨_, _, _, rfl, rfl, rfl, rfl, rfl, rfl, rfl, by decide, by decide, by decide⟩
  rw [hf]
  have hu := Tryz.underlying3
  by_cases ha : a = x
  · by_cases hb : b = y
    · by_cases hc : c = z
      · simp [Op.eqFields, n0, n1, n2, t0, t1, t2, o0, o1, o2, go_sem, hu, ha, hb, hc]
      · simp [Op.eqFields, n0, n1, n2, t0, t1, t2, o0, o1, o2, go_sem, hu, ha, hb, hc]
    · simp [Op.eqFields, n0, n1, n2, t0, t1, t2, o0, o1, o2, go_sem, hu, ha, hb]
  · simp [Op.eqFields, n0, n1, n2, t0, t1, t2, o0, o1, o2, go_sem, hu, ha]
theorem arr_neq (b0 b1 b2 b3 b4 b5 b6 b7 b8 b9 b10 b11 : Bool) (w : World) :
    (binOp .neq 134 (.agg #[.bool b0, .bool b1, .bool b2, .bool b3, .bool b4, .bool b5, .bool b6, .bool b7, .bool b8, .bool b9, .bool b10, .bool b11]) (.agg #[.bool false, .bool false, .bool false, .bool false, .bool false, .bool false, .bool false, .bool false, .bool false, .bool false, .bool false, .bool false])).run Tryz.prog w =
      .ok (.bool ([b0, b1, b2, b3, b4, b5, b6, b7, b8, b9, b10, b11].any id)) w := by
  cases b0
  · cases b1
    · cases b2
      · cases b3
        · cases b4
          · cases b5
            · cases b6
              · cases b7
                · cases b8
                  · cases b9
                    · cases b10
                      · cases b11
                        · kernel_rfl
                        · kernel_rfl
                      · kernel_rfl
                    · kernel_rfl
                  · kernel_rfl
                · kernel_rfl
              · kernel_rfl
            · kernel_rfl
          · kernel_rfl
        · kernel_rfl
      · kernel_rfl
    · kernel_rfl
  · kernel_rfl

def t0B (t : Tid) : Bool := decide (t.node = 0) && decide (t.epoch = 0) && decide (t.seq = 0)
/-- Of each field: isn't it zero? -/
def hasB (r : Rc) : List Bool := [decide (r.node ≠ 0), decide (r.count ≠ 0), decide (r.num ≠ 0), decide (r.cell ≠ 0), decide (r.status ≠ 0), decide (r.hop ≠ 0), decide (r.version ≠ 0), decide (r.value ≠ 0), !t0B r.tid, decide (0 < r.items.length), decide (0 < r.nodes.length), r.yes]
/-- Behind k numbers. -/
def hasK (r : Rc) (k : Nat) : List Bool := (hasB r).mapIdx fun i b => if i < 8 then decide (i < k) && b else b
theorem lt8 {k : Nat} (h : k < 8) : k = 0 ∨ k = 1 ∨ k = 2 ∨ k = 3 ∨ k = 4 ∨ k = 5 ∨ k = 6 ∨ k = 7 := by omega
theorem hasK_set (r : Rc) (k : Nat) (h : k < 8) : ((hasK r k).map Value.bool).set k (.bool (decide (r.get k ≠ 0))) = (hasK r (k + 1)).map Value.bool := by
  rcases lt8 h with rfl | rfl | rfl | rfl | rfl | rfl | rfl | rfl <;> simp [hasK, hasB, Rc.get, Rc.numV]
theorem hasK_all (r : Rc) : hasK r 8 = hasB r := by simp [hasK, hasB]
theorem hasB_length (r : Rc) : (hasB r).length = 12 := rfl
theorem hasK_length (r : Rc) (k : Nat) : (hasK r k).length = 12 := by simp [hasK, hasB]

theorem index_num (a0 a1 a2 a3 a4 a5 a6 a7 : Int) (k : Nat) (h : k < 8) (w : World) : (Instr.index 138 (.agg #[.int .i64 a0, .int .i64 a1, .int .i64 a2, .int .i64 a3, .int .i64 a4, .int .i64 a5, .int .i64 a6, .int .i64 a7]) (.int .i64 (k : Int))).run Tryz.prog w = .ok (.int .i64 (([a0, a1, a2, a3, a4, a5, a6, a7][k]?).getD 0)) w := by
  rcases lt8 h with rfl | rfl | rfl | rfl | rfl | rfl | rfl | rfl
  · kernel_rfl
  · kernel_rfl
  · kernel_rfl
  · kernel_rfl
  · kernel_rfl
  · kernel_rfl
  · kernel_rfl
  · kernel_rfl
theorem index_get (r : Rc) (k : Nat) (h : k < 8) (w : World) : (Instr.index 138 (.agg #[.int .i64 r.node, .int .i64 r.count, .int .i64 r.num, .int .i64 r.cell, .int .i64 r.status, .int .i64 r.hop, .int .i64 r.version, .int .i64 r.value]) (.int .i64 (k : Int))).run Tryz.prog w = .ok (.int .i64 (r.get k)) w :=
  index_num _ _ _ _ _ _ _ _ k h w
end Go.Proofs.YtalhbblmnahcdaaGreat.Rec
