/-
  Layer 11: two packets held against one another. Conditions: none.
-/
import Derived.Test.YtfhcfiebhagbeaaNetMem
import Derived.Laws.StructEq
namespace Go.Proofs.Ytfhcfiebhagbeaa.Net
set_option maxRecDepth 100000
open Go.RowKit Go.Deep Go.Proofs.Ytfhcfiebhagbeaa.Mem

theorem bytes_list {a b : ByteArray} : (a.toList == b.toList) = decide (a = b) := by
  rw [ByteArray.toList_eq, ByteArray.toList_eq]
  by_cases h : a = b
  · subst h; simp
  · have h2 : ¬ a.data = b.data := fun e => h (ByteArray.ext e)
    simp [h, h2]
theorem pk_equal (T : TypeId) (hT : Try.prog.underlying T = some (.struct (Try.prog.fieldsOf T))) (hT2 : Try.prog.stoodInHeld T = false)
    (hf : ∃ f0 f1 f2 f3 : Field, (Try.prog.fieldsOf T).toList = [f0, f1, f2, f3] ∧ f0.type = 3 ∧ f1.type = 3 ∧ f2.type = 9 ∧ f3.type = 4 ∧ f0.offset = 0 ∧ f1.offset = 1 ∧ f2.offset = 2 ∧ f3.offset = 3 ∧ f0.name ≠ "_" ∧ f1.name ≠ "_" ∧ f2.name ≠ "_" ∧ f3.name ≠ "_")
    (p q : Pk) (w : World) : (Op.equalIn 10000 T p.val q.val).run Try.prog w = .ok (decide (p = q)) w := by
  obtain ⟨a, b, c, d⟩ := p
  obtain ⟨x, y, z, u⟩ := q
  unfold Pk.val
  dsimp only
  rw [run_equalIn_agg w _ _ _ _ hT hT2]
  obtain ⟨f0, f1, f2, f3, hf, t0, t1, t2, t3, o0, o1, o2, o3, n0, n1, n2, n3⟩ := hf
  rw [hf]
  have hu := Try.underlying3
  have hs := Try.underlying9
  have hb := Try.underlying4
  by_cases ha : a = x
  · by_cases hb' : b = y
    · by_cases hc : c = z
      · by_cases hd : d = u
        · simp [Op.eqFields, n0, n1, n2, n3, t0, t1, t2, t3, o0, o1, o2, o3, go_sem, hu, hs, hb, ha, hb', hc, hd]
        · simp [Op.eqFields, n0, n1, n2, n3, t0, t1, t2, t3, o0, o1, o2, o3, go_sem, hu, hs, hb, ha, hb', hc, hd]
      · simp [Op.eqFields, n0, n1, n2, t0, t1, t2, o0, o1, o2, go_sem, hu, hs, bytes_list, ha, hb', hc]
    · simp [Op.eqFields, n0, n1, t0, t1, o0, o1, go_sem, hu, ha, hb']
  · simp [Op.eqFields, n0, t0, o0, go_sem, hu, ha]
theorem pk_neq (p q : Pk) (w : World) : (binOp .neq 39 p.val q.val).run Try.prog w = .ok (.bool (!decide (p = q))) w := by
  have h := pk_equal 39 (by kernel_rfl) (by kernel_rfl) ⟨_, _, _, _, rfl, rfl, rfl, rfl, rfl, rfl, rfl, rfl, rfl, by decide, by decide, by decide, by decide⟩ p q w
  show (binOp .neq 39 (.agg _) (.agg _)).run Try.prog w = _
  rw [run_neq_struct]
  unfold Pk.val at h
  rw [h]
  rfl
theorem rpk_neq (p q : Pk) (w : World) : (binOp .neq 42 p.val q.val).run Try.prog w = .ok (.bool (!decide (p = q))) w := by
  have h := pk_equal 42 (by kernel_rfl) (by kernel_rfl) ⟨_, _, _, _, rfl, rfl, rfl, rfl, rfl, rfl, rfl, rfl, rfl, by decide, by decide, by decide, by decide⟩ p q w
  show (binOp .neq 42 (.agg _) (.agg _)).run Try.prog w = _
  rw [run_neq_struct]
  unfold Pk.val at h
  rw [h]
  rfl
end Go.Proofs.Ytfhcfiebhagbeaa.Net
