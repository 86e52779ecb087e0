/-
  The builtin copy at structs; a list in which a thing is put in. No program's type is named. Conditions: none.
-/
import Derived.Test.YtnbdgjaekjneaaaSls
import Derived.Shelf.Spec.SlicesInsert
import Derived.Lib.AppendZerosOnto
namespace Go.Proofs.Ytnbdgjaekjneaaa.Mem
set_option maxRecDepth 100000
open Go.RowKit Go.Deep
/-- The builtin copy into a block of the call's own. -/
theorem run_copy_k {P : Program} (w : World) (dT sT ty elem : TypeId) (g o dLen dCap : Nat) (a : Addr) (sLen sCap sz : Nat) (cur : Array Value) (t : TypeId) (cs : List Value)
    (hu : P.underlying dT = some (.slice elem)) (hs : (P.info? elem).map (·.size) = some sz)
    (hg : w.heap[g]? = some (.cells cur t (0, 0))) (hn : cs.length = Nat.min sLen dLen * sz)
    (hsrc : ∀ j v, cs[j]? = some v → w.cell? (a.add j) = some v) (hfit : o + cs.length ≤ cur.size) (h1 : ∀ v ∈ cs, v.oneCell' = true) :
    ∃ v' w', (Builtin.copy_ #[dT, sT] ty #[.slice (some ⟨g, o, none⟩) dLen dCap, .slice (some a) sLen sCap]).run P w = .ok v' w' ∧
      w'.heap[g]? = some (.cells (cur.toList.take o ++ cs ++ cur.toList.drop (o + cs.length)).toArray t (0, 0)) ∧ Only (fun k => k = g) w w' := by
  have hl := run_loadCells_list (P := P) w a cs hsrc
  have hst := run_storeCells_at P g o t cs 0 cur w hg (by simpa using hfit) h1
  refine ⟨goInt (Nat.min sLen dLen), _, ?_, setRow_heap w g cur _ t _ hg, only_setRow w g _⟩
  cases hq : P.info? elem with
  | none => simp [hq] at hs
  | some i =>
    have hi : i.size = sz := by simpa [hq] using hs
    simp [Builtin.copy_, run_underlying hu, Builtin.lenOf, Builtin.firstCells, sizeOf, typeInfo, hq, hi, ← hn, hl, hst]
/-- First what stands from i on is laid one place on, then the new thing. -/
theorem ins_shift {sz i : Nat} {vs : List (List Value)} {x cur : List Value} (h : ∀ v ∈ vs, v.length = sz) (hx : x.length = sz) (hi : i < vs.length) (hc : (vs.length + 1) * sz ≤ cur.length) (ht : cur.take (i * sz) = (vs.take i).flatten) :
    (over (over cur ((i + 1) * sz) (vs.drop i).flatten) (i * sz) x).take ((vs.length + 1) * sz) = (vs.take i ++ x :: vs.drop i).flatten ∧ (over (over cur ((i + 1) * sz) (vs.drop i).flatten) (i * sz) x).length = cur.length := by
  have hd := flatten_len (vs := vs.drop i) (sz := sz) fun v hv => h v (List.mem_of_mem_drop hv)
  rw [List.length_drop] at hd
  have e1 : (i + 1) * sz = i * sz + sz := Nat.succ_mul _ _
  have e2 : (vs.length + 1) * sz = i * sz + sz + (vs.length - i) * sz := by
    rw [← Nat.succ_mul, ← Nat.add_mul]
    congr 1
    omega
  have l1 := over_len (l := cur) (m := (vs.drop i).flatten) (o := (i + 1) * sz) (by omega)
  have l2 := over_len (l := over cur ((i + 1) * sz) (vs.drop i).flatten) (m := x) (o := i * sz) (by rw [l1]; omega)
  refine ⟨?_, l2.trans l1⟩
  have t1 : (over cur ((i + 1) * sz) (vs.drop i).flatten).take (i * sz) = (vs.take i).flatten := by
    unfold over
    rw [List.append_assoc, List.take_append_of_le_length (by rw [List.length_take]; omega), List.take_take, Nat.min_eq_left (by omega), ht]
  have t2 : (over cur ((i + 1) * sz) (vs.drop i).flatten).drop (i * sz + sz) = (vs.drop i).flatten ++ cur.drop ((i + 1) * sz + (vs.length - i) * sz) := by
    unfold over
    rw [List.append_assoc, List.drop_append_of_le_length (by rw [List.length_take]; omega), ← e1, List.drop_of_length_le (by rw [List.length_take]; omega), List.nil_append, hd]
  have e3 : over (over cur ((i + 1) * sz) (vs.drop i).flatten) (i * sz) x = ((vs.take i).flatten ++ x ++ (vs.drop i).flatten) ++ cur.drop ((i + 1) * sz + (vs.length - i) * sz) := by
    rw [over_eq (over cur ((i + 1) * sz) (vs.drop i).flatten) (i * sz) x, t1, hx, t2]
    simp only [List.append_assoc]
  have hi' := flatten_len (vs := vs.take i) (sz := sz) fun v hv => h v (List.mem_of_mem_take hv)
  rw [List.length_take, Nat.min_eq_left (Nat.le_of_lt hi)] at hi'
  rw [e3, List.take_append_of_le_length (by simp only [List.length_append]; omega), List.take_of_length_le (by simp only [List.length_append]; omega)]
  simp
/-- First the new thing is laid, then what stands from i on one place on. -/
theorem ins_grow {sz i : Nat} {vs : List (List Value)} {x cur : List Value} (h : ∀ v ∈ vs, v.length = sz) (hx : x.length = sz) (hi : i < vs.length) (hc : (vs.length + 1) * sz ≤ cur.length) (ht : cur.take (i * sz) = (vs.take i).flatten) :
    (over (over cur (i * sz) x) ((i + 1) * sz) (vs.drop i).flatten).take ((vs.length + 1) * sz) = (vs.take i ++ x :: vs.drop i).flatten ∧ (over (over cur (i * sz) x) ((i + 1) * sz) (vs.drop i).flatten).length = cur.length := by
  have hd := flatten_len (vs := vs.drop i) (sz := sz) fun v hv => h v (List.mem_of_mem_drop hv)
  rw [List.length_drop] at hd
  have e1 : (i + 1) * sz = i * sz + sz := Nat.succ_mul _ _
  have e2 : (vs.length + 1) * sz = i * sz + sz + (vs.length - i) * sz := by
    rw [← Nat.succ_mul, ← Nat.add_mul]
    congr 1
    omega
  have l1 := over_len (l := cur) (m := x) (o := i * sz) (by omega)
  have l2 := over_len (l := over cur (i * sz) x) (m := (vs.drop i).flatten) (o := (i + 1) * sz) (by rw [l1]; omega)
  refine ⟨?_, l2.trans l1⟩
  have hi' := flatten_len (vs := vs.take i) (sz := sz) fun v hv => h v (List.mem_of_mem_take hv)
  rw [List.length_take, Nat.min_eq_left (Nat.le_of_lt hi)] at hi'
  have t1 : (over cur (i * sz) x).take ((i + 1) * sz) = (vs.take i).flatten ++ x := by
    unfold over
    rw [ht, List.take_append_of_le_length (by simp only [List.length_append]; omega), List.take_of_length_le (by simp only [List.length_append]; omega)]
  rw [over_eq (over cur (i * sz) x) ((i + 1) * sz) (vs.drop i).flatten, t1, List.take_append_of_le_length (by simp only [List.length_append]; omega), List.take_of_length_le (by simp only [List.length_append]; omega)]
  simp
end Go.Proofs.Ytnbdgjaekjneaaa.Mem
