/- Part 12 of the proof. Conditions: none. -/
import Derived.Test.YtdkchpiinelmiaaGreatZ7
import Derived.Shelf.Spec.SlicesInsert
import Derived.Lib.AppendZerosOnto
namespace Go.Proofs.YtdkchpiinelmiaaGreat.Led
set_option maxRecDepth 100000
open Go.RowKit Go.Deep Mem fN Rec
theorem aQ {P : Program} {ρ : Operand -> Value} {o : Oper} (ty : TypeId) (x : Operand) (ho : o.op = .load ty x) (b off : Nat) (hx : ρ x = .pointer (some ⟨b, off, none⟩)) {v : Value} {w : World} (hrun : (loadVar ty ⟨b, off, none⟩).run P w = .ok v w) :
    (execOp ρ o).run P w = .ok (.value v) w := by
  unfold execOp; simp only [ho, hx, Instr.loadAt, Instr.sureAddr, Sem.run_bind, Sem.run_pure, Result.andThen_ok, hrun]
theorem yI (w : World) (g : Nat) (cur : Array Value) : Only (fun k => k = g) w (w.setRow g cur) := by
  refine ⟨rfl, rfl, rfl, by simp [World.setRow], fun k _ hn => ?_⟩
  simp [World.setRow, Array.getElem?_modify, Ne.symm hn]
theorem fy {P : Program} (w : World) (dT sT ty elem : TypeId) (g o dLen dCap : Nat) (a : Addr) (sLen sCap sz : Nat) (cur : Array Value) (t : TypeId) (cs : List Value)
    (hu : P.underlying dT = some (.slice elem)) (hs : (P.info? elem).map (·.size) = some sz)
    (hg : w.heap[g]? = some (.cells cur t (0, 0))) (hn : cs.length = Nat.min sLen dLen * sz)
    (hsrc : ∀ j v, cs[j]? = some v -> w.cell? (a.add j) = some v) (hfit : o + cs.length <= cur.size) (h1 : ∀ v ∈ cs, v.oneCell' = true) :
    ∃ v' w', (Builtin.copy_ #[dT, sT] ty #[.slice (some ⟨g, o, none⟩) dLen dCap, .slice (some a) sLen sCap]).run P w = .ok v' w' /\
      w'.heap[g]? = some (.cells (cur.toList.take o ++ cs ++ cur.toList.drop (o + cs.length)).toArray t (0, 0)) /\ Only (fun k => k = g) w w' := by
  have hl := run_loadCells_list (P := P) w a cs hsrc; have hst := run_storeCells_at P g o t cs 0 cur w hg (by simpa using hfit) h1; refine ⟨goInt (Nat.min sLen dLen), _, ?_, setRow_heap w g cur _ t _ hg, yI w g _⟩
  cases hq : P.info? elem with
  | none => simp [hq] at hs
  | some i =>
    have hi : i.size = sz := by simpa [hq] using hs
    simp [Builtin.copy_, run_underlying hu, Builtin.lenOf, Builtin.firstCells, sizeOf, typeInfo, hq, hi, <- hn, hl, hst]
def over (l : List Value) (o : Nat) (m : List Value) : List Value := l.take o ++ m ++ l.drop (o + m.length)
theorem BG (l : List Value) (o : Nat) (m : List Value) : over l o m = l.take o ++ m ++ l.drop (o + m.length) := rfl
theorem dR {l m : List Value} {o : Nat} (h : o + m.length <= l.length) : (over l o m).length = l.length := by unfold over; simp; omega
theorem jJ {sz : Nat} {vs : List (List Value)} (h : ∀ v ∈ vs, v.length = sz) (i : Nat) (hi : i <= vs.length) : vs.flatten.take (i * sz) = (vs.take i).flatten := by
  conv => lhs; rw [<- List.take_append_drop i vs, List.flatten_append]
  have hl := aW (vs := vs.take i) (sz := sz) fun v hv => h v (List.mem_of_mem_take hv)
  rw [List.length_take, Nat.min_eq_left hi] at hl; rw [List.take_append_of_le_length (by omega), List.take_of_length_le (by omega)]
theorem cN {sz : Nat} {vs : List (List Value)} (h : ∀ v ∈ vs, v.length = sz) (i : Nat) (hi : i <= vs.length) : vs.flatten.drop (i * sz) = (vs.drop i).flatten := by
  conv => lhs; rw [<- List.take_append_drop i vs, List.flatten_append]
  have hl := aW (vs := vs.take i) (sz := sz) fun v hv => h v (List.mem_of_mem_take hv)
  rw [List.length_take, Nat.min_eq_left hi] at hl; rw [List.drop_append_of_le_length (by omega), List.drop_of_length_le (by omega), List.nil_append]
theorem u6 {sz i : Nat} {vs : List (List Value)} {x cur : List Value} (h : ∀ v ∈ vs, v.length = sz) (hx : x.length = sz) (hi : i < vs.length) (hc : (vs.length + 1) * sz <= cur.length) (ht : cur.take (i * sz) = (vs.take i).flatten) :
    (over (over cur ((i + 1) * sz) (vs.drop i).flatten) (i * sz) x).take ((vs.length + 1) * sz) = (vs.take i ++ x :: vs.drop i).flatten /\ (over (over cur ((i + 1) * sz) (vs.drop i).flatten) (i * sz) x).length = cur.length := by
  have hd := aW (vs := vs.drop i) (sz := sz) fun v hv => h v (List.mem_of_mem_drop hv)
  rw [List.length_drop] at hd; have e1 : (i + 1) * sz = i * sz + sz := Nat.succ_mul _ _; have e2 : (vs.length + 1) * sz = i * sz + sz + (vs.length - i) * sz := by
    rw [<- Nat.succ_mul, <- Nat.add_mul]
    congr 1
    omega
  have l1 := dR (l := cur) (m := (vs.drop i).flatten) (o := (i + 1) * sz) (by omega); have l2 := dR (l := over cur ((i + 1) * sz) (vs.drop i).flatten) (m := x) (o := i * sz) (by rw [l1]; omega); refine ⟨?_, l2.trans l1⟩; have t1 : (over cur ((i + 1) * sz) (vs.drop i).flatten).take (i * sz) = (vs.take i).flatten := by
    unfold over; rw [List.append_assoc, List.take_append_of_le_length (by rw [List.length_take]; omega), List.take_take, Nat.min_eq_left (by omega), ht]
  have t2 : (over cur ((i + 1) * sz) (vs.drop i).flatten).drop (i * sz + sz) = (vs.drop i).flatten ++ cur.drop ((i + 1) * sz + (vs.length - i) * sz) := by
    unfold over; rw [List.append_assoc, List.drop_append_of_le_length (by rw [List.length_take]; omega), <- e1, List.drop_of_length_le (by rw [List.length_take]; omega), List.nil_append, hd]
  have e3 : over (over cur ((i + 1) * sz) (vs.drop i).flatten) (i * sz) x = ((vs.take i).flatten ++ x ++ (vs.drop i).flatten) ++ cur.drop ((i + 1) * sz + (vs.length - i) * sz) := by
    rw [BG (over cur ((i + 1) * sz) (vs.drop i).flatten) (i * sz) x, t1, hx, t2]; simp only [List.append_assoc]
  have hi' := aW (vs := vs.take i) (sz := sz) fun v hv => h v (List.mem_of_mem_take hv)
  rw [List.length_take, Nat.min_eq_left (Nat.le_of_lt hi)] at hi'; rw [e3, List.take_append_of_le_length (by simp only [List.length_append]; omega), List.take_of_length_le (by simp only [List.length_append]; omega)]
  simp
theorem xQ {sz i : Nat} {vs : List (List Value)} {x cur : List Value} (h : ∀ v ∈ vs, v.length = sz) (hx : x.length = sz) (hi : i < vs.length) (hc : (vs.length + 1) * sz <= cur.length) (ht : cur.take (i * sz) = (vs.take i).flatten) :
    (over (over cur (i * sz) x) ((i + 1) * sz) (vs.drop i).flatten).take ((vs.length + 1) * sz) = (vs.take i ++ x :: vs.drop i).flatten /\ (over (over cur (i * sz) x) ((i + 1) * sz) (vs.drop i).flatten).length = cur.length := by
  have hd := aW (vs := vs.drop i) (sz := sz) fun v hv => h v (List.mem_of_mem_drop hv)
  rw [List.length_drop] at hd; have e1 : (i + 1) * sz = i * sz + sz := Nat.succ_mul _ _; have e2 : (vs.length + 1) * sz = i * sz + sz + (vs.length - i) * sz := by
    rw [<- Nat.succ_mul, <- Nat.add_mul]
    congr 1
    omega
  have l1 := dR (l := cur) (m := x) (o := i * sz) (by omega); have l2 := dR (l := over cur (i * sz) x) (m := (vs.drop i).flatten) (o := (i + 1) * sz) (by rw [l1]; omega); refine ⟨?_, l2.trans l1⟩; have hi' := aW (vs := vs.take i) (sz := sz) fun v hv => h v (List.mem_of_mem_take hv)
  rw [List.length_take, Nat.min_eq_left (Nat.le_of_lt hi)] at hi'; have t1 : (over cur (i * sz) x).take ((i + 1) * sz) = (vs.take i).flatten ++ x := by
    unfold over; rw [ht, List.take_append_of_le_length (by simp only [List.length_append]; omega), List.take_of_length_le (by simp only [List.length_append]; omega)]
  rw [BG (over cur (i * sz) x) ((i + 1) * sz) (vs.drop i).flatten, t1, List.take_append_of_le_length (by simp only [List.length_append]; omega), List.take_of_length_le (by simp only [List.length_append]; omega)]
  simp
