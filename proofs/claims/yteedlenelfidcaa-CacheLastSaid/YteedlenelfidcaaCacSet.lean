/-
  Layer 17, CacheLast: a map from cells to true, with its size. Conditions: none.
-/
import Derived.Test.YteedlenelfidcaaMaps
import Derived.Test.YteedlenelfidcaaSls
import Derived.Test.YteedlenelfidcaaOnly
import Derived.Test.YteedlenelfidcaaBase
import Derived.Lib.LaidTab
import Derived.Deep.DeepHandedRow
namespace Go.Proofs.Yteedlenelfidcaa.Cac
set_option maxRecDepth 100000
open Go.ChangeShapes Go.WideShapes Go.ChangeAt Go.RowKit Go.Deep Go.ChangeMaps Go.MapKept Go.Proofs.Yteedlenelfidcaa.Mem

theorem int_key : Go.Maps.Keyed Try.prog 3 := Go.Maps.int_keyed Try.underlying3
/-- The map of the cells that were seen: just these, each once. -/
def Set_ (w : World) (m : Nat) (L : List Int) : Prop := ∃ es clock, w.heap[m]? = some (.map es clock) ∧ es.size = L.length ∧ KM Try.prog 3 w m L.length fun k v => v = .bool true ∧ ∃ n ∈ L, k = .int .i64 n
section
variable {w w' : World} {m : Nat} {L : List Int}
theorem Set_.only {S : Nat → Prop} (h : Set_ w m L) (ho : Only S w w') (hn : ¬ S m) : Set_ w' m L := by
  obtain ⟨es, clock, h1, h2, h3⟩ := h
  exact ⟨es, clock, (ho.block m (lt_of_block h1) hn).trans h1, h2, h3.only ho hn⟩
theorem Set_.later (h : Set_ w m L) (hb : Below w.heap.size w w') : Set_ w' m L := h.only (Only.of_below (S := fun _ => False) hb) fun e => e
theorem Set_.lt (h : Set_ w m L) : m < w.heap.size := by
  obtain ⟨es, clock, h1, _⟩ := h
  exact lt_of_block h1
theorem set_made (w : World) (c : Nat) : Set_ (w.alloc (.map #[] c)) w.heap.size [] :=
  ⟨#[], c, heap_alloc_new w _, rfl, (km_made _ _ w c).congr (fun k v => ⟨fun e => e.elim, fun ⟨_, n, hn, _⟩ => by cases hn⟩) (Nat.le_refl _)⟩
theorem wf_n {n : Int} (h1 : 0 ≤ n) (h2 : n ≤ 1000) : keyOf Try.prog 3 (.int .i64 n) = some (.int .i64 n) := by
  refine Go.Maps.keyOf_int_mk Try.underlying3 ?_
  have e1 : IntKind.i64.min = -9223372036854775808 := rfl
  have e2 : IntKind.i64.max = 9223372036854775807 := rfl
  simp only [Lit.wf, Bool.and_eq_true, decide_eq_true_eq, e1, e2]
  omega
theorem Set_.look (h : Set_ w m L) {n : Int} (h1 : 0 ≤ n) (h2 : n ≤ 1000) : (Instr.lookup 57 (.map (some m)) (.int .i64 n) false).run Try.prog w = .ok (.bool (decide (n ∈ L))) w := by
  obtain ⟨es, clock, g1, g2, g3⟩ := h
  rcases g3.look int_key Try.underlying57 (z := .bool false) (Try.zeroValue4 w) (wf_n h1 h2) false with ⟨v, ⟨rfl, q, hq, e⟩, e2⟩ | ⟨hno, e⟩
  · simp only [Value.int.injEq, true_and] at e
    rw [decide_eq_true (e ▸ hq)]
    exact e2
  · rw [decide_eq_false fun hn => hno (.bool true) ⟨rfl, n, hn, rfl⟩]
    exact e
theorem Set_.store (h : Set_ w m L) {n : Int} (h1 : 0 ≤ n) (h2 : n ≤ 1000) (hn : n ∉ L) :
    ∃ w', (Instr.mapUpdate 57 (.map (some m)) (.int .i64 n) (.bool true)).run Try.prog w = .ok () w' ∧ Set_ w' m (L ++ [n]) ∧ Only (fun k => k = m) w w' := by
  obtain ⟨es, clock, g1, g2, g3⟩ := h
  obtain ⟨w', e1, e2, e3⟩ := g3.store int_key Try.underlying57 (val := .bool true) (wf_n h1 h2)
  obtain ⟨es0, clock0, k1, k2, k3, k4, k5⟩ := g3
  obtain ⟨rfl, rfl⟩ : es = es0 ∧ clock = clock0 := by
    rw [g1] at k1
    simpa using k1
  have hno : ∀ x ∈ es.toList, x.key ≠ .int .i64 n := fun x hx ek => by
    obtain ⟨_, q, hq, e⟩ := (k5 x.key x.val).1 ⟨x, hx, rfl, rfl⟩
    rw [ek] at e
    simp only [Value.int.injEq, true_and] at e
    exact hn (e ▸ hq)
  rcases int_key.find w (wf_n h1 h2) es.toList k4 with ⟨q1, q2⟩ | ⟨j, e0, q1, q2, q3⟩
  · have hst : (Instr.mapUpdate 57 (.map (some m)) (.int .i64 n) (.bool true)).run Try.prog w = .ok () (setBlock w m (.map (es.push ⟨.int .i64 n, .bool true, clock⟩) (clock + 1))) := by
      simp [Instr.mapUpdate, run_underlying Try.underlying57, MapKept.run_getObj_map g1, int_key.check w false (wf_n h1 h2), q1, MapKept.run_setObj_map _ g1, Result.andThen, setBlock]
    have hw' : w' = setBlock w m (.map (es.push ⟨.int .i64 n, .bool true, clock⟩) (clock + 1)) := by
      rw [e1] at hst
      exact ((Result.ok.injEq _ _ _ _).mp hst).2
    refine ⟨w', e1, ⟨_, _, by rw [hw']; exact heap_setBlock_same g1 _, by simp [g2], e2.congr (fun k v => ?_) (by simp)⟩, e3⟩
    constructor
    · rintro (⟨rfl, rfl⟩ | ⟨_, e, q, hq, e2⟩)
      · exact ⟨rfl, n, by simp, rfl⟩
      · exact ⟨e, q, by simp [hq], e2⟩
    · rintro ⟨rfl, q, hq, rfl⟩
      by_cases e : q = n
      · exact Or.inl ⟨by rw [e], rfl⟩
      · refine Or.inr ⟨by simpa using e, rfl, q, ?_, rfl⟩
        simpa [e] using hq
  · exact absurd q3 (hno e0 (List.mem_of_getElem? q2))
theorem Set_.len (h : Set_ w m L) : (Builtin.len_ #[57] 3 #[.map (some m)]).run Try.prog w = .ok (.int .i64 (L.length : Int)) w := by
  obtain ⟨es, clock, g1, g2, _⟩ := h
  rw [← g2]
  simp [Builtin.len_, run_underlying Try.underlying57, MapKept.run_getObj_map g1, Result.andThen, goInt]
end
end Go.Proofs.Yteedlenelfidcaa.Cac
