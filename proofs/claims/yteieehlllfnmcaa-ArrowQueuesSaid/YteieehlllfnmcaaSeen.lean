/-
  A map from ints to true of the call's own: which numbers stand in it. Conditions: none.
-/
import Derived.Test.YteieehlllfnmcaaMaps
import Derived.Test.YteieehlllfnmcaaInts
namespace Go.Proofs.Yteieehlllfnmcaa.Mem
set_option maxRecDepth 100000
open Go.ChangeShapes Go.WideShapes Go.ChangeAt Go.RowKit Go.Deep Go.ChangeMaps Go.MapKept

theorem int_key : Go.Maps.Keyed Try.prog 3 := Go.Maps.int_keyed Try.underlying3
theorem wf_n {n : Int} (h1 : 0 ≤ n) (h2 : n ≤ 1000) : keyOf Try.prog 3 (.int .i64 n) = some (.int .i64 n) := by
  refine Go.Maps.keyOf_int_mk Try.underlying3 ?_
  have e1 : IntKind.i64.min = -9223372036854775808 := rfl
  have e2 : IntKind.i64.max = 9223372036854775807 := rfl
  simp only [Lit.wf, Bool.and_eq_true, decide_eq_true_eq, e1, e2]
  omega
/-- The map of the nodes that were gone through. -/
def Seen (w : World) (b : Nat) (l : List Nat) : Prop := ∃ n, KM Try.prog 3 w b n fun k v => v = .bool true ∧ ∃ x ∈ l, k = .int .i64 (x : Int)
section
variable {w w' : World} {b : Nat} {l : List Nat}
theorem Seen.later (h : Seen w b l) (hb : Below w.heap.size w w') : Seen w' b l := by
  obtain ⟨n, h⟩ := h
  exact ⟨n, h.later hb⟩
theorem seen_made (w : World) : Seen (w.alloc (.map #[] 0)) w.heap.size [] := ⟨0, (km_made _ _ w 0).congr (fun k v => ⟨fun e => e.elim, fun ⟨_, n, hn, _⟩ => by cases hn⟩) (Nat.le_refl _)⟩
theorem Seen.lt (h : Seen w b l) : b < w.heap.size := by
  obtain ⟨n, h⟩ := h
  exact h.lt
theorem Seen.look (h : Seen w b l) {x : Nat} (hx : x ∉ l) (h1 : x ≤ 1000) : (Instr.lookup 56 (.map (some b)) (.int .i64 (x : Int)) false).run Try.prog w = .ok (.bool false) w := by
  obtain ⟨n, h⟩ := h
  rcases h.look int_key Try.underlying56 (z := .bool false) (Try.zeroValue4 w) (wf_n (n := (x : Int)) (by omega) (by omega)) false with ⟨v, ⟨_, q, hq, e⟩, _⟩ | ⟨_, e⟩
  · simp only [Value.int.injEq, true_and, Int.natCast_inj] at e
    exact absurd (e ▸ hq) hx
  · exact e
theorem Seen.hit (h : Seen w b l) {x : Nat} (hx : x ∈ l) (h1 : x ≤ 1000) : (Instr.lookup 56 (.map (some b)) (.int .i64 (x : Int)) false).run Try.prog w = .ok (.bool true) w := by
  obtain ⟨n, h⟩ := h
  rcases h.look int_key Try.underlying56 (z := .bool false) (Try.zeroValue4 w) (wf_n (n := (x : Int)) (by omega) (by omega)) false with ⟨v, ⟨rfl, _⟩, e⟩ | ⟨hno, _⟩
  · exact e
  · exact absurd ⟨rfl, x, hx, rfl⟩ (hno (.bool true))
theorem Seen.store (h : Seen w b l) {x : Nat} (h1 : x ≤ 1000) : ∃ w', (Instr.mapUpdate 56 (.map (some b)) (.int .i64 (x : Int)) (.bool true)).run Try.prog w = .ok () w' ∧ Seen w' b (l ++ [x]) ∧ Only (fun k => k = b) w w' := by
  obtain ⟨n, h⟩ := h
  obtain ⟨w', e1, e2, e3⟩ := h.store int_key Try.underlying56 (val := .bool true) (wf_n (n := (x : Int)) (by omega) (by omega))
  refine ⟨w', e1, ⟨_, e2.congr (fun k v => ?_) (Nat.le_refl _)⟩, e3⟩
  constructor
  · rintro (⟨rfl, rfl⟩ | ⟨_, e, q, hq, e4⟩)
    · exact ⟨rfl, x, by simp, rfl⟩
    · exact ⟨e, q, by simp [hq], e4⟩
  · rintro ⟨e, q, hq, rfl⟩
    rcases List.mem_append.1 hq with e5 | e5
    · by_cases e6 : q = x
      · subst e6
        exact Or.inl ⟨rfl, e⟩
      · exact Or.inr ⟨by simp; omega, e, q, e5, rfl⟩
    · have : q = x := by simpa using e5
      subst this
      exact Or.inl ⟨rfl, e⟩
end
theorem Seen.only {S : Nat → Prop} {w w' : World} {b : Nat} {l : List Nat} (h : Seen w b l) (ho : Only S w w') (hn : ¬ S b) : Seen w' b l := by
  obtain ⟨n, h⟩ := h
  exact ⟨n, h.only ho hn⟩
end Go.Proofs.Yteieehlllfnmcaa.Mem
