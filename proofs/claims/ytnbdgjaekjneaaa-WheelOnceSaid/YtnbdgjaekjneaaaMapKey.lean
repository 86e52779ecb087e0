/-
  What structs read as, as keys of maps. Conditions: none.
-/
import Derived.Test.YtnbdgjaekjneaaaMaps
import Derived.Test.YtnbdgjaekjneaaaBase
namespace Go.Proofs.Ytnbdgjaekjneaaa.Mem
set_option maxRecDepth 100000
open Go.RowKit Go.ChangeMaps Go.MapKept

theorem keyOf_struct' {P : Program} {k : TypeId} {fs : Array Field} {v : Value} (hu : P.underlying k = some (.struct fs)) (hk : P.keyType k = true) (hf : v.formed P k = true) (hs : 3 ≤ P.types.size)
    (hl : ∀ d, ∃ ls, P.keyLits (d + 1 + 1 + 1) k v.cells.toList = some ls) : ∃ kl, keyOf P k v = some kl := by
  obtain ⟨d, hd⟩ : ∃ d, P.types.size + 1 = d + 1 + 1 + 1 := ⟨P.types.size - 2, by omega⟩
  obtain ⟨ls, hls⟩ := hl d
  unfold keyOf
  rw [hu, hd]
  simp [hk, hf, hls]
theorem size3 : 3 ≤ Try.prog.types.size := of_decide_eq_true (by kernel_rfl)
theorem wf_i64' {x : Int} (h1 : -9223372036854775808 ≤ x) (h2 : x ≤ 9223372036854775807) : (Lit.int .i64 x).wf = true := by
  have e1 : IntKind.i64.min = -9223372036854775808 := rfl
  have e2 : IntKind.i64.max = 9223372036854775807 := rfl
  simp only [Lit.wf, Bool.and_eq_true, decide_eq_true_eq, e1, e2]
  exact ⟨h1, h2⟩
theorem lits_int' {a : Int} (h1 : -9223372036854775808 ≤ a) (h2 : a ≤ 9223372036854775807) (d : Nat) : Try.prog.keyLits (d + 1) 3 [.int .i64 a] = some [.int .i64 a] := by
  have h := wf_i64' h1 h2
  unfold Program.keyLits
  rw [Try.underlying3]
  simp [h]
theorem lits_fields' {P : Program} {k : TypeId} {fs : Array Field} {cs : List Value} (hu : P.underlying k = some (.struct fs)) (hn : fs.all (·.name != "_") = true) (hc : cs.length = P.cellsOf k) (d : Nat) {ls : List (List Lit)}
    (h : (fs.toList.mapM fun f => P.keyLits d f.type ((cs.drop f.offset).take (P.cellsOf f.type))) = some ls) : P.keyLits (d + 1) k cs = some ls.flatten := by
  unfold Program.keyLits
  rw [hu]
  show (if cs.length = P.cellsOf k ∧ fs.all (·.name != "_") = true then _ else none) = _
  rw [if_pos ⟨hc, hn⟩, h]
  rfl
/-- A map in which nothing stands. -/
theorem KM.none {P : Program} {kt : TypeId} {w : World} {b n : Nat} {R : Value → Value → Prop} (h : KM P kt w b n R) (hR : ∀ k v, ¬ R k v) : ∃ c, w.heap[b]? = some (.map #[] c) := by
  obtain ⟨es, clock, hb, _, _, _, h4⟩ := h
  have he : es = #[] := by
    match hl : es.toList with
    | [] => exact Array.toList_eq_nil_iff.1 hl
    | x :: r => exact absurd ((h4 x.key x.val).1 ⟨x, by rw [hl]; simp, rfl, rfl⟩) (hR _ _)
  exact ⟨clock, by rw [hb, he]⟩
end Go.Proofs.Ytnbdgjaekjneaaa.Mem
