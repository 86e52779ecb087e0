/-
  Layer 11, the document's net: a list of packets that is put together out of parts, in open order. Conditions: none.
-/
import Derived.Test.YtfhcfiebhagbeaaNetRef
import Derived.Test.YtfhcfiebhagbeaaNetAll
import Derived.Test.YtfhcfiebhagbeaaReg4
namespace Go.Proofs.Ytfhcfiebhagbeaa.Net
set_option maxRecDepth 100000
open Go.RowKit Go.Deep Go.Proofs.Ytfhcfiebhagbeaa.Mem

/-- While an empty slice (dz), appends onto it (v holds l now) and a slice of one packet (dx) are made, in open order. -/
structure Ap (w0 : World) (dz : Bool) (v : Value) (l : List Pk) (dx : Bool) (vx : Value) (p : Pk) (W : World) : Prop where
  low : Below w0.heap.size w0 W
  acc : dz = true → W.ownsRow w0.heap.size 42 4 v l.length (l.map Pk.vals).flatten
  x : dx = true → ∃ g, vx = .slice (some ⟨g, 0, none⟩) 1 1 ∧ Cells W g 42 p.vals ∧ w0.heap.size ≤ g ∧ (dz = true → v.ownBlock ≠ some g)
section
variable {w0 W : World} {dz dx : Bool} {v vx : Value} {l m : List Pk} {p : Pk}
theorem Ap.start (hb : Below w0.heap.size w0 W) (v vx : Value) (l : List Pk) (p : Pk) : Ap w0 false v l false vx p W := ⟨hb, fun e => (by cases e), fun e => (by cases e)⟩
theorem Ap.mkz (h : Ap w0 false v l dx vx p W) : Ap w0 true (.slice (some ⟨W.heap.size, 0, none⟩) 0 0) [] dx vx p (W.alloc (.cells #[] 42)) := by
  have hb := below_alloc W (.cells #[] 42)
  refine ⟨h.low.trans (hb.mono h.low.size), fun _ => own_up h.low.size (World.ownsRow_made (base := W.heap.size) W #[] 0 (Nat.le_refl _) (Nat.zero_le _) rfl), fun e => ?_⟩
  obtain ⟨g, e1, e2, e3, _⟩ := h.x e
  refine ⟨g, e1, e2.later hb, e3, fun _ e4 => ?_⟩
  have := e2.lt
  have e5 : W.heap.size = g := Option.some.inj e4
  omega
theorem Ap.mkx (h : Ap w0 dz v l false vx p W) : Ap w0 dz v l true (.slice (some ⟨W.heap.size, 0, none⟩) 1 1) p (W.alloc (.cells #[.int .i64 p.src, .int .i64 p.dst, .string p.bytes, .bool p.spoilt] 42)) := by
  have hb := below_alloc W (.cells #[.int .i64 p.src, .int .i64 p.dst, .string p.bytes, .bool p.spoilt] 42)
  refine ⟨h.low.trans (hb.mono h.low.size), fun e => own_later (h.acc e) hb, fun _ => ⟨W.heap.size, rfl, cells_new W 42 p.vals _ rfl, h.low.size, fun e e4 => ?_⟩⟩
  have := ((h.acc e).lt _ e4).2
  omega
theorem Ap.app (h : Ap w0 true v l dx vx p W) {A : Option Addr} {c : Nat} (hs : Sl W A 4 (m.map Pk.vals)) (hA : A = none → c = 0) (hl : l.length + m.length ≤ 1000) :
    ∃ A' n' c' W', (Builtin.append_ #[36, 36] 36 #[v, .slice A m.length c]).run Try.prog W = .ok (.slice A' n' c') W' ∧ Ap w0 true (.slice A' n' c') (l ++ m) dx vx p W' := by
  obtain ⟨v', W', hrun, hrow, hg, hnb⟩ := run_append_rows el_rpk W 36 w0.heap.size v (l.map Pk.vals) (m.map Pk.vals) A c (fit_pks _) (fit_pks _) (by rw [List.length_map]; exact h.acc rfl) hs hA (by rw [List.length_map, List.length_map]; omega) h.low.size
  obtain ⟨A', c', rfl⟩ := row_slice hrow
  rw [← List.map_append] at hrow hrun hnb
  rw [List.length_map] at hrun
  have ho := Only.of_grown hg
  refine ⟨A', _, c', W', hrun, h.low.trans (ho.below h.low.size fun k e => ((h.acc rfl).lt k e.symm).1), fun _ => by simpa using hrow, fun e => ?_⟩
  obtain ⟨g, e1, e2, e3, e4⟩ := h.x e
  refine ⟨g, e1, cells_only e2 ho fun e5 => e4 rfl e5.symm, e3, fun _ e6 => ?_⟩
  rcases hnb with e7 | e7
  · exact e4 rfl (e7.symm.trans e6)
  · have := e2.lt
    have e8 := e7.symm.trans e6
    have e9 : W.heap.size = g := Option.some.inj e8
    omega
/-- The slice of one packet is appended. -/
theorem Ap.one (h : Ap w0 true v l true vx p W) (hl : l.length ≤ 900) :
    ∃ g A' n' c' W', vx = .slice (some ⟨g, 0, none⟩) 1 1 ∧ (Builtin.append_ #[36, 36] 36 #[v, .slice (some ⟨g, 0, none⟩) 1 1]).run Try.prog W = .ok (.slice A' n' c') W' ∧ Ap w0 true (.slice A' n' c') (l ++ [p]) true vx p W' := by
  obtain ⟨g, e1, e2, e3, e4⟩ := h.x rfl
  have hsl : Sl W (some ⟨g, 0, none⟩) 4 ([p].map Pk.vals) := cells_sl (by simpa using e2) fun v hv => by
    obtain ⟨q, hq, rfl⟩ := List.mem_map.1 hv
    rfl
  obtain ⟨A', n', c', W', h1, h2⟩ := h.app (m := [p]) hsl (fun e => by cases e) (by simp; omega)
  exact ⟨g, A', n', c', W', e1, h1, h2⟩
theorem RefAt.sl {B rb ac cc : Nat} {R : Rf} {A C : Option Addr} (h : RefAt B W rb R A ac C cc) : Sl W A 4 (R.fl.map Pk.vals) ∧ (A = none → ac = 0) := by
  obtain ⟨A', c', e, h1, h2, _⟩ := own_sl (vs := R.fl.map Pk.vals) (by rw [List.length_map]; exact h.rowL) (fit_pks _).len
  simp only [Value.slice.injEq] at e
  obtain ⟨rfl, _, rfl⟩ := e
  exact ⟨h1, h2⟩
end
end Go.Proofs.Ytfhcfiebhagbeaa.Net
