/-
  Layer 18: a table of leases in memory; names held against one another. Conditions: none.
-/
import Derived.Test.YtiobblmagjbhjaaLeaM
import Derived.Test.YtiobblmagjbhjaaRowC
import Derived.Test.YtiobblmagjbhjaaInts
import Derived.Test.YtiobblmagjbhjaaReg3
import Derived.Test.YtiobblmagjbhjaaReg4
import Derived.Laws.StructEq
namespace Go.Proofs.Ytiobblmagjbhjaa.Lea
set_option maxRecDepth 100000
open Go.RowKit Go.Deep Go.Proofs.Ytiobblmagjbhjaa.Mem

theorem el_sv : Elem 61 66 (.agg #[.int .i64 0, .int .i64 0, .int .i64 0, .int .i64 0, .bool false]) 5 40 := ⟨Try.underlying61, by kernel_rfl, rfl, by decide, by decide⟩
/-- A table lies at block tb, its slots T at block g. -/
structure Tb (B : Nat) (w : World) (tb g : Nat) (T : List Sv) : Prop where
  box : Cells w tb 63 [.slice (some ⟨g, 0, none⟩) T.length T.length]
  row : OwnG 66 5 Sv.vals B w (.slice (some ⟨g, 0, none⟩) T.length T.length) T
  far : g ≠ tb
  low : B ≤ tb
  ok : Tok T
section
variable {B tb g : Nat} {w w1 : World} {T : List Sv}
theorem Tb.glt (h : Tb B w tb g T) : B ≤ g ∧ g < w.heap.size := h.row.lt rfl
theorem Tb.only {S : Nat → Prop} (h : Tb B w tb g T) (ho : Only S w w1) (h1 : ¬ S tb) (h2 : ¬ S g) : Tb B w1 tb g T :=
  ⟨cells_only h.box ho h1, row_only h.row ho fun k e => by rw [own_blk] at e; rw [← Option.some.inj e]; exact h2, h.far, h.low, h.ok⟩
theorem Tb.later (h : Tb B w tb g T) (hb : Below w.heap.size w w1) : Tb B w1 tb g T := h.only (S := fun _ => False) (Only.of_below hb) (fun e => e) fun e => e
theorem Tb.elem (h : Tb B w tb g T) {k : Nat} (hk : k < T.length) : CellsO w g (k * 5) T[k].vals := by
  obtain ⟨g2, e, hc⟩ := OwnG.elem fit_sv h.row hk
  obtain rfl : g = g2 := by simpa using e
  exact hc
/-- A slot is written. -/
def sets5 (w : World) (g o : Nat) (s : Sv) : World := ((((w.setCell ⟨g, o, none⟩ (.int .i64 s.tid.node)).setCell ⟨g, o + 1, none⟩ (.int .i64 s.tid.epoch)).setCell ⟨g, o + 2, none⟩ (.int .i64 s.tid.seq)).setCell ⟨g, o + 3, none⟩ (.int .i64 s.til)).setCell ⟨g, o + 4, none⟩ (.bool s.held)
theorem only_sets5 (w : World) (g o : Nat) (s : Sv) : Only (fun k => k = g) w (sets5 w g o s) :=
  ((((Only.of_set w ⟨g, o, none⟩ _).trans (Only.of_set _ ⟨g, o + 1, none⟩ _) fun _ _ e => e).trans (Only.of_set _ ⟨g, o + 2, none⟩ _) fun _ _ e => e).trans (Only.of_set _ ⟨g, o + 3, none⟩ _) fun _ _ e => e).trans (Only.of_set _ ⟨g, o + 4, none⟩ _) fun _ _ e => e
theorem Tb.put (h : Tb B w tb g T) {k : Nat} (hk : k < T.length) (s : Sv) (hs : s.held = false → s = sv0) : Tb B (sets5 w g (k * 5) s) tb g (T.set k s) := by
  have ho := only_sets5 w g (k * 5) s
  refine ⟨?_, ?_, h.far, h.low, ⟨by rw [List.length_set]; exact h.ok.len, fun x hx e => ?_⟩⟩
  · rw [List.length_set]
    exact cells_only h.box ho fun e => h.far e.symm
  · have r0 := OwnG.setC fit_sv h.row (j := 0) (u := .int .i64 s.tid.node) hk (by omega) rfl (x := ⟨⟨s.tid.node, T[k].tid.epoch, T[k].tid.seq⟩, T[k].til, T[k].held⟩) rfl
    have r1 := OwnG.setC fit_sv r0 (k := k) (j := 1) (u := .int .i64 s.tid.epoch) (by rw [List.length_set]; exact hk) (by omega) rfl (x := ⟨⟨s.tid.node, s.tid.epoch, T[k].tid.seq⟩, T[k].til, T[k].held⟩) (by rw [List.getElem_set_self]; rfl)
    have r2 := OwnG.setC fit_sv r1 (k := k) (j := 2) (u := .int .i64 s.tid.seq) (by rw [List.length_set, List.length_set]; exact hk) (by omega) rfl (x := ⟨s.tid, T[k].til, T[k].held⟩) (by rw [List.getElem_set_self]; rfl)
    have r3 := OwnG.setC fit_sv r2 (k := k) (j := 3) (u := .int .i64 s.til) (by rw [List.length_set, List.length_set, List.length_set]; exact hk) (by omega) rfl (x := ⟨s.tid, s.til, T[k].held⟩) (by rw [List.getElem_set_self]; rfl)
    have r4 := OwnG.setC fit_sv r3 (k := k) (j := 4) (u := .bool s.held) (by rw [List.length_set, List.length_set, List.length_set, List.length_set]; exact hk) (by omega) rfl (x := s) (by rw [List.getElem_set_self]; rfl)
    rw [List.set_set, List.set_set, List.set_set, List.set_set] at r4
    rw [List.length_set]
    exact r4
  · rcases List.mem_or_eq_of_mem_set hx with h1 | h1
    · exact h.ok.free x h1 e
    · rw [h1] at e ⊢
      exact hs e
end
theorem lt_cmp (T : TypeId) (hT : Try.prog.underlying T = some (.struct (Try.prog.fieldsOf T))) (hT2 : Try.prog.stoodInHeld T = false)
    (hf : ∃ f0 f1 f2 : Field, (Try.prog.fieldsOf T).toList = [f0, f1, f2] ∧ f0.type = 3 ∧ f1.type = 3 ∧ f2.type = 3 ∧ f0.offset = 0 ∧ f1.offset = 1 ∧ f2.offset = 2 ∧ f0.name ≠ "_" ∧ f1.name ≠ "_" ∧ f2.name ≠ "_")
    (p q : Lt) (w : World) : (Op.equalIn 10000 T p.v q.v).run Try.prog w = .ok (decide (p = q)) w := by
  obtain ⟨pa, pb, pc⟩ := p
  obtain ⟨qa, qb, qc⟩ := q
  unfold Lt.v
  dsimp only
  rw [run_equalIn_agg w _ _ _ _ hT hT2]
  obtain ⟨f0, f1, f2, hf, t0, t1, t2, o0, o1, o2, n0, n1, n2⟩ := hf
  rw [hf]
  have hu := Try.underlying3
  have hans : decide ((⟨pa, pb, pc⟩ : Lt) = ⟨qa, qb, qc⟩) = (decide (pa = qa) && (decide (pb = qb) && decide (pc = qc))) := by
    simp only [Lt.mk.injEq]
    by_cases h1 : pa = qa <;> by_cases h2 : pb = qb <;> by_cases h3 : pc = qc <;> simp [h1, h2, h3]
  rw [hans]
  by_cases ha : pa = qa
  · by_cases hb : pb = qb
    · simp [Op.eqFields, n0, n1, n2, t0, t1, t2, o0, o1, o2, go_sem, hu, ha, hb]
      by_cases hc : pc = qc <;> simp [hc]
    · simp [Op.eqFields, n0, n1, t0, t1, o0, o1, go_sem, hu, ha, hb]
  · simp [Op.eqFields, n0, t0, o0, go_sem, hu, ha]
theorem lt_neq (p q : Lt) (w : World) : (binOp .neq 34 (.agg #[.int .i64 p.node, .int .i64 p.epoch, .int .i64 p.seq]) (.agg #[.int .i64 q.node, .int .i64 q.epoch, .int .i64 q.seq])).run Try.prog w = .ok (.bool (!decide (p = q))) w := by
  have h := lt_cmp 34 (by kernel_rfl) (by kernel_rfl) ⟨_, _, _, rfl, rfl, rfl, rfl, rfl, rfl, rfl, by decide, by decide, by decide⟩ p q w
  rw [run_neq_struct]
  unfold Lt.v at h
  rw [h]
  rfl
theorem lt_eql (p q : Lt) (w : World) : (binOp .eql 34 (.agg #[.int .i64 p.node, .int .i64 p.epoch, .int .i64 p.seq]) (.agg #[.int .i64 q.node, .int .i64 q.epoch, .int .i64 q.seq])).run Try.prog w = .ok (.bool (decide (p = q))) w := by
  have h := lt_cmp 34 (by kernel_rfl) (by kernel_rfl) ⟨_, _, _, rfl, rfl, rfl, rfl, rfl, rfl, rfl, by decide, by decide, by decide⟩ p q w
  rw [run_eql_struct]
  unfold Lt.v at h
  rw [h]
  rfl
end Go.Proofs.Ytiobblmagjbhjaa.Lea
