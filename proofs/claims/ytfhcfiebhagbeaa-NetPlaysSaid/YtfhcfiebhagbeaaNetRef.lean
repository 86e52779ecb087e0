/-
  Layer 11, the document's net: where it lies; New, right, cut. Conditions: none.
-/
import Derived.Test.YtfhcfiebhagbeaaNetCnt
import Derived.Test.YtfhcfiebhagbeaaNetEq
namespace Go.Proofs.Ytfhcfiebhagbeaa.Net
set_option maxRecDepth 100000
open Go.RowKit Go.Deep Go.Proofs.Ytfhcfiebhagbeaa.Mem

/-- The document's net. -/
structure Rf where
  nodes : Int
  cs : List (Int × Int)
  fl : List Pk
def prV (c : Int × Int) : List Value := [.int .i64 c.1, .int .i64 c.2]
theorem fit_prs (l : List (Int × Int)) : Fit 2 (l.map prV) := ⟨fun v hv => by obtain ⟨x, _, rfl⟩ := List.mem_map.1 hv; rfl, fun v hv u hu => by
  obtain ⟨x, _, rfl⟩ := List.mem_map.1 hv
  unfold prV at hu
  simp only [List.mem_cons, List.not_mem_nil, or_false] at hu
  rcases hu with rfl | rfl <;> rfl⟩
theorem el_rpk : Elem 36 42 (.agg #[.int .i64 0, .int .i64 0, .string ⟨#[]⟩, .bool false]) 4 40 := ⟨Try.underlying36, by kernel_rfl, rfl, by decide, by decide⟩
theorem el_pr : Elem 49 76 (.agg #[.int .i64 0, .int .i64 0]) 2 16 := ⟨Try.underlying49, by kernel_rfl, rfl, by decide, by decide⟩
/-- The document's net is there: its struct lies in block rb, its packets at A, its pairs at C. -/
structure RefAt (B : Nat) (w : World) (rb : Nat) (R : Rf) (A : Option Addr) (ac : Nat) (C : Option Addr) (cc : Nat) : Prop where
  cel : Cells w rb 51 [.int .i64 R.nodes, .slice A R.fl.length ac, .slice C R.cs.length cc]
  rowL : w.ownsRow B 42 4 (.slice A R.fl.length ac) R.fl.length (R.fl.map Pk.vals).flatten
  rowC : w.ownsRow B 76 2 (.slice C R.cs.length cc) R.cs.length (R.cs.map prV).flatten
  low : B ≤ rb
  nA : blk A ≠ some rb
  nC : blk C ≠ some rb
  len : R.fl.length ≤ 256
  few : R.cs.length ≤ 1000
/-- The blocks of the document's net. -/
def rfoot (rb : Nat) (A C : Option Addr) (k : Nat) : Prop := k = rb ∨ some k = blk A ∨ some k = blk C
def RStep (B rb : Nat) (A C : Option Addr) (w : World) (R' : Rf) (w' : World) : Prop :=
  ∃ A' ac' C' cc', RefAt B w' rb R' A' ac' C' cc' ∧ Only (fun k => k = rb) w w' ∧ ∀ k, rfoot rb A' C' k → rfoot rb A C k ∨ w.heap.size ≤ k
section
variable {B rb ac cc : Nat} {w w1 w' : World} {R R' : Rf} {A C : Option Addr}
theorem RefAt.only {S : Nat → Prop} (h : RefAt B w rb R A ac C cc) (ho : Only S w w') (hn : ∀ k, rfoot rb A C k → ¬ S k) : RefAt B w' rb R A ac C cc :=
  ⟨cells_only h.cel ho (hn rb (Or.inl rfl)), row_only h.rowL ho fun k hk => hn k (Or.inr (Or.inl (by rw [own_blk] at hk; exact hk.symm))), row_only h.rowC ho fun k hk => hn k (Or.inr (Or.inr (by rw [own_blk] at hk; exact hk.symm))), h.low, h.nA, h.nC, h.len, h.few⟩
theorem RefAt.later (h : RefAt B w rb R A ac C cc) (hb : Below w.heap.size w w') : RefAt B w' rb R A ac C cc := h.only (Only.of_below (S := fun _ => False) hb) fun _ _ e => e
theorem RefAt.lt (h : RefAt B w rb R A ac C cc) {k : Nat} (hk : rfoot rb A C k) : B ≤ k ∧ k < w.heap.size := by
  rcases hk with rfl | e | e
  · exact ⟨h.low, h.cel.lt⟩
  · exact h.rowL.lt k (by rw [own_blk]; exact e.symm)
  · exact h.rowC.lt k (by rw [own_blk]; exact e.symm)
theorem RStep.same (h : RefAt B w rb R A ac C cc) (hb : Below w.heap.size w w') : RStep B rb A C w R w' := ⟨A, ac, C, cc, h.later hb, Only.of_below hb, fun _ e => Or.inl e⟩
theorem RStep.before (hb : Below w.heap.size w w1) (h : RStep B rb A C w1 R w') : RStep B rb A C w R w' := by
  obtain ⟨A', ac', C', cc', k1, k2, k3⟩ := h
  exact ⟨A', ac', C', cc', k1, (Only.of_below hb).trans k2 fun _ _ e => e, fun k e => (k3 k e).imp_right fun h => Nat.le_trans hb.size h⟩
theorem RStep.after (h : RStep B rb A C w R w1) (hb : Below w1.heap.size w1 w') : RStep B rb A C w R w' := by
  obtain ⟨A', ac', C', cc', k1, k2, k3⟩ := h
  exact ⟨A', ac', C', cc', k1.later hb, k2.trans (S' := fun _ => False) (Only.of_below hb) fun _ _ e => e.elim, k3⟩
theorem RStep.next {A1 C1 : Option Addr} (ho : Only (fun k => k = rb) w w1) (hg : ∀ k, rfoot rb A1 C1 k → rfoot rb A C k ∨ w.heap.size ≤ k) (h : RStep B rb A1 C1 w1 R' w') : RStep B rb A C w R' w' := by
  obtain ⟨A', ac', C', cc', k1, k2, k3⟩ := h
  refine ⟨A', ac', C', cc', k1, ho.trans k2 fun _ _ e => e, fun k e => ?_⟩
  rcases k3 k e with e | e
  · exact hg k e
  · exact Or.inr (Nat.le_trans ho.size e)
theorem RStep.below (h : RStep B rb A C w R' w') (hr : RefAt B w rb R A ac C cc) (hb : B ≤ w.heap.size) : Below B w w' := by
  obtain ⟨A', ac', C', cc', _, k2, _⟩ := h
  exact k2.below hb fun k e => by rw [e]; exact hr.low
/-- A new list of packets is put in. -/
theorem RefAt.newL (h : RefAt B w rb R A ac C cc) {v : Value} {fl : List Pk} (hB : B ≤ w.heap.size) (hb : Below w.heap.size w w1) (hr : w1.ownsRow w.heap.size 42 4 v fl.length (fl.map Pk.vals).flatten) (hl : fl.length ≤ 256) :
    RStep B rb A C w { R with fl := fl } (w1.setCell ⟨rb, 1, none⟩ v) := by
  obtain ⟨A', ac', rfl⟩ := row_slice hr
  have hrb := h.cel.lt
  have hA' : ∀ k, blk A' = some k → w.heap.size ≤ k := fun k e => (hr.lt k (by rw [own_blk]; exact e)).1
  have h1 := h.later hb
  refine ⟨A', ac', C, cc, ⟨h1.cel.set_ 1 _, own_up hB (row_only hr (Only.of_set w1 ⟨rb, 1, none⟩ _) fun k hk e => ?_), row_only h1.rowC (Only.of_set w1 ⟨rb, 1, none⟩ _) fun k hk e => ?_, h.low, fun e => ?_, h.nC, hl, h.few⟩, (Only.of_below hb).trans (Only.of_set w1 ⟨rb, 1, none⟩ _) fun _ _ e => e, fun k e => ?_⟩
  · rw [own_blk] at hk
    have := hA' k hk
    have e2 : k = rb := e
    omega
  · rw [own_blk] at hk
    have e2 : k = rb := e
    exact h.nC (by rw [hk, e2])
  · have := hA' rb e
    omega
  · rcases e with e | e | e
    · exact Or.inl (Or.inl e)
    · exact Or.inr (hA' k e.symm)
    · exact Or.inl (Or.inr (Or.inr e))
/-- New pairs are put in. -/
theorem RefAt.newC (h : RefAt B w rb R A ac C cc) {v : Value} {cs : List (Int × Int)} (hB : B ≤ w.heap.size) (hb : Below w.heap.size w w1) (hr : w1.ownsRow w.heap.size 76 2 v cs.length (cs.map prV).flatten) (hl : cs.length ≤ 1000) :
    RStep B rb A C w { R with cs := cs } (w1.setCell ⟨rb, 2, none⟩ v) := by
  obtain ⟨C', cc', rfl⟩ := row_slice hr
  have hrb := h.cel.lt
  have hC' : ∀ k, blk C' = some k → w.heap.size ≤ k := fun k e => (hr.lt k (by rw [own_blk]; exact e)).1
  have h1 := h.later hb
  refine ⟨A, ac, C', cc', ⟨h1.cel.set_ 2 _, row_only h1.rowL (Only.of_set w1 ⟨rb, 2, none⟩ _) fun k hk e => ?_, own_up hB (row_only hr (Only.of_set w1 ⟨rb, 2, none⟩ _) fun k hk e => ?_), h.low, h.nA, fun e => ?_, h.len, hl⟩, (Only.of_below hb).trans (Only.of_set w1 ⟨rb, 2, none⟩ _) fun _ _ e => e, fun k e => ?_⟩
  · rw [own_blk] at hk
    have e2 : k = rb := e
    exact h.nA (by rw [hk, e2])
  · rw [own_blk] at hk
    have := hC' k hk
    have e2 : k = rb := e
    omega
  · have := hC' rb e
    omega
  · rcases e with e | e | e
    · exact Or.inl (Or.inl e)
    · exact Or.inl (Or.inr (Or.inl e))
    · exact Or.inr (hC' k e.symm)
end
theorem RNew_any (n : Int) (w : World) (h1 : 1 ≤ n) (h2 : n ≤ 16) :
    Calls Try.prog 9 #[.int .i64 n] w fun e w' => ∃ rb, e = .returned (.pointer (some ⟨rb, 0, none⟩)) ∧ RefAt w.heap.size w' rb ⟨n, [], []⟩ none 0 none 0 ∧ Below w.heap.size w w' := by
  have e1 : decide (n < 1) = false := by simp; omega
  have e2 : decide (n > 16) = false := by simp; omega
  go_enter Try.func9, Try.ntmps9
  go_wp2_with fail
  go_returns
  exact ⟨w.heap.size, rfl, ⟨cells_new _ _ _ _ rfl, World.ownsRow_nil _ _ _ _, World.ownsRow_nil _ _ _ _, Nat.le_refl _, fun e => (by cases e), fun e => (by cases e), Nat.zero_le _, Nat.zero_le _⟩, below_alloc _ _⟩
theorem RNew_err (n : Int) (w : World) (h : n < 1 ∨ 16 < n) :
    Calls Try.prog 9 #[.int .i64 n] w fun e w' => e = .returned (.pointer none) ∧ w' = w := by
  by_cases h1 : n < 1
  · have e1 : decide (n < 1) = true := by simpa using h1
    go_enter Try.func9, Try.ntmps9
    go_wp2_with fail
    go_returns
    exact ⟨rfl, rfl⟩
  · have e1 : decide (n < 1) = false := by simpa using h1
    have e2 : decide (n > 16) = true := by simp; omega
    go_enter Try.func9, Try.ntmps9
    go_wp2_with fail
    go_returns
    exact ⟨rfl, rfl⟩
theorem right_any (a b n : Int) (rb : Nat) (w : World) (c0 : w.cell? ⟨rb, 0, none⟩ = some (.int .i64 n)) :
    Calls Try.prog 29 #[.pointer (some ⟨rb, 0, none⟩), .int .i64 a, .int .i64 b] w fun e w' => e = .returned (.bool (betw n a b)) ∧ w' = w := by
  have HB : Hid (betw n a b = (!decide (a = b) && (decide (a > 0) && (decide (b > 0) && (decide (a ≤ n) && decide (b ≤ n)))))) := Lib.hid (by
    unfold betw
    by_cases h1 : a = b <;> by_cases h2 : a > 0 <;> by_cases h3 : b > 0 <;> by_cases h4 : a ≤ n <;> by_cases h5 : b ≤ n <;> simp [h1, h2, h3, h4, h5] <;> omega)
  obtain ⟨x1, e1⟩ : ∃ x, decide (a = b) = x := ⟨_, rfl⟩
  obtain ⟨x2, e2⟩ : ∃ x, decide (a > 0) = x := ⟨_, rfl⟩
  obtain ⟨x3, e3⟩ : ∃ x, decide (b > 0) = x := ⟨_, rfl⟩
  obtain ⟨x4, e4⟩ : ∃ x, decide (a ≤ n) = x := ⟨_, rfl⟩
  obtain ⟨x5, e5⟩ : ∃ x, decide (b ≤ n) = x := ⟨_, rfl⟩
  rw [e1, e2, e3, e4, e5] at HB
  obtain ⟨ans, hans⟩ : ∃ x, betw n a b = x := ⟨_, rfl⟩
  rw [hans] at HB ⊢
  clear hans
  cases x1
  · have e0 : (a != b) = true := by simpa using e1
    cases x2
    · go_enter Try.func29, Try.ntmps29
      go_wp2_with fail
      go_returns
      exact ⟨ret_bool HB.out, rfl⟩
    · cases x3
      · go_enter Try.func29, Try.ntmps29
        go_wp2_with fail
        go_returns
        exact ⟨ret_bool HB.out, rfl⟩
      · cases x4
        · go_enter Try.func29, Try.ntmps29
          go_wp2_with fail
          go_returns
          exact ⟨ret_bool HB.out, rfl⟩
        · cases x5
          · go_enter Try.func29, Try.ntmps29
            go_wp2_with fail
            go_returns
            exact ⟨ret_bool HB.out, rfl⟩
          · go_enter Try.func29, Try.ntmps29
            go_wp2_with fail
            go_returns
            exact ⟨ret_bool HB.out, rfl⟩
  · have e0 : (a != b) = false := by simpa using e1
    go_enter Try.func29, Try.ntmps29
    go_wp2_with fail
    go_returns
    exact ⟨ret_bool HB.out, rfl⟩
end Go.Proofs.Ytfhcfiebhagbeaa.Net
