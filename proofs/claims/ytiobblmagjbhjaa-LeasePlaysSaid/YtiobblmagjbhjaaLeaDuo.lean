/-
  Layer 18: the code's table and the document's in one memory. Conditions: none.
-/
import Derived.Test.YtiobblmagjbhjaaLeaRD
namespace Go.Proofs.Ytiobblmagjbhjaa.Lea
set_option maxRecDepth 100000
open Go.RowKit Go.Deep Go.Proofs.Ytiobblmagjbhjaa.Mem

theorem may_one (T : List Sv) (who : Lt) (l : List Int) : mayT T who l = l.all fun c => decide (oneE T who c = 0) := by
  unfold mayT hasT mayL oneE
  induction l with
  | nil => rfl
  | cons c l ih =>
    rw [List.all_cons, List.all_cons, List.all_cons, ← ih]
    cases inT T.length c <;> cases mayS who (ofT T c) <;> simp
theorem doc_new (n i : Nat) : docF i (List.replicate n sv0) = [] := by
  induction n generalizing i with
  | zero => rfl
  | succ n ih =>
    rw [List.replicate_succ]
    show one i sv0 ++ docF (i + 1) _ = []
    rw [ih]
    rfl
/-- The same table on both sides, apart. -/
structure Both (base : Nat) (w : World) (tb g rb : Nat) (A : Option Addr) (ac : Nat) (T : List Sv) : Prop where
  code : Tb base w tb g T
  doc : LrAt base w rb (docR T) A ac
  far : ∀ k, lfoot rb A k → k ≠ g ∧ k ≠ tb
/-- What both write. -/
def wset (g rb : Nat) (A : Option Addr) (k : Nat) : Prop := k = g ∨ lfoot rb A k
/-- While both sides are at work, in whatever order: di, dj: the code's call, the document's is done. -/
structure Mid (base : Nat) (we W : World) (tb g rb : Nat) (A : Option Addr) (ac : Nat) (T T1 : List Sv) (di dj : Bool) : Prop where
  only : Only (wset g rb A) we W
  code : Tb base W tb g (cond di T1 T)
  doc0 : dj = false → LrAt base W rb (docR T) A ac
  doc1 : dj = true → ∃ A' ac', LrAt base W rb (docR T1) A' ac' ∧ ∀ k, some k = blk A' → some k = blk A ∨ we.heap.size ≤ k
section
variable {base tb g rb ac : Nat} {we w w' W : World} {A : Option Addr} {T T1 : List Sv} {di dj : Bool}
theorem Both.later (h : Both base w tb g rb A ac T) (hb : Below w.heap.size w w') : Both base w' tb g rb A ac T := ⟨h.code.later hb, h.doc.later hb, h.far⟩
theorem Both.lt (h : Both base w tb g rb A ac T) {k : Nat} (e : wset g rb A k) : base ≤ k ∧ k < w.heap.size := by
  rcases e with e | e
  · rw [e]; exact h.code.glt
  · exact h.doc.lt e
theorem Both.mid (h : Both base we tb g rb A ac T) (hb : Below we.heap.size we W) (T1 : List Sv) : Mid base we W tb g rb A ac T T1 false false :=
  ⟨Only.of_below hb, h.code.later hb, fun _ => h.doc.later hb, fun e => by cases e⟩
theorem Mid.later (h : Mid base we W tb g rb A ac T T1 di dj) (hb : Below W.heap.size W w') : Mid base we w' tb g rb A ac T T1 di dj :=
  ⟨h.only.trans (S' := fun _ => False) (Only.of_below hb) fun _ _ e => e.elim, h.code.later hb, fun e => (h.doc0 e).later hb, fun e => by
    obtain ⟨A', ac', h1, h2⟩ := h.doc1 e
    exact ⟨A', ac', h1.later hb, h2⟩⟩
theorem Mid.callC (h0 : Both base we tb g rb A ac T) (h : Mid base we W tb g rb A ac T T1 false dj) {f : Nat} {args : Array Value} {Q : Ending → World → Prop} (hc : Tb base W tb g T → Calls Try.prog f args W fun e w' => Q e w' ∧ Tb base w' tb g T1 ∧ Only (fun k => k = g) W w') :
    Calls Try.prog f args W fun e w' => Q e w' ∧ Mid base we w' tb g rb A ac T T1 true dj ∧ Only (fun k => k = g) W w' := by
  refine (hc h.code).mono ?_
  rintro e w' ⟨hq, ht, ho⟩
  have hgl := h0.code.glt.2
  refine ⟨hq, ⟨h.only.trans ho fun k _ e => Or.inl e, ht, fun e => (h.doc0 e).only ho (fun e2 => (h0.far rb (Or.inl rfl)).1 e2) fun k hk e2 => (h0.far k (Or.inr (by rw [own_blk] at hk; exact hk.symm))).1 e2, fun e => ?_⟩, ho⟩
  obtain ⟨A', ac', h1, h2⟩ := h.doc1 e
  refine ⟨A', ac', h1.only ho (fun e2 => (h0.far rb (Or.inl rfl)).1 e2) fun k hk e2 => ?_, h2⟩
  rw [own_blk] at hk
  rcases h2 k hk.symm with e3 | e3
  · exact (h0.far k (Or.inr e3)).1 e2
  · have e2 : k = g := e2
    omega
theorem Mid.callR (h0 : Both base we tb g rb A ac T) (h : Mid base we W tb g rb A ac T T1 di false) {f : Nat} {args : Array Value} {Q : Ending → World → Prop} (hc : LrAt base W rb (docR T) A ac → Calls Try.prog f args W fun e w' => Q e w' ∧ LrStep base rb A W (docR T1) w') :
    Calls Try.prog f args W fun e w' => Q e w' ∧ Mid base we w' tb g rb A ac T T1 di true ∧ Only (lfoot rb A) W w' := by
  refine (hc (h.doc0 rfl)).mono ?_
  rintro e w' ⟨hq, A', ac', h1, ho, h2⟩
  refine ⟨hq, ⟨h.only.trans ho fun k _ e => Or.inr e, h.code.only ho (fun e2 => (h0.far tb e2).2 rfl) fun e2 => (h0.far g e2).1 rfl, fun e => (by cases e), fun _ => ⟨A', ac', h1, fun k e => ?_⟩⟩, ho⟩
  rcases h2 k e with e3 | e3
  · exact Or.inl e3
  · exact Or.inr (Nat.le_trans h.only.size e3)
theorem Mid.both (h0 : Both base we tb g rb A ac T) (h : Mid base we W tb g rb A ac T T1 true true) : ∃ A' ac', Both base W tb g rb A' ac' T1 := by
  obtain ⟨A', ac', h1, h2⟩ := h.doc1 rfl
  refine ⟨A', ac', h.code, h1, fun k e => ?_⟩
  rcases e with e | e
  · exact h0.far k (Or.inl e)
  · rcases h2 k e with e3 | e3
    · exact h0.far k (Or.inr e3)
    · have := h0.code.glt.2
      have := h0.code.box.lt
      exact ⟨by omega, by omega⟩
theorem Mid.below (h0 : Both base we tb g rb A ac T) (h : Mid base we W tb g rb A ac T T1 di dj) (hB : base ≤ we.heap.size) : Below base we W ∧ base ≤ W.heap.size :=
  ⟨h.only.below hB fun _ e => (h0.lt e).1, Nat.le_trans hB h.only.size⟩
/-- What a call of the region made stays. -/
theorem row_mid {S : Nat → Prop} {v : Value} {l : List Int} (hr : OwnI we.heap.size W v l) (ho : Only S W w') (hS : ∀ k, S k → k < we.heap.size) : OwnI we.heap.size w' v l :=
  hr.only ho fun k e e2 => by
    have := (hr.lt e).1
    have := hS k e2
    omega
end
end Go.Proofs.Ytiobblmagjbhjaa.Lea
