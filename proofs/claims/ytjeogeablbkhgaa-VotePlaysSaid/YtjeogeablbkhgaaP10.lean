/-
  A statement whose order Go leaves open, in which one operation h alone turns memory that was there: all that stand ahead of it in the text come ahead of it, all behind it behind it. Ahead of it L is known of memory, behind it Post. Conditions: none of its own.
  Conditions: none.
-/
import Derived.Test.YtjeogeablbkhgaaP9
namespace Go.Proofs.Ytjeogeablbkhgaa.Reg
open Go.RowKit
section
variable {P : Program} {ops : Array Oper} {Q : Exit → Act → World → Prop}
/-- Does operation i wait for operation j? -/
def waitsAt (ops : Array Oper) (i j : Nat) : Bool := match ops[i]? with | some o => waits o j | none => false
/-- All operations ahead of h come ahead of it, all behind it behind it. -/
def heavyB (ops : Array Oper) (h : Nat) : Bool :=
 decide (h < ops.size) && ((List.range h).all fun j => (List.range (h + 1)).any fun k => decide (j < k) && waitsAt ops k j) &&
 ((List.range ops.size).all fun i => decide (i ≤ h) || (List.range i).any fun k => decide (h ≤ k) && waitsAt ops i k)
/-- What is done is done with all that it waited for. -/
def Closed (ops : Array Oper) (D : Nat → Bool) : Prop := ∀ k, k < ops.size → D k = true → ∀ j, waitsAt ops k j = true → D j = true
theorem heavy_down {h : Nat} (hh : heavyB ops h = true) {D : Nat → Bool} (hc : Closed ops D) (hD : D h = true) : ∀ n j, j ≤ h → h - j ≤ n → D j = true := by
 simp only [heavyB, Bool.and_eq_true, decide_eq_true_eq] at hh
 intro n
 induction n with
 | zero =>
  intro j hj hn
  obtain rfl : j = h := by omega
  exact hD
 | succ n ih =>
  intro j hj hn
  by_cases e : j = h
  ·subst e; exact hD
  ·have h1 := List.all_eq_true.1 hh.1.2 j (List.mem_range.2 (by omega))
   obtain ⟨k, hk, hk2⟩ := List.any_eq_true.1 h1
   simp only [Bool.and_eq_true, decide_eq_true_eq] at hk2
   have hkl := List.mem_range.1 hk
   exact hc k (by omega) (ih k (by omega) (by omega)) j hk2.2
theorem heavy_up {h : Nat} (hh : heavyB ops h = true) {D : Nat → Bool} (hc : Closed ops D) : ∀ n i, i ≤ n → h ≤ i → i < ops.size → D i = true → D h = true := by
 simp only [heavyB, Bool.and_eq_true, decide_eq_true_eq] at hh
 intro n
 induction n with
 | zero =>
  intro i hi hle _ hD
  obtain rfl : i = h := by omega
  exact hD
 | succ n ih =>
  intro i hi hle hlt hD
  by_cases e : i = h
  ·subst e; exact hD
  ·have h1 := List.all_eq_true.1 hh.2 i (List.mem_range.2 hlt)
   simp only [Bool.or_eq_true, decide_eq_true_eq] at h1
   rcases h1 with h1 | h1
   ·omega
   ·obtain ⟨k, hk, hk2⟩ := List.any_eq_true.1 h1
    simp only [Bool.and_eq_true, decide_eq_true_eq] at hk2
    have hkl := List.mem_range.1 hk
    exact ih k (by omega) hk2.1 (by omega) (hc i hlt hD k hk2.2)
/-- What is owed for a value. -/
structure OwedH (ops : Array Oper) (ends : List Nat) (Good : Nat → Value → World → Prop) (h : Nat) (L Post : World → Prop) (i : Nat) (w : World) (v : Value) (w' : World) : Prop where
 good : Good i v w'
 state : cond (Nat.blt i h) (L w') (Post w')
 keep : ∀ j u, j < ops.size → alive ops ends i j = true → Good j u w → Good j u w'
theorem OwedH.same {ends : List Nat} {Good : Nat → Value → World → Prop} {h : Nat} {L Post : World → Prop} {i : Nat} {w : World} {v : Value} (hs : cond (Nat.blt i h) (L w) (Post w)) (hg : Good i v w) : OwedH ops ends Good h L Post i w v w := ⟨hg, hs, fun _ _ _ _ h => h⟩
theorem gw {ρ : Operand → Value} {o : Oper} {ends : List Nat} {Good : Nat → Value → World → Prop} {h : Nat} {L Post : World → Prop} {i : Nat} {w : World} {v : Value} (hs : cond (Nat.blt i h) (L w) (Post w)) (hg : Good i v w := by exact rfl) (he : (execOp ρ o).run P w = .ok (.value v) w := by go_simp) : Gives P ρ o w (OwedH ops ends Good h L Post i w) := Gives.value he (OwedH.same hs hg)
/-- A guarded operation that isn't done. -/
theorem no {ρ : Operand → Value} {o : Oper} {ends : List Nat} {Good : Nat → Value → World → Prop} {h : Nat} {L Post : World → Prop} {i g : Nat} {b : Bool} {w : World} (hs : cond (Nat.blt i h) (L w) (Post w)) (hc : ∀ u, Good g u w → u ≠ .bool b := by intro u h1 h2; have h3 := Eq.trans (Eq.symm h1) h2; cases h3) (hg : Good i undef w := by exact rfl) :
  ∀ u, Good g u w → (u = .bool b → Gives P ρ o w (OwedH ops ends Good h L Post i w)) ∧ (u ≠ .bool b → Good i undef w ∧ cond (Nat.blt i h) (L w) (Post w)) := fun u hu => ⟨fun e => absurd e (hc u hu), fun _ => ⟨hg, hs⟩⟩
/-- A guarded operation that is done. -/
theorem yes {ρ : Operand → Value} {o : Oper} {ends : List Nat} {Good : Nat → Value → World → Prop} {h : Nat} {L Post : World → Prop} {i g : Nat} {b : Bool} {w : World} (hv : Gives P ρ o w (OwedH ops ends Good h L Post i w)) (hc : ∀ u, Good g u w → u = .bool b := by exact fun _ h => h) :
  ∀ u, Good g u w → (u = .bool b → Gives P ρ o w (OwedH ops ends Good h L Post i w)) ∧ (u ≠ .bool b → Good i undef w ∧ cond (Nat.blt i h) (L w) (Post w)) := fun u hu => ⟨fun _ => hv, fun e => absurd (hc u hu) e⟩
/-- What is owed for operation i. -/
def StepH (P : Program) (ops : Array Oper) (a0 : Act) (ends : List Nat) (Good : Nat → Value → World → Prop) (h : Nat) (L Post : World → Prop) (i : Nat) (o : Oper) : Prop :=
 ∀ (ρ : Operand → Value) (w : World), Env ρ → cond (Nat.ble i h) (L w) (Post w) → (∀ s, ∀ (_ : unwritten ops i s = true := by kernel_rfl), ρ (.tmp s) = a0.eval (.tmp s)) →
  (∀ j d, ∀ (_ : uses o j = true := by kernel_rfl) (_ : slot ops j = some d := by kernel_rfl) (_ : d < a0.tmps.size := by exact of_decide_eq_true (by kernel_rfl)), ∃ v, Good j v w ∧ ρ (.tmp d) = v) →
  match o.guard with
  | none => Gives P ρ o w (OwedH ops ends Good h L Post i w)
  | some (g, b) => ∀ u, Good g u w → (u = .bool b → Gives P ρ o w (OwedH ops ends Good h L Post i w)) ∧ (u ≠ .bool b → Good i undef w ∧ cond (Nat.blt i h) (L w) (Post w))
/-- The frame with these slots written. -/
def putsO (a : Act) (ps : List (Option Tmp × Value)) : Act := ps.foldl (fun a p => a.put p.1 p.2) a
theorem putS_listO (a0 : Act) (V : Nat → Value) (ps : List (Option Tmp × Value)) (h : (List.range ops.size).map (fun i => ((ops[i]?).bind (·.dst), V i)) = ps) :
  putS a0 ops (fun _ => true) V (List.range ops.size) = putsO a0 ps := by
 have e1 : ∀ (l : List Nat) (a : Act), putS a ops (fun _ => true) V l = (l.map fun i => ((ops[i]?).bind (·.dst), V i)).foldl (fun a p => a.put p.1 p.2) a := by
  intro l
  induction l with
  | nil => intro _; rfl
  | cons i l ih =>
   intro a
   show putS (put1 ops _ _ a i) ops _ _ l = _
   rw [ih]
   rfl
 rw [e1, h]
 rfl
/-- THE RULE. -/
theorem region_heavy {id : Nat} {a0 : Act} {w : World} (hm : P.follows .mixedOrders = true) (h : Nat) (ends : List Nat) (Good : Nat → Value → World → Prop) (L Post : World → Prop) (ps : (Nat → Value) → List (Option Tmp × Value))
  (hw : wellB ops = true) (hg : guardsB ops a0.tmps.size = true) (hh : heavyB ops h = true)
  (hps : ∀ V, (List.range ops.size).map (fun i => ((ops[i]?).bind (·.dst), V i)) = ps V)
  (hinit : L w.drew)
  (hstep : ∀ i o, ops[i]? = some o → StepH P ops a0 ends Good h L Post i o)
  (hend : ∀ (V : Nat → Value) (w' : World), (∀ i, i < ops.size → ends.contains i = true → Good i (V i) w') → Post w' → Q .normal (putsO a0 (ps V)) w') :
  (Code.region id ops true).wp P Q a0 w := by
 have hlt : h < ops.size := by
  have h1 := hh
  simp only [heavyB, Bool.and_eq_true, decide_eq_true_eq] at h1
  exact h1.1.1
 refine region_done hm ends Good (fun D w' => Closed ops D ∧ cond (D h) (Post w') (L w')) hw hg ?_ ?_ ?_
 ·refine ⟨fun k hk hD => ?_, ?_⟩
  ·simp [hk] at hD
  ·simp only [hlt, decide_true, Bool.not_true, cond_false]
   exact hinit
 ·intro i o ho D ρ wi hE hI hDi hDw hs hd
  obtain ⟨hc, hI⟩ := hI
  have hi : i < ops.size := (Array.getElem?_eq_some_iff.1 ho).1
  have hwat : ∀ j, waitsAt ops i j = waits o j := fun j => by unfold waitsAt; rw [ho]
  have hc' : Closed ops (upd D i) := by
   intro k hk hD j hj
   unfold upd at hD ⊢
   by_cases e : k = i
   ·subst e
    rw [hwat] at hj
    rw [hDw j hj, Bool.or_true]
   ·have hDk : D k = true := by simpa [e] using hD
    rw [hc k hk hDk j hj, Bool.or_true]
  have hpre : cond (Nat.ble i h) (L wi) (Post wi) := by
   rcases Nat.lt_or_ge h i with hlt' | hge
   ·have e : Nat.ble i h = false := by
     rcases Bool.eq_false_or_eq_true (Nat.ble i h) with e | e
     ·have := Nat.le_of_ble_eq_true e; omega
     ·exact e
    have h1 := hh
    simp only [heavyB, Bool.and_eq_true] at h1
    have h2 := List.all_eq_true.1 h1.2 i (List.mem_range.2 hi)
    simp only [Bool.or_eq_true, decide_eq_true_eq] at h2
    rcases h2 with h2 | h2
    ·omega
    ·obtain ⟨k, hk, hk2⟩ := List.any_eq_true.1 h2
     simp only [Bool.and_eq_true, decide_eq_true_eq] at hk2
     have hkl := List.mem_range.1 hk
     rw [hwat] at hk2
     have hDh := heavy_up hh hc k k (Nat.le_refl _) hk2.1 (by omega) (hDw k hk2.2)
     rw [hDh, cond_true] at hI
     rw [e, cond_false]
     exact hI
   ·have e : Nat.ble i h = true := Nat.ble_eq_true_of_le hge
    have hDh : D h = false := by
     rcases Bool.eq_false_or_eq_true (D h) with hD | hD
     ·rw [heavy_down hh hc hD h i hge (by omega)] at hDi
      cases hDi
     ·exact hD
    rw [hDh, cond_false] at hI
    rw [e, cond_true]
    exact hI
  have hpost : ∀ w', cond (Nat.blt i h) (L w') (Post w') → cond (upd D i h) (Post w') (L w') := by
   intro w' hst
   rcases Nat.lt_or_ge i h with h1 | h1
   ·have e : Nat.blt i h = true := Nat.ble_eq_true_of_le h1
    have hDh : D h = false := by
     rcases Bool.eq_false_or_eq_true (D h) with hD | hD
     ·rw [heavy_down hh hc hD h i (by omega) (by omega)] at hDi
      cases hDi
     ·exact hD
    have e2 : upd D i h = false := by
     unfold upd
     rw [hDh, Bool.or_false]
     exact beq_eq_false_iff_ne.2 (by omega)
    rw [e, cond_true] at hst
    rw [e2, cond_false]
    exact hst
   ·have e : Nat.blt i h = false := by
     rcases Bool.eq_false_or_eq_true (Nat.blt i h) with e | e
     ·have := Nat.le_of_ble_eq_true e; omega
     ·exact e
    have e2 : upd D i h = true := by
     unfold upd
     by_cases e3 : h = i
     ·subst e3; simp
     ·rcases Bool.eq_false_or_eq_true (D h) with hD | hD
      ·rw [hD, Bool.or_true]
      ·exfalso
       have h1' := hh
       simp only [heavyB, Bool.and_eq_true] at h1'
       have h2 := List.all_eq_true.1 h1'.2 i (List.mem_range.2 hi)
       simp only [Bool.or_eq_true, decide_eq_true_eq] at h2
       rcases h2 with h2 | h2
       ·omega
       ·obtain ⟨k, hk, hk2⟩ := List.any_eq_true.1 h2
        simp only [Bool.and_eq_true, decide_eq_true_eq] at hk2
        have hkl := List.mem_range.1 hk
        rw [hwat] at hk2
        rw [heavy_up hh hc k k (Nat.le_refl _) hk2.1 (by omega) (hDw k hk2.2)] at hD
        cases hD
    rw [e, cond_false] at hst
    rw [e2, cond_true]
    exact hst
  have hst := hstep i o ho ρ wi hE hpre hs hd
  have conv : ∀ v w', OwedH ops ends Good h L Post i wi v w' → Owed ops ends Good (fun D w' => Closed ops D ∧ cond (D h) (Post w') (L w')) D i wi v w' := fun v w' hx => ⟨hx.good, ⟨hc', hpost w' hx.state⟩, hx.keep⟩
  cases hgd : o.guard with
  | none =>
   rw [hgd] at hst
   exact Gives.mono hst conv
  | some gb =>
   obtain ⟨g, b⟩ := gb
   rw [hgd] at hst
   intro u hu
   obtain ⟨h1, h2⟩ := hst u hu
   exact ⟨fun e => Gives.mono (h1 e) conv, fun e => ⟨(h2 e).1, hc', hpost _ (h2 e).2⟩⟩
 ·intro V w' hV hI
  rw [putS_listO a0 V (ps V) (hps V)]
  refine hend V w' hV ?_
  have h2 := hI.2
  rw [cond_true] at h2
  exact h2
end
end Go.Proofs.Ytjeogeablbkhgaa.Reg
