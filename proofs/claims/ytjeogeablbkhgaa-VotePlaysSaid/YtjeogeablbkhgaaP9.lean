/-
  A statement whose order Go leaves open, as XReg has it, but what is known of memory may hang on which of its operations are done: for statements in which two calls write, each its own. Conditions: none of its own.
  Conditions: none.
-/
import Derived.Test.YtjeogeablbkhgaaP8
namespace Go.Proofs.Ytjeogeablbkhgaa.Reg
open Go.RowKit
/-- Operation i is done too. -/
def upd (D : Nat → Bool) (i : Nat) : Nat → Bool := fun k => k == i || D k
section
variable {P : Program} {ops : Array Oper} {Q : Exit → Act → World → Prop}
def StepD (P : Program) (ops : Array Oper) (Q : Exit → Act → World → Prop) (a0 : Act) (ends : List Nat) (Good : Nat → Value → World → Prop) (I : (Nat → Bool) → World → Prop) (i : Nat) (o : Oper) : Prop :=
 ∀ (D : Nat → Bool) (a : Act) (w : World), I D w → D i = false → (∀ j, waits o j = true → D j = true) → (∀ s, unwritten ops i s = true → a.eval (.tmp s) = a0.eval (.tmp s)) →
  (∀ j x d, uses o j = true → ops[j]? = some x → x.dst = some d → d < a0.tmps.size → ∃ v, Good j v w ∧ a.tmps[d]? = some v ∧ a.eval (.tmp d) = v) →
  (Region.wanted o (yielded ops a.tmps) = true → o.wp P a w (fun a' w' => ∃ v, a' = a.put o.dst v ∧ Good i v w' ∧ I (upd D i) w' ∧ ∀ j u, j < ops.size → alive ops ends i j = true → Good j u w → Good j u w') Q) ∧ (Region.wanted o (yielded ops a.tmps) = false → Good i undef w ∧ I (upd D i) w)
theorem any_done {a0 : Act} {ends : List Nat} {Good : Nat → Value → World → Prop} {I : (Nat → Bool) → World → Prop} (hw : wellB ops = true)
  (hstep : ∀ i o, ops[i]? = some o → StepD P ops Q a0 ends Good I i o)
  (hend : ∀ (V : Nat → Value) (w : World), (∀ i, i < ops.size → ends.contains i = true → Good i (V i) w) → I (fun _ => true) w → Q .normal (putS a0 ops (fun _ => true) V (List.range ops.size)) w) :
  ∀ (fuel : Nat) (listed : Array Bool) (a : Act) (w : World), listed.size = ops.size → (List.range ops.size).countP (fun i => !listed.getD i true) ≤ fuel →
   (∀ i o, ops[i]? = some o → listed.getD i true = true → ∀ j, waits o j = true → listed.getD j true = true) →
   (∃ V : Nat → Value, a = putS a0 ops (fun i => listed.getD i true) V (List.range ops.size) ∧ ∀ i, i < ops.size → listed.getD i true = true → Live ops ends listed i → Good i (V i) w) → I (fun i => listed.getD i true) w →
   wpAny P .any ops Q fuel listed a w := by
 intro fuel
 have finish : ∀ (listed : Array Bool) (a : Act) (w : World), listed.size = ops.size → Region.ready .any ops listed = [] →
   (∃ V : Nat → Value, a = putS a0 ops (fun i => listed.getD i true) V (List.range ops.size) ∧ ∀ i, i < ops.size → listed.getD i true = true → Live ops ends listed i → Good i (V i) w) → I (fun i => listed.getD i true) w → Q .normal a w := by
  intro listed a w hs hr hV hL
  obtain ⟨V, rfl, hG⟩ := hV
  have hall := ready_all hw hr hs
  have e : putS a0 ops (fun i => listed.getD i true) V (List.range ops.size) = putS a0 ops (fun _ => true) V (List.range ops.size) :=
   putS_congr _ _ fun i hi => ⟨hall i (List.mem_range.1 hi), rfl⟩
  rw [e]
  have eD : (fun i => listed.getD i true) = fun _ => true := by
   funext i
   by_cases hi : i < ops.size
   ·exact hall i hi
   ·rw [Array.getD_eq_getD_getElem?, Array.getElem?_eq_none (by omega)]; rfl
  rw [eD] at hL
  exact hend V w (fun i hi he => hG i hi (hall i hi) (Or.inl he)) hL
 induction fuel with
 | zero =>
  intro listed a w hs hc _ hV hL
  have hr : Region.ready .any ops listed = [] := by
   have h0 := List.countP_eq_zero.1 (Nat.le_zero.1 hc)
   unfold Region.ready
   refine List.filter_eq_nil_iff.2 fun i hi => ?_
   have := h0 i hi
   intro h
   rw [Bool.and_eq_true] at h
   exact this h.1
  exact ⟨hr, finish listed a w hs hr hV hL⟩
 | succ fuel ih =>
  intro listed a w hs hc hclosed hV hL
  refine ⟨fun hr => finish listed a w hs hr hV hL, fun i hi => ?_⟩
  obtain ⟨V, ha, hG⟩ := hV
  have hi' := List.mem_filter.1 hi
  have hlt : i < ops.size := List.mem_range.1 hi'.1
  have ho : ops[i]? = some ops[i] := Array.getElem?_eq_getElem hlt
  have hready := hi'.2
  rw [ho] at hready
  simp only [Option.map_some, Option.getD_some, Bool.and_eq_true, Bool.not_eq_true'] at hready
  obtain ⟨hun, haft⟩ := hready
  have hdeps : ∀ j, waits ops[i] j = true → listed.getD j true = true := by
   intro j hj
   obtain ⟨e, he, hb⟩ := Array.any_eq_true'.1 hj
   simp only [Bool.and_eq_true, beq_iff_eq] at hb
   have h1 := Array.all_eq_true'.1 haft e he
   rw [hb.1, hb.2] at h1
   simp only [Bool.not_true, Bool.false_or] at h1
   simp only [Array.getD_eq_getD_getElem?] at h1 ⊢
   cases hx : listed[j]? with
   | none => rfl
   | some b => rw [hx] at h1; exact h1
  have hst := hstep i _ ho (fun i => listed.getD i true) a w hL hun hdeps
   (fun s hs' => by
    have hold := putS_old (ops := ops) a0 (fun i => listed.getD i true) V s (List.range ops.size) fun k hk o hok hod => by
     have hk' := List.all_eq_true.1 hs' k hk
     rw [hok] at hk'
     simp only [hod, bne_self_eq_false, Bool.false_or] at hk'
     rcases Bool.eq_false_or_eq_true (listed.getD k true) with h | h
     ·have := hclosed k o hok h i hk'
      rw [this] at hun
      cases hun
     ·exact h
    rw [ha]
    show (putS a0 ops _ V _).tmps.getD s undef = a0.tmps.getD s undef
    rw [Array.getD_eq_getD_getElem?, Array.getD_eq_getD_getElem?, hold])
   (fun j x d hj hx hd hsz => by
    have hjlt : j < ops.size := (Array.getElem?_eq_some_iff.1 hx).1
    have hjl := hdeps j (uses_waits hj)
    have := putS_at hw a0 (fun i => listed.getD i true) V j x d hx hd hjl hsz (List.range ops.size) List.nodup_range (List.mem_range.2 hjlt)
    rw [← ha] at this
    exact ⟨V j, hG j hjlt hjl (Or.inr ⟨i, _, ho, hj, hun⟩), this, by show a.tmps.getD d undef = V j; rw [Array.getD_eq_getD_getElem?, this]; rfl⟩)
  have hnext : ∀ (v : Value) (w' : World), Good i v w' → I (upd (fun i => listed.getD i true) i) w' → (∀ j u, j < ops.size → alive ops ends i j = true → Good j u w → Good j u w') → wpAny P .any ops Q fuel (listed.setIfInBounds i true) (a.put ops[i].dst v) w' := by
   intro v w' hg hLw hkeep
   have hset : ∀ k, (listed.setIfInBounds i true).getD k true = (k == i || listed.getD k true) := by
    intro k
    simp only [Array.getD_eq_getD_getElem?, Array.getElem?_setIfInBounds]
    by_cases e : i = k
    ·subst e
     by_cases h2 : i < listed.size
     ·simp [h2]
     ·simp [h2]
    ·have e' : ¬ k = i := fun h => e h.symm
     simp [e, e']
   refine ih _ _ w' (by simpa using hs) ?_ ?_ ?_ ((funext hset : (fun k => (listed.setIfInBounds i true).getD k true) = upd (fun i => listed.getD i true) i) ▸ hLw)
   ·have hlow : (List.range ops.size).countP (fun k => !(listed.setIfInBounds i true).getD k true) < (List.range ops.size).countP (fun k => !listed.getD k true) := by
     refine countP_lt ?_ (List.mem_range.2 hlt) (by rw [hset]; simp) (by rw [hun]; rfl)
     intro k _ hk
     rw [hset] at hk
     simp only [Bool.not_eq_true', Bool.or_eq_false_iff] at hk
     rw [hk.2]; rfl
    omega
   ·intro k o hk hkl j hj
    rw [hset] at hkl ⊢
    by_cases e : k = i
    ·subst e
     rw [ho] at hk
     injection hk with hk
     subst hk
     rw [hdeps j hj]; simp
    ·have hkl' : listed.getD k true = true := by simpa [e] using hkl
     rw [hclosed k o hk hkl' j hj]; simp
   ·refine ⟨fun k => if k = i then v else V k, ?_, ?_⟩
    ·have h := putS_more hw a0 (fun k => listed.getD k true) V i v hun (List.range ops.size) List.nodup_range (List.mem_range.2 hlt)
     rw [ha]
     have e : ((ops[i]?).bind (·.dst)) = ops[i].dst := by rw [ho]; rfl
     rw [e] at h
     rw [h]
     exact putS_congr _ _ fun k _ => ⟨(hset k).symm, rfl⟩
    ·intro k hk hkl hlive
     by_cases e : k = i
     ·subst e; simpa using hg
     ·have ev : (fun k => if k = i then v else V k) k = V k := if_neg e
      rw [ev]
      rw [hset] at hkl
      have hkl' : listed.getD k true = true := by simpa [e] using hkl
      have hok : ops[k]? = some ops[k] := Array.getElem?_eq_getElem hk
      have hnk : waits ops[k] i = false := by
       rcases Bool.eq_false_or_eq_true (waits ops[k] i) with h | h
       ·have := hclosed k _ hok hkl' i h
        rw [hun] at this
        cases this
       ·exact h
      rcases hlive with hends | ⟨m, o, hm, hu, hml⟩
      ·exact hkeep k _ hk (by unfold alive; rw [hok, hends]; simp [e, hnk]) (hG k hk hkl' (Or.inl hends))
      ·rw [hset, Bool.or_eq_false_iff] at hml
       have hmi : m ≠ i := by simpa using hml.1
       refine hkeep k _ hk ?_ (hG k hk hkl' (Or.inr ⟨m, o, hm, hu, hml.2⟩))
       have hmlt : m < ops.size := (Array.getElem?_eq_some_iff.1 hm).1
       have hnw : waits ops[i] m = false := by
        rcases Bool.eq_false_or_eq_true (waits ops[i] m) with h | h
        ·have := hdeps m h
         rw [hml.2] at this
         cases this
        ·exact h
       unfold alive
       rw [hok, Bool.and_eq_true, Bool.or_eq_true]
       refine ⟨by simp [e, hnk], Or.inr (List.any_eq_true.2 ⟨m, List.mem_range.2 hmlt, ?_⟩)⟩
       rw [hm, ho]
       simp [hmi, hu, hnw]
  unfold wpOp
  rw [ho]
  simp only []
  split
  ·rename_i hwant
   refine Or.inl (Oper.wp_mono ?_ (hst.1 hwant))
   rintro a' w' ⟨v, rfl, hg, hLw, hkeep⟩
   exact hnext v w' hg hLw hkeep
  ·rename_i hwant
   exact hnext undef w (hst.2 (by simpa using hwant)).1 (hst.2 (by simpa using hwant)).2 fun _ _ _ _ h => h
/-- What is owed for a value. -/
structure Owed (ops : Array Oper) (ends : List Nat) (Good : Nat → Value → World → Prop) (I : (Nat → Bool) → World → Prop) (D : Nat → Bool) (i : Nat) (w : World) (v : Value) (w' : World) : Prop where
 good : Good i v w'
 later : I (upd D i) w'
 keep : ∀ j u, j < ops.size → alive ops ends i j = true → Good j u w → Good j u w'
theorem Owed.same {ends : List Nat} {Good : Nat → Value → World → Prop} {I : (Nat → Bool) → World → Prop} {D : Nat → Bool} {i : Nat} {w : World} {v : Value} (hI : I (upd D i) w) (h : Good i v w) : Owed ops ends Good I D i w v w := ⟨h, hI, fun _ _ _ _ h => h⟩
/-- WHAT IS OWED FOR OPERATION i, in words of its operands alone. -/
def StepE (P : Program) (ops : Array Oper) (a0 : Act) (ends : List Nat) (Good : Nat → Value → World → Prop) (I : (Nat → Bool) → World → Prop) (i : Nat) (o : Oper) : Prop :=
 ∀ (D : Nat → Bool) (ρ : Operand → Value) (w : World), Env ρ → I D w → D i = false → (∀ j, waits o j = true → D j = true) → (∀ s, unwritten ops i s = true → ρ (.tmp s) = a0.eval (.tmp s)) →
  (∀ j d, uses o j = true → slot ops j = some d → d < a0.tmps.size → ∃ v, Good j v w ∧ ρ (.tmp d) = v) →
  match o.guard with
  | none => Gives P ρ o w (Owed ops ends Good I D i w)
  | some (g, b) => ∀ u, Good g u w → (u = .bool b → Gives P ρ o w (Owed ops ends Good I D i w)) ∧ (u ≠ .bool b → Good i undef w ∧ I (upd D i) w)
theorem stepD_of {a0 : Act} {ends : List Nat} {Good : Nat → Value → World → Prop} {I : (Nat → Bool) → World → Prop} {i : Nat} {o : Oper} (ho : ops[i]? = some o) (hg : guardsB ops a0.tmps.size = true)
  (h : StepE P ops a0 ends Good I i o) : StepD P ops Q a0 ends Good I i o := by
 intro D a w hL hDi hDw hs hd
 have hd' : ∀ j d, uses o j = true → slot ops j = some d → d < a0.tmps.size → ∃ v, Good j v w ∧ a.eval (.tmp d) = v := by
  intro j d hu hsl hsz
  obtain ⟨x, hx, hxd⟩ := Option.bind_eq_some_iff.1 hsl
  obtain ⟨v, g, _, e⟩ := hd j x d hu hx hxd hsz
  exact ⟨v, g, e⟩
 have h1 := h D a.eval w (env_of a) hL hDi hDw hs hd'
 have conv : Gives P a.eval o w (Owed ops ends Good I D i w) → o.wp P a w (fun a' w' => ∃ v, a' = a.put o.dst v ∧ Good i v w' ∧ I (upd D i) w' ∧ ∀ j u, j < ops.size → alive ops ends i j = true → Good j u w → Good j u w') Q := fun hh => by
  refine Oper.wp_mono ?_ (gives_wp (Q := Q) hh)
  rintro a' w' ⟨v, e, hr⟩
  exact ⟨v, e, hr.good, hr.later, hr.keep⟩
 cases hgd : o.guard with
 | none =>
  rw [hgd] at h1
  refine ⟨fun _ => conv h1, fun hw => ?_⟩
  have : Region.wanted o (yielded ops a.tmps) = true := by simp [Region.wanted, hgd]
  rw [this] at hw
  cases hw
 | some gb =>
  obtain ⟨g, b⟩ := gb
  rw [hgd] at h1
  have hlt : i < ops.size := (Array.getElem?_eq_some_iff.1 ho).1
  have h2 := List.all_eq_true.1 hg i (List.mem_range.2 hlt)
  rw [ho] at h2
  simp only [hgd, Bool.and_eq_true] at h2
  obtain ⟨hu, h3⟩ := h2
  cases hsl : slot ops g with
  | none => rw [hsl] at h3; cases h3
  | some d =>
   rw [hsl] at h3
   obtain ⟨x, hx, hxd⟩ := Option.bind_eq_some_iff.1 hsl
   obtain ⟨v, hgood, hat, _⟩ := hd g x d hu hx hxd (of_decide_eq_true h3)
   have h4 := h1 v hgood
   have hw : Region.wanted o (yielded ops a.tmps) = true ↔ v = .bool b := by
    simp only [Region.wanted, hgd, yielded, hx, Option.bind_some, hxd, hat]
    cases v with
    | bool c => simp
    | _ => simp
   refine ⟨fun hh => conv (h4.1 (hw.1 hh)), fun hh => h4.2 fun e => ?_⟩
   have := hw.2 e
   rw [hh] at this
   cases this
/-- THE RULE, what is known of memory hanging on which operations are done. -/
theorem region_done {id : Nat} {a0 : Act} {w : World} (hm : P.follows .mixedOrders = true) (ends : List Nat) (Good : Nat → Value → World → Prop) (I : (Nat → Bool) → World → Prop) (hw : wellB ops = true) (hg : guardsB ops a0.tmps.size = true)
  (hinit : I (fun i => !decide (i < ops.size)) w.drew)
  (hstep : ∀ i o, ops[i]? = some o → StepE P ops a0 ends Good I i o)
  (hend : ∀ (V : Nat → Value) (w' : World), (∀ i, i < ops.size → ends.contains i = true → Good i (V i) w') → I (fun _ => true) w' → Q .normal (putS a0 ops (fun _ => true) V (List.range ops.size)) w') :
  (Code.region id ops true).wp P Q a0 w := by
 refine wp_region_any hm ?_
 refine any_done hw (fun i o ho => stepD_of ho hg (hstep i o ho)) hend ops.size _ _ _ (by simp) ?_ ?_ ⟨fun _ => undef, ?_, ?_⟩ ?_
 ·exact Nat.le_trans List.countP_le_length (by simp)
 ·intro i o hi hl
  have hlt : i < ops.size := (Array.getElem?_eq_some_iff.1 hi).1
  rw [Array.getD_eq_getD_getElem?] at hl
  simp [hlt] at hl
 ·have e : ∀ (l : List Nat), (∀ k ∈ l, k < ops.size) → putS a0 ops (fun i => (Array.replicate ops.size false).getD i true) (fun _ => undef) l = a0 := by
   intro l
   induction l with
   | nil => intro _; rfl
   | cons k l ih =>
    intro h
    have hk := h k (List.mem_cons_self ..)
    show putS (put1 ops _ _ a0 k) ops _ _ l = a0
    have e1 : put1 ops (fun i => (Array.replicate ops.size false).getD i true) (fun _ => undef) a0 k = a0 := by
     unfold put1
     rw [if_neg]
     simp [hk]
    rw [e1]
    exact ih fun j hj => h j (List.mem_cons_of_mem _ hj)
  exact (e _ fun k hk => List.mem_range.1 hk).symm
 ·intro i hi hl _
  simp [hi] at hl
 ·have e : (fun i => (Array.replicate ops.size false).getD i true) = fun i => !decide (i < ops.size) := by
   funext i
   rw [Array.getD_eq_getD_getElem?]
   by_cases hi : i < ops.size
   ·simp [hi]
   ·simp [hi]
  rw [e]
  exact hinit
/-- What is owed for operation i when its value is known ahead: operands are known values. -/
def StepV (P : Program) (ops : Array Oper) (a0 : Act) (V : Nat → Value) (I : (Nat → Bool) → World → Prop) (i : Nat) (o : Oper) : Prop :=
 ∀ (D : Nat → Bool) (ρ : Operand → Value) (w : World), Env ρ → I D w → D i = false → (∀ j, waits o j = true → D j = true) → (∀ s, unwritten ops i s = true → ρ (.tmp s) = a0.eval (.tmp s)) →
  (∀ j d, uses o j = true → slot ops j = some d → d < a0.tmps.size → ρ (.tmp d) = V j) →
  match o.guard with
  | none => Gives P ρ o w (fun v w' => v = V i ∧ I (upd D i) w')
  | some (g, b) => (V g = .bool b → Gives P ρ o w (fun v w' => v = V i ∧ I (upd D i) w')) ∧ (V g ≠ .bool b → V i = undef ∧ I (upd D i) w)
theorem Gives.mono {ρ : Operand → Value} {o : Oper} {w : World} {R R' : Value → World → Prop} (h : Gives P ρ o w R) (hr : ∀ v w', R v w' → R' v w') : Gives P ρ o w R' := by
 rcases h with ⟨v, w', h1, h2⟩ | ⟨w', h1, h2⟩ | ⟨f, args, w', h1, h2⟩
 ·exact Gives.value h1 (hr _ _ h2)
 ·exact Gives.skip h1 (hr _ _ h2)
 ·refine Gives.call h1 (Calls.mono h2 ?_)
  rintro e w'' ⟨v, rfl, h3⟩
  exact ⟨v, rfl, hr _ _ h3⟩
/-- The frame with these slots written. -/
def puts (a : Act) (ps : List (Tmp × Value)) : Act := ps.foldl (fun a p => a.put (some p.1) p.2) a
/-- The value of operation i. -/
def valAt (ps : List (Tmp × Value)) (i : Nat) : Value := ((ps[i]?).map (·.2)).getD undef
/-- An append among the operations. -/
theorem exec_append {ρ : Operand → Value} {o : Oper} {w w' : World} {s x : Operand} {t u : TypeId} {v y v' : Value} (ho : o.op = .call { callee := .builtin .append, args := #[s, x], argTypes := #[t, u] })
  (hs : ρ s = v) (hx : ρ x = y) (hr : (Builtin.append_ #[t, u] o.type #[v, y]).run P w = .ok v' w') : (execOp ρ o).run P w = .ok (.value v') w' := by
 unfold execOp
 simp only [ho, resolve, invoke, builtin, Sem.run_bind, Sem.run_pure, Result.andThen_ok, List.map_toArray, List.map_cons, List.map_nil, hs, hx, hr]
end
end Go.Proofs.Ytjeogeablbkhgaa.Reg
