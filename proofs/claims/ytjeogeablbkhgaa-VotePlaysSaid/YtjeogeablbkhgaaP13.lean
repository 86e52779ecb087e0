/-
  A statement whose order Go leaves open: the most general rule: what is known of memory and of the values so far may hang on which operations are done. Conditions: none of its own.
  Conditions: none.
-/
import Derived.Test.YtjeogeablbkhgaaP10
namespace Go.Proofs.Ytjeogeablbkhgaa.Reg
open Go.RowKit
/-- Operation i has yielded v. -/
def updV (V : Nat → Value) (i : Nat) (v : Value) : Nat → Value := fun k => cond (Nat.beq k i) v (V k)
section
variable {P : Program} {ops : Array Oper} {Q : Exit → Act → World → Prop}
def StepVI (P : Program) (ops : Array Oper) (Q : Exit → Act → World → Prop) (a0 : Act) (I : (Nat → Bool) → (Nat → Value) → World → Prop) (i : Nat) (o : Oper) : Prop :=
 ∀ (D : Nat → Bool) (V : Nat → Value) (a : Act) (w : World), I D V w → Closed ops D → D i = false → (∀ j, waits o j = true → D j = true) → (∀ s, unwritten ops i s = true → a.eval (.tmp s) = a0.eval (.tmp s)) →
  (∀ j x d, uses o j = true → ops[j]? = some x → x.dst = some d → d < a0.tmps.size → a.tmps[d]? = some (V j) ∧ a.eval (.tmp d) = V j) →
  (Region.wanted o (yielded ops a.tmps) = true → o.wp P a w (fun a' w' => ∃ v, a' = a.put o.dst v ∧ I (upd D i) (updV V i v) w') Q) ∧ (Region.wanted o (yielded ops a.tmps) = false → I (upd D i) (updV V i undef) w)
theorem any_inv {a0 : Act} {I : (Nat → Bool) → (Nat → Value) → World → Prop} (hw : wellB ops = true)
  (hstep : ∀ i o, ops[i]? = some o → StepVI P ops Q a0 I i o)
  (hend : ∀ (V : Nat → Value) (w : World), I (fun _ => true) V w → Q .normal (putS a0 ops (fun _ => true) V (List.range ops.size)) w) :
  ∀ (fuel : Nat) (listed : Array Bool) (a : Act) (w : World), listed.size = ops.size → (List.range ops.size).countP (fun i => !listed.getD i true) ≤ fuel →
   (∀ i o, ops[i]? = some o → listed.getD i true = true → ∀ j, waits o j = true → listed.getD j true = true) →
   (∃ V : Nat → Value, a = putS a0 ops (fun i => listed.getD i true) V (List.range ops.size) ∧ I (fun i => listed.getD i true) V w) →
   wpAny P .any ops Q fuel listed a w := by
 intro fuel
 have finish : ∀ (listed : Array Bool) (a : Act) (w : World), listed.size = ops.size → Region.ready .any ops listed = [] →
   (∃ V : Nat → Value, a = putS a0 ops (fun i => listed.getD i true) V (List.range ops.size) ∧ I (fun i => listed.getD i true) V w) → Q .normal a w := by
  intro listed a w hs hr hV
  obtain ⟨V, rfl, hL⟩ := hV
  have hall := ready_all hw hr hs
  have e : putS a0 ops (fun i => listed.getD i true) V (List.range ops.size) = putS a0 ops (fun _ => true) V (List.range ops.size) :=
   putS_congr _ _ fun i hi => ⟨hall i (List.mem_range.1 hi), rfl⟩
  rw [e]
  have eD : (fun i => listed.getD i true) = fun _ => true := by
   funext i
   by_cases hi : i < ops.size
   ·exact hall i hi
   ·rw [Array.getD_eq_getD_getElem?, Array.getElem?_eq_none (by omega)]; rfl
  rw [eD] at hL
  exact hend V w hL
 induction fuel with
 | zero =>
  intro listed a w hs hc _ hV
  have hr : Region.ready .any ops listed = [] := by
   have h0 := List.countP_eq_zero.1 (Nat.le_zero.1 hc)
   unfold Region.ready
   refine List.filter_eq_nil_iff.2 fun i hi => ?_
   have := h0 i hi
   intro h
   rw [Bool.and_eq_true] at h
   exact this h.1
  exact ⟨hr, finish listed a w hs hr hV⟩
 | succ fuel ih =>
  intro listed a w hs hc hclosed hV
  refine ⟨fun hr => finish listed a w hs hr hV, fun i hi => ?_⟩
  obtain ⟨V, ha, hL⟩ := hV
  have hcl : Closed ops (fun i => listed.getD i true) := by
   intro k hk hD j hj
   unfold waitsAt at hj
   rw [Array.getElem?_eq_getElem hk] at hj
   exact hclosed k _ (Array.getElem?_eq_getElem hk) hD j hj
  have hi' := List.mem_filter.1 hi
  have hlt : i < ops.size := List.mem_range.1 hi'.1
  have ho : ops[i]? = some ops[i] := Array.getElem?_eq_getElem hlt
  have hready := hi'.2
  rw [ho] at hready
  simp only [Option.map_some, Option.getD_some, Bool.and_eq_true, Bool.not_eq_true'] at hready
  obtain ⟨hun, haft⟩ := hready
  have hdeps : ∀ j, waits ops[i] j = true → listed.getD j true = true := by
   intro j hj
   obtain ⟨e, he, hb⟩ := Array.any_eq_true'.1 hj
   simp only [Bool.and_eq_true, beq_iff_eq] at hb
   have h1 := Array.all_eq_true'.1 haft e he
   rw [hb.1, hb.2] at h1
   simp only [Bool.not_true, Bool.false_or] at h1
   simp only [Array.getD_eq_getD_getElem?] at h1 ⊢
   cases hx : listed[j]? with
   | none => rfl
   | some b => rw [hx] at h1; exact h1
  have hst := hstep i _ ho (fun i => listed.getD i true) V a w hL hcl hun hdeps
   (fun s hs' => by
    have hold := putS_old (ops := ops) a0 (fun i => listed.getD i true) V s (List.range ops.size) fun k hk o hok hod => by
     have hk' := List.all_eq_true.1 hs' k hk
     rw [hok] at hk'
     simp only [hod, bne_self_eq_false, Bool.false_or] at hk'
     rcases Bool.eq_false_or_eq_true (listed.getD k true) with h | h
     ·have := hclosed k o hok h i hk'
      rw [this] at hun
      cases hun
     ·exact h
    rw [ha]
    show (putS a0 ops _ V _).tmps.getD s undef = a0.tmps.getD s undef
    rw [Array.getD_eq_getD_getElem?, Array.getD_eq_getD_getElem?, hold])
   (fun j x d hj hx hd hsz => by
    have hjlt : j < ops.size := (Array.getElem?_eq_some_iff.1 hx).1
    have hjl := hdeps j (uses_waits hj)
    have := putS_at hw a0 (fun i => listed.getD i true) V j x d hx hd hjl hsz (List.range ops.size) List.nodup_range (List.mem_range.2 hjlt)
    rw [← ha] at this
    exact ⟨this, by show a.tmps.getD d undef = V j; rw [Array.getD_eq_getD_getElem?, this]; rfl⟩)
  have hnext : ∀ (v : Value) (w' : World), I (upd (fun i => listed.getD i true) i) (updV V i v) w' → wpAny P .any ops Q fuel (listed.setIfInBounds i true) (a.put ops[i].dst v) w' := by
   intro v w' hLw
   have hset : ∀ k, (listed.setIfInBounds i true).getD k true = (k == i || listed.getD k true) := by
    intro k
    simp only [Array.getD_eq_getD_getElem?, Array.getElem?_setIfInBounds]
    by_cases e : i = k
    ·subst e
     by_cases h2 : i < listed.size
     ·simp [h2]
     ·simp [h2]
    ·have e' : ¬ k = i := fun h => e h.symm
     simp [e, e']
   refine ih _ _ w' (by simpa using hs) ?_ ?_ ?_
   ·have hlow : (List.range ops.size).countP (fun k => !(listed.setIfInBounds i true).getD k true) < (List.range ops.size).countP (fun k => !listed.getD k true) := by
     refine countP_lt ?_ (List.mem_range.2 hlt) (by rw [hset]; simp) (by rw [hun]; rfl)
     intro k _ hk
     rw [hset] at hk
     simp only [Bool.not_eq_true', Bool.or_eq_false_iff] at hk
     rw [hk.2]; rfl
    omega
   ·intro k o hk hkl j hj
    rw [hset] at hkl ⊢
    by_cases e : k = i
    ·subst e
     rw [ho] at hk
     injection hk with hk
     subst hk
     rw [hdeps j hj]; simp
    ·have hkl' : listed.getD k true = true := by simpa [e] using hkl
     rw [hclosed k o hk hkl' j hj]; simp
   ·refine ⟨updV V i v, ?_, (funext hset : (fun k => (listed.setIfInBounds i true).getD k true) = upd (fun i => listed.getD i true) i) ▸ hLw⟩
    have h := putS_more hw a0 (fun k => listed.getD k true) V i v hun (List.range ops.size) List.nodup_range (List.mem_range.2 hlt)
    rw [ha]
    have e : ((ops[i]?).bind (·.dst)) = ops[i].dst := by rw [ho]; rfl
    rw [e] at h
    rw [h]
    refine putS_congr _ _ fun k _ => ⟨(hset k).symm, ?_⟩
    unfold updV
    by_cases e2 : k = i
    ·subst e2; simp
    ·rw [if_neg e2]
     have e3 : Nat.beq k i = false := by
      rcases Bool.eq_false_or_eq_true (Nat.beq k i) with h | h
      ·exact absurd (Nat.eq_of_beq_eq_true h) e2
      ·exact h
     rw [e3]; rfl
  unfold wpOp
  rw [ho]
  simp only []
  split
  ·rename_i hwant
   refine Or.inl (Oper.wp_mono ?_ (hst.1 hwant))
   rintro a' w' ⟨v, rfl, hLw⟩
   exact hnext v w' hLw
  ·rename_i hwant
   exact hnext undef w (hst.2 (by simpa using hwant))
/-- Operation b waits for operation a, at n steps at most. -/
def before (ops : Array Oper) : Nat → Nat → Nat → Bool
 | 0, _, _ => false
 | n + 1, b, a => waitsAt ops b a || (List.range b).any fun k => waitsAt ops b k && before ops n k a
theorem before_done {D : Nat → Bool} (hc : Closed ops D) : ∀ n b a, b < ops.size → D b = true → before ops n b a = true → D a = true := by
 intro n
 induction n with
 | zero => intro b a _ _ h; cases h
 | succ n ih =>
  intro b a hb hD h
  simp only [before, Bool.or_eq_true] at h
  rcases h with h | h
  ·exact hc b hb hD a h
  ·obtain ⟨k, hk, hk2⟩ := List.any_eq_true.1 h
   simp only [Bool.and_eq_true] at hk2
   have hkl := List.mem_range.1 hk
   exact ih k a (by omega) (hc b hb hD k hk2.1) hk2.2
/-- What is owed for operation i. -/
def StepI (P : Program) (ops : Array Oper) (a0 : Act) (vals : Nat → Option Value) (St : (Nat → Bool) → (Nat → Value) → World → Prop) (i : Nat) (o : Oper) : Prop :=
 ∀ (D : Nat → Bool) (V : Nat → Value) (ρ : Operand → Value) (w : World), Env ρ → St D V w → D i = false → (∀ n j, ∀ (_ : before ops n i j = true := by kernel_rfl), D j = true) → (∀ n j, ∀ (_ : j < ops.size := by exact of_decide_eq_true (by kernel_rfl)) (_ : before ops n j i = true := by kernel_rfl), D j = false) →
  (∀ s, ∀ (_ : unwritten ops i s = true := by kernel_rfl), ρ (.tmp s) = a0.eval (.tmp s)) → (∀ j d, ∀ (_ : uses o j = true := by kernel_rfl) (_ : slot ops j = some d := by kernel_rfl) (_ : d < a0.tmps.size := by exact of_decide_eq_true (by kernel_rfl)), ρ (.tmp d) = V j) → (∀ j x, vals j = some x → ∀ (_ : uses o j = true := by kernel_rfl), V j = x) →
  match o.guard with
  | none => Gives P ρ o w (fun v w' => (∀ x, vals i = some x → v = x) ∧ St (upd D i) (updV V i v) w')
  | some (g, b) => (V g = .bool b → Gives P ρ o w (fun v w' => (∀ x, vals i = some x → v = x) ∧ St (upd D i) (updV V i v) w')) ∧ (V g ≠ .bool b → (∀ x, vals i = some x → undef = x) ∧ St (upd D i) (updV V i undef) w)
theorem updV_at {V : Nat → Value} {i : Nat} {v : Value} : updV V i v i = v := by
 unfold updV
 rw [Nat.beq_refl]
 rfl
theorem updV_off {V : Nat → Value} {i j : Nat} {v : Value} (h : j ≠ i) : updV V i v j = V j := by
 unfold updV
 have e3 : Nat.beq j i = false := by
  rcases Bool.eq_false_or_eq_true (Nat.beq j i) with h2 | h2
  ·exact absurd (Nat.eq_of_beq_eq_true h2) h
  ·exact h2
 rw [e3]
 rfl
/-- THE RULE. -/
theorem region_inv {id : Nat} {a0 : Act} {w : World} (hm : P.follows .mixedOrders = true) (vals : Nat → Option Value) (St : (Nat → Bool) → (Nat → Value) → World → Prop) (ps : (Nat → Value) → List (Option Tmp × Value))
  (hw : wellB ops = true) (hg : guardsB ops a0.tmps.size = true)
  (hps : ∀ V, (List.range ops.size).map (fun i => ((ops[i]?).bind (·.dst), V i)) = ps V)
  (hinit : ∀ V, St (fun i => !decide (i < ops.size)) V w.drew)
  (hstep : ∀ i o, ops[i]? = some o → StepI P ops a0 vals St i o)
  (hend : ∀ (V : Nat → Value) (w' : World), (∀ i, i < ops.size → ∀ x, vals i = some x → V i = x) → St (fun _ => true) V w' → Q .normal (putsO a0 (ps V)) w') :
  (Code.region id ops true).wp P Q a0 w := by
 refine wp_region_any hm ?_
 refine any_inv (a0 := a0) (I := fun D V w => (∀ j, j < ops.size → D j = true → ∀ x, vals j = some x → V j = x) ∧ St D V w) hw (fun i o ho => ?_) ?_ ops.size _ _ _ (by simp) ?_ ?_ ⟨fun _ => undef, ?_, ?_, ?_⟩
 ·intro D V a wi hI hcl hDi hDw hs hd
  obtain ⟨hk, hI⟩ := hI
  have hi : i < ops.size := (Array.getElem?_eq_some_iff.1 ho).1
  have hT : ∀ n j, before ops n i j = true → D j = true := by
   intro n j hb
   cases n with
   | zero => cases hb
   | succ n =>
    simp only [before, Bool.or_eq_true] at hb
    have hwat : ∀ j, waitsAt ops i j = waits o j := fun j => by unfold waitsAt; rw [ho]
    rcases hb with h | h
    ·rw [hwat] at h
     exact hDw j h
    ·obtain ⟨k, hk1, hk2⟩ := List.any_eq_true.1 h
     simp only [Bool.and_eq_true] at hk2
     have hkl := List.mem_range.1 hk1
     rw [hwat] at hk2
     exact before_done hcl n k j (by omega) (hDw k hk2.1) hk2.2
  have hF : ∀ n j, j < ops.size → before ops n j i = true → D j = false := by
   intro n j hj hb
   rcases Bool.eq_false_or_eq_true (D j) with h | h
   ·rw [before_done hcl n j i hj h hb] at hDi
    cases hDi
   ·exact h
  have hd' : ∀ j d, uses o j = true → slot ops j = some d → d < a0.tmps.size → a.eval (.tmp d) = V j := by
   intro j d hu hsl hsz
   obtain ⟨x, hx, hxd⟩ := Option.bind_eq_some_iff.1 hsl
   exact (hd j x d hu hx hxd hsz).2
  have hk' : ∀ j, uses o j = true → ∀ x, vals j = some x → V j = x := by
   intro j hu x hx
   by_cases hj : j < ops.size
   ·exact hk j hj (hDw j (uses_waits hu)) x hx
   ·exfalso
    have h2 := (wellB_spec hw ho).1
    obtain ⟨e, he, hb⟩ := Array.any_eq_true'.1 hu
    simp only [Bool.and_eq_true, Bool.or_eq_true, beq_iff_eq] at hb
    have := h2 e he (by
     unfold Region.binds
     rcases hb.1 with hg | hg <;> rw [hg])
    omega
  have h1 := hstep i o ho D V a.eval wi (env_of a) hI hDi hT hF hs hd' (fun j x hx hu => hk' j hu x hx)
  have hmore : ∀ v, (∀ x, vals i = some x → v = x) → ∀ j, j < ops.size → upd D i j = true → ∀ x, vals j = some x → updV V i v j = x := by
   intro v hv j hj hD x hx
   by_cases e : j = i
   ·subst e
    rw [updV_at]
    exact hv x hx
   ·rw [updV_off e]
    refine hk j hj ?_ x hx
    unfold upd at hD
    simpa [e] using hD
  have conv : Gives P a.eval o wi (fun v w' => (∀ x, vals i = some x → v = x) ∧ St (upd D i) (updV V i v) w') → o.wp P a wi (fun a' w' => ∃ v, a' = a.put o.dst v ∧ (∀ j, j < ops.size → upd D i j = true → ∀ x, vals j = some x → updV V i v j = x) ∧ St (upd D i) (updV V i v) w') Q := fun hh => by
   refine Oper.wp_mono ?_ (gives_wp (Q := Q) hh)
   rintro a' w' ⟨v, e, hr⟩
   exact ⟨v, e, hmore v hr.1, hr.2⟩
  cases hgd : o.guard with
  | none =>
   rw [hgd] at h1
   refine ⟨fun _ => conv h1, fun hw => ?_⟩
   have : Region.wanted o (yielded ops a.tmps) = true := by simp [Region.wanted, hgd]
   rw [this] at hw
   cases hw
  | some gb =>
   obtain ⟨g, b⟩ := gb
   rw [hgd] at h1
   have h2 := List.all_eq_true.1 hg i (List.mem_range.2 hi)
   rw [ho] at h2
   simp only [hgd, Bool.and_eq_true] at h2
   obtain ⟨hu, h3⟩ := h2
   cases hsl : slot ops g with
   | none => rw [hsl] at h3; cases h3
   | some d =>
    rw [hsl] at h3
    obtain ⟨x, hx, hxd⟩ := Option.bind_eq_some_iff.1 hsl
    obtain ⟨hat, _⟩ := hd g x d hu hx hxd (of_decide_eq_true h3)
    have hw : Region.wanted o (yielded ops a.tmps) = true ↔ V g = .bool b := by
     simp only [Region.wanted, hgd, yielded, hx, Option.bind_some, hxd, hat]
     cases V g with
     | bool c => simp
     | _ => simp
    refine ⟨fun hh => conv (h1.1 (hw.1 hh)), fun hh => ?_⟩
    have h4 := h1.2 fun e => by
     have := hw.2 e
     rw [hh] at this
     cases this
    exact ⟨hmore undef h4.1, h4.2⟩
 ·intro V w' hI
  rw [putS_listO a0 V (ps V) (hps V)]
  exact hend V w' (fun i hi x hx => hI.1 i hi rfl x hx) hI.2
 ·exact Nat.le_trans List.countP_le_length (by simp)
 ·intro i o hi hl
  have hlt : i < ops.size := (Array.getElem?_eq_some_iff.1 hi).1
  rw [Array.getD_eq_getD_getElem?] at hl
  simp [hlt] at hl
 ·have e : ∀ (l : List Nat), (∀ k ∈ l, k < ops.size) → putS a0 ops (fun i => (Array.replicate ops.size false).getD i true) (fun _ => undef) l = a0 := by
   intro l
   induction l with
   | nil => intro _; rfl
   | cons k l ih =>
    intro h
    have hk := h k (List.mem_cons_self ..)
    show putS (put1 ops _ _ a0 k) ops _ _ l = a0
    have e1 : put1 ops (fun i => (Array.replicate ops.size false).getD i true) (fun _ => undef) a0 k = a0 := by
     unfold put1
     rw [if_neg]
     simp [hk]
    rw [e1]
    exact ih fun j hj => h j (List.mem_cons_of_mem _ hj)
  exact (e _ fun k hk => List.mem_range.1 hk).symm
 ·intro j hj hD
  simp [hj] at hD
 ·have e : (fun i => (Array.replicate ops.size false).getD i true) = fun i => !decide (i < ops.size) := by
   funext i
   by_cases hi : i < ops.size
   ·simp [Array.getD_eq_getD_getElem?, hi]
   ·simp [Array.getD_eq_getD_getElem?, hi]
  rw [e]
  exact hinit _
end
end Go.Proofs.Ytjeogeablbkhgaa.Reg
