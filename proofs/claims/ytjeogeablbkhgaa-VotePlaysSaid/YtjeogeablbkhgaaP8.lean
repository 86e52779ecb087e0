/-
  A statement whose order Go leaves open, without going through its orders: if each operation, whenever those that it waits for are done, yields a value that is good, and what is good stays so, then in whatever order they are done all values are good in the end. Conditions: none of its own.
  Conditions: none.
-/
import Derived.Orders
import Derived.Below
namespace Go.Proofs.Ytjeogeablbkhgaa.Reg
open Go.RowKit
/-- Does o wait for operation j? -/
def waits (o : Oper) (j : Nat) : Bool := o.after.any fun e => Region.binds .any e && e.on == j
/-- No operation that writes slot s comes ahead of operation i. -/
def unwritten (ops : Array Oper) (i s : Nat) : Bool := (List.range ops.size).all fun k => match ops[k]? with | some o => o.dst != some s || waits o i | none => true
/-- Does o take the value, or the guard, of operation j? -/
def uses (o : Oper) (j : Nat) : Bool := o.after.any fun e => (e.ground == .data || e.ground == .guard) && e.on == j
/-- When operation i is done: may the value of operation j be taken later still (by an operation, or at the end)? -/
def alive (ops : Array Oper) (ends : List Nat) (i j : Nat) : Bool :=
 j != i && !(match ops[j]? with | some o => waits o i | none => false) && (ends.contains j || (List.range ops.size).any fun k => k != i && (match ops[k]? with | some o => uses o j | none => false) && !(match ops[i]? with | some o => waits o k | none => false))
theorem uses_waits {o : Oper} {j : Nat} (h : uses o j = true) : waits o j = true := by
 obtain ⟨e, he, hb⟩ := Array.any_eq_true'.1 h
 simp only [Bool.and_eq_true, Bool.or_eq_true, beq_iff_eq] at hb
 refine Array.any_eq_true'.2 ⟨e, he, ?_⟩
 simp only [Bool.and_eq_true, beq_iff_eq]
 refine ⟨?_, hb.2⟩
 unfold Region.binds
 rcases hb.1 with hg | hg <;> rw [hg]
/-- Each waits for earlier ones alone; no two write one slot. -/
def wellB (ops : Array Oper) : Bool :=
 (List.range ops.size).all fun i => match ops[i]? with
  | some o => (o.after.all fun e => !Region.binds .any e || decide (e.on < i)) && ((List.range ops.size).all fun k => match ops[k]? with | some x => k == i || x.dst.isNone || x.dst != o.dst | none => true)
  | none => true
theorem wellB_spec {ops : Array Oper} (h : wellB ops = true) {i : Nat} {o : Oper} (hi : ops[i]? = some o) :
  (∀ e ∈ o.after, Region.binds .any e = true → e.on < i) ∧ ∀ k x, ops[k]? = some x → k ≠ i → ∀ d, o.dst = some d → x.dst ≠ some d := by
 have hlt : i < ops.size := (Array.getElem?_eq_some_iff.1 hi).1
 have h1 := List.all_eq_true.1 h i (List.mem_range.2 hlt)
 rw [hi] at h1
 simp only [Bool.and_eq_true] at h1
 refine ⟨fun e he hb => ?_, fun k x hk hne d hd hx => ?_⟩
 ·have := (Array.all_eq_true'.1 h1.1) e he
  simpa [hb] using this
 ·have hk' : k < ops.size := (Array.getElem?_eq_some_iff.1 hk).1
  have h2 := List.all_eq_true.1 h1.2 k (List.mem_range.2 hk')
  rw [hk] at h2
  simp [hne, hx, hd] at h2
/-- The frame behind the listed operations, whose values are V. -/
def put1 (ops : Array Oper) (listed : Nat → Bool) (V : Nat → Value) (a : Act) (i : Nat) : Act := if listed i = true then a.put ((ops[i]?).bind (·.dst)) (V i) else a
def putS (a0 : Act) (ops : Array Oper) (listed : Nat → Bool) (V : Nat → Value) (l : List Nat) : Act := l.foldl (put1 ops listed V) a0
theorem put_size (a : Act) (d : Option Tmp) (v : Value) : (a.put d v).tmps.size = a.tmps.size := by
 cases d <;> simp [Act.put]
theorem put_defers (a : Act) (d : Option Tmp) (v : Value) : (a.put d v).defers = a.defers := by
 cases d <;> rfl
theorem put_at (a : Act) (d : Option Tmp) (v : Value) (s : Nat) : (a.put d v).tmps[s]? = if d = some s ∧ s < a.tmps.size then some v else a.tmps[s]? := by
 cases d with
 | none => simp [Act.put]
 | some d =>
  simp only [Act.put, Array.getElem?_setIfInBounds, Option.some.injEq]
  by_cases h : d = s
  ·subst h
   by_cases h2 : d < a.tmps.size
   ·simp [h2]
   ·simp [h2]
  ·simp [h]
theorem act_ext {a b : Act} (h : ∀ s : Nat, a.tmps[s]? = b.tmps[s]?) (hd : a.defers = b.defers) : a = b := by
 cases a; cases b
 simp only [Act.mk.injEq]
 exact ⟨Array.ext_getElem? h, hd⟩
theorem act_put_comm (a : Act) {x y : Option Tmp} (v u : Value) (h : ∀ d, x = some d → y ≠ some d) : (a.put x v).put y u = (a.put y u).put x v := by
 refine act_ext (fun s => ?_) (by simp only [put_defers])
 rw [put_at, put_at, put_at, put_at, put_size, put_size]
 by_cases hx : x = some s
 ·have hy := h s hx
  simp [hx, hy]
 ·simp [hx]
section
variable {P : Program} {ops : Array Oper} {Q : Exit → Act → World → Prop}
theorem putS_size (a0 : Act) (listed : Nat → Bool) (V : Nat → Value) (l : List Nat) : (putS a0 ops listed V l).tmps.size = a0.tmps.size := by
 induction l generalizing a0 with
 | nil => rfl
 | cons i l ih =>
  show (putS (put1 ops listed V a0 i) ops listed V l).tmps.size = _
  rw [ih]
  unfold put1
  split
  ·exact put_size _ _ _
  ·rfl
theorem putS_put (hw : wellB ops = true) (a0 : Act) (listed : Nat → Bool) (V : Nat → Value) (l : List Nat) (i : Nat) (v : Value) (hi : i ∉ l) :
  (putS a0 ops listed V l).put ((ops[i]?).bind (·.dst)) v = putS (a0.put ((ops[i]?).bind (·.dst)) v) ops listed V l := by
 induction l generalizing a0 with
 | nil => rfl
 | cons k l ih =>
  show (putS (put1 ops listed V a0 k) ops listed V l).put _ v = putS (put1 ops listed V (a0.put _ v) k) ops listed V l
  rw [ih _ (fun h => hi (List.mem_cons_of_mem _ h))]
  congr 1
  unfold put1
  split
  ·refine act_put_comm a0 _ _ fun d hk hid => ?_
   have hne : i ≠ k := fun e => hi (e ▸ List.mem_cons_self ..)
   obtain ⟨o, ho, hod⟩ := Option.bind_eq_some_iff.1 hk
   obtain ⟨x, hx, hxd⟩ := Option.bind_eq_some_iff.1 hid
   exact (wellB_spec hw ho).2 i x hx hne d hod hxd
  ·rfl
theorem putS_congr (a0 : Act) {listed listed' : Nat → Bool} {V V' : Nat → Value} (l : List Nat) (h : ∀ i ∈ l, listed i = listed' i ∧ V i = V' i) : putS a0 ops listed V l = putS a0 ops listed' V' l := by
 induction l generalizing a0 with
 | nil => rfl
 | cons k l ih =>
  have hk := h k (List.mem_cons_self ..)
  show putS (put1 ops listed V a0 k) ops listed V l = putS (put1 ops listed' V' a0 k) ops listed' V' l
  rw [show put1 ops listed V a0 k = put1 ops listed' V' a0 k by unfold put1; rw [hk.1, hk.2]]
  exact ih _ fun i hi => h i (List.mem_cons_of_mem _ hi)
/-- One operation more. -/
theorem putS_more (hw : wellB ops = true) (a0 : Act) (listed : Nat → Bool) (V : Nat → Value) (i : Nat) (v : Value) (hn : listed i = false) : ∀ (l : List Nat), l.Nodup → i ∈ l →
  (putS a0 ops listed V l).put ((ops[i]?).bind (·.dst)) v = putS a0 ops (fun k => k == i || listed k) (fun k => if k = i then v else V k) l := by
 intro l
 induction l generalizing a0 with
 | nil => intro _ h; cases h
 | cons k l ih =>
  intro hnd hm
  have hnd' := List.nodup_cons.1 hnd
  show (putS (put1 ops listed V a0 k) ops listed V l).put _ v = putS (put1 ops (fun k => k == i || listed k) (fun k => if k = i then v else V k) a0 k) ops _ _ l
  by_cases e : k = i
  ·subst e
   rw [putS_put hw _ _ _ _ _ _ hnd'.1]
   have e1 : put1 ops listed V a0 k = a0 := by unfold put1; rw [hn]; rfl
   have e2 : put1 ops (fun j => j == k || listed j) (fun j => if j = k then v else V j) a0 k = a0.put ((ops[k]?).bind (·.dst)) v := by unfold put1; simp
   rw [e1, e2]
   refine putS_congr _ _ fun j hj => ?_
   have hne : j ≠ k := fun e => hnd'.1 (e ▸ hj)
   simp [hne]
  ·have hm' : i ∈ l := by
    rcases List.mem_cons.1 hm with h | h
    ·exact absurd h.symm e
    ·exact h
   have e1 : put1 ops (fun j => j == i || listed j) (fun j => if j = i then v else V j) a0 k = put1 ops listed V a0 k := by
    unfold put1; simp [e]
   rw [e1]
   exact ih _ hnd'.2 hm'
/-- What a slot holds. -/
theorem putS_at (hw : wellB ops = true) (a0 : Act) (listed : Nat → Bool) (V : Nat → Value) (i : Nat) (o : Oper) (d : Nat) (ho : ops[i]? = some o) (hd : o.dst = some d) (hl : listed i = true) (hsz : d < a0.tmps.size) : ∀ (l : List Nat), l.Nodup → i ∈ l →
  (putS a0 ops listed V l).tmps[d]? = some (V i) := by
 intro l hnd hm
 have hb : (ops[i]?).bind (·.dst) = some d := by rw [ho]; exact hd
 have h := putS_more hw a0 (fun k => if k = i then false else listed k) V i (V i) (by simp) l hnd hm
 have e : putS a0 ops (fun k => k == i || (if k = i then false else listed k)) (fun k => if k = i then V i else V k) l = putS a0 ops listed V l := by
  refine putS_congr _ _ fun j _ => ?_
  by_cases hj : j = i
  ·subst hj; simp [hl]
  ·simp [hj]
 rw [e] at h
 rw [← h, put_at, hb, putS_size]
 simp [hsz]
theorem putS_old (a0 : Act) (listed : Nat → Bool) (V : Nat → Value) (s : Nat) : ∀ (l : List Nat), (∀ k ∈ l, ∀ o, ops[k]? = some o → o.dst = some s → listed k = false) → (putS a0 ops listed V l).tmps[s]? = a0.tmps[s]? := by
 intro l
 induction l generalizing a0 with
 | nil => intro _; rfl
 | cons k l ih =>
  intro h
  show (putS (put1 ops listed V a0 k) ops listed V l).tmps[s]? = _
  rw [ih _ fun j hj => h j (List.mem_cons_of_mem _ hj)]
  unfold put1
  split
  ·rename_i hl
   rw [put_at]
   rw [if_neg]
   rintro ⟨hb, _⟩
   obtain ⟨o, ho, hod⟩ := Option.bind_eq_some_iff.1 hb
   have := h k (List.mem_cons_self ..) o ho hod
   rw [hl] at this
   cases this
  ·rfl
/-- WHAT IS OWED FOR OPERATION i. -/
def StepA (P : Program) (ops : Array Oper) (Q : Exit → Act → World → Prop) (a0 : Act) (w0 : World) (ends : List Nat) (Good : Nat → Value → World → Prop) (L : World → World → Prop) (i : Nat) (o : Oper) : Prop :=
 ∀ (a : Act) (w : World), L w0 w → (∀ s, unwritten ops i s = true → a.eval (.tmp s) = a0.eval (.tmp s)) →
  (∀ j x d, uses o j = true → ops[j]? = some x → x.dst = some d → d < a0.tmps.size → ∃ v, Good j v w ∧ a.tmps[d]? = some v ∧ a.eval (.tmp d) = v) →
  (Region.wanted o (yielded ops a.tmps) = true → o.wp P a w (fun a' w' => ∃ v, a' = a.put o.dst v ∧ Good i v w' ∧ L w w' ∧ ∀ j u, j < ops.size → alive ops ends i j = true → Good j u w → Good j u w') Q) ∧ (Region.wanted o (yielded ops a.tmps) = false → Good i undef w)
theorem countP_lt {l : List Nat} {p q : Nat → Bool} (h : ∀ k ∈ l, p k = true → q k = true) {i : Nat} (hi : i ∈ l) (hp : p i = false) (hq : q i = true) : l.countP p < l.countP q := by
 induction l with
 | nil => cases hi
 | cons k l ih =>
  rw [List.countP_cons, List.countP_cons]
  have hle : l.countP p ≤ l.countP q := List.countP_mono_left fun x hx => h x (List.mem_cons_of_mem _ hx)
  rcases List.mem_cons.1 hi with rfl | hm
  ·rw [hp, hq]; simp; omega
  ·have := ih (fun x hx => h x (List.mem_cons_of_mem _ hx)) hm
   have hk := h k (List.mem_cons_self ..)
   cases hpk : p k
   ·simp; omega
   ·rw [hk hpk]; simp; omega
theorem ready_all {listed : Array Bool} (hw : wellB ops = true) (hr : Region.ready .any ops listed = []) (hs : listed.size = ops.size) : ∀ i, i < ops.size → listed.getD i true = true := by
 intro i
 induction i using Nat.strongRecOn with
 | ind i ih =>
  intro hi
  rcases Bool.eq_false_or_eq_true (listed.getD i true) with h | h
  ·exact h
  ·exfalso
   have hm : i ∈ Region.ready .any ops listed := by
    unfold Region.ready
    refine List.mem_filter.2 ⟨List.mem_range.2 hi, ?_⟩
    have ho : ops[i]? = some ops[i] := Array.getElem?_eq_getElem hi
    rw [h, ho]
    simp only [Bool.not_false, Option.map_some, Option.getD_some, Bool.true_and]
    refine Array.all_eq_true'.2 fun e he => ?_
    rcases Bool.eq_false_or_eq_true (Region.binds .any e) with hb | hb
    ·have hlt := (wellB_spec hw ho).1 e he hb
     have := ih e.on hlt (by omega)
     have hd : listed.getD e.on false = true := by
      simp only [Array.getD_eq_getD_getElem?] at this ⊢
      have hsz : e.on < listed.size := by omega
      rw [Array.getElem?_eq_getElem hsz] at this ⊢
      exact this
     rw [hd]; simp
    ·rw [hb]; rfl
   rw [hr] at hm
   cases hm
/-- The value of operation j may be taken still. -/
def Live (ops : Array Oper) (ends : List Nat) (listed : Array Bool) (j : Nat) : Prop := ends.contains j = true ∨ ∃ k o, ops[k]? = some o ∧ uses o j = true ∧ listed.getD k true = false
theorem any_of {a0 : Act} {w0 : World} {ends : List Nat} {Good : Nat → Value → World → Prop} {L : World → World → Prop} (hw : wellB ops = true) (hrefl : ∀ a, L a a) (htrans : ∀ a b c, L a b → L b c → L a c)
  (hstep : ∀ i o, ops[i]? = some o → StepA P ops Q a0 w0 ends Good L i o)
  (hend : ∀ (V : Nat → Value) (w : World), (∀ i, i < ops.size → ends.contains i = true → Good i (V i) w) → L w0 w → Q .normal (putS a0 ops (fun _ => true) V (List.range ops.size)) w) :
  ∀ (fuel : Nat) (listed : Array Bool) (a : Act) (w : World), listed.size = ops.size → (List.range ops.size).countP (fun i => !listed.getD i true) ≤ fuel →
   (∀ i o, ops[i]? = some o → listed.getD i true = true → ∀ j, waits o j = true → listed.getD j true = true) →
   (∃ V : Nat → Value, a = putS a0 ops (fun i => listed.getD i true) V (List.range ops.size) ∧ ∀ i, i < ops.size → listed.getD i true = true → Live ops ends listed i → Good i (V i) w) → L w0 w →
   wpAny P .any ops Q fuel listed a w := by
 intro fuel
 have finish : ∀ (listed : Array Bool) (a : Act) (w : World), listed.size = ops.size → Region.ready .any ops listed = [] →
   (∃ V : Nat → Value, a = putS a0 ops (fun i => listed.getD i true) V (List.range ops.size) ∧ ∀ i, i < ops.size → listed.getD i true = true → Live ops ends listed i → Good i (V i) w) → L w0 w → Q .normal a w := by
  intro listed a w hs hr hV hL
  obtain ⟨V, rfl, hG⟩ := hV
  have hall := ready_all hw hr hs
  have e : putS a0 ops (fun i => listed.getD i true) V (List.range ops.size) = putS a0 ops (fun _ => true) V (List.range ops.size) :=
   putS_congr _ _ fun i hi => ⟨hall i (List.mem_range.1 hi), rfl⟩
  rw [e]
  exact hend V w (fun i hi he => hG i hi (hall i hi) (Or.inl he)) hL
 induction fuel with
 | zero =>
  intro listed a w hs hc _ hV hL
  have hr : Region.ready .any ops listed = [] := by
   have h0 := List.countP_eq_zero.1 (Nat.le_zero.1 hc)
   unfold Region.ready
   refine List.filter_eq_nil_iff.2 fun i hi => ?_
   have := h0 i hi
   intro h
   rw [Bool.and_eq_true] at h
   exact this h.1
  exact ⟨hr, finish listed a w hs hr hV hL⟩
 | succ fuel ih =>
  intro listed a w hs hc hclosed hV hL
  refine ⟨fun hr => finish listed a w hs hr hV hL, fun i hi => ?_⟩
  obtain ⟨V, ha, hG⟩ := hV
  have hi' := List.mem_filter.1 hi
  have hlt : i < ops.size := List.mem_range.1 hi'.1
  have ho : ops[i]? = some ops[i] := Array.getElem?_eq_getElem hlt
  have hready := hi'.2
  rw [ho] at hready
  simp only [Option.map_some, Option.getD_some, Bool.and_eq_true, Bool.not_eq_true'] at hready
  obtain ⟨hun, haft⟩ := hready
  have hdeps : ∀ j, waits ops[i] j = true → listed.getD j true = true := by
   intro j hj
   obtain ⟨e, he, hb⟩ := Array.any_eq_true'.1 hj
   simp only [Bool.and_eq_true, beq_iff_eq] at hb
   have h1 := Array.all_eq_true'.1 haft e he
   rw [hb.1, hb.2] at h1
   simp only [Bool.not_true, Bool.false_or] at h1
   simp only [Array.getD_eq_getD_getElem?] at h1 ⊢
   cases hx : listed[j]? with
   | none => rfl
   | some b => rw [hx] at h1; exact h1
  have hst := hstep i _ ho a w hL
   (fun s hs' => by
    have hold := putS_old (ops := ops) a0 (fun i => listed.getD i true) V s (List.range ops.size) fun k hk o hok hod => by
     have hk' := List.all_eq_true.1 hs' k hk
     rw [hok] at hk'
     simp only [hod, bne_self_eq_false, Bool.false_or] at hk'
     rcases Bool.eq_false_or_eq_true (listed.getD k true) with h | h
     ·have := hclosed k o hok h i hk'
      rw [this] at hun
      cases hun
     ·exact h
    rw [ha]
    show (putS a0 ops _ V _).tmps.getD s undef = a0.tmps.getD s undef
    rw [Array.getD_eq_getD_getElem?, Array.getD_eq_getD_getElem?, hold])
   (fun j x d hj hx hd hsz => by
    have hjlt : j < ops.size := (Array.getElem?_eq_some_iff.1 hx).1
    have hjl := hdeps j (uses_waits hj)
    have := putS_at hw a0 (fun i => listed.getD i true) V j x d hx hd hjl hsz (List.range ops.size) List.nodup_range (List.mem_range.2 hjlt)
    rw [← ha] at this
    exact ⟨V j, hG j hjlt hjl (Or.inr ⟨i, _, ho, hj, hun⟩), this, by show a.tmps.getD d undef = V j; rw [Array.getD_eq_getD_getElem?, this]; rfl⟩)
  have hnext : ∀ (v : Value) (w' : World), Good i v w' → L w w' → (∀ j u, j < ops.size → alive ops ends i j = true → Good j u w → Good j u w') → wpAny P .any ops Q fuel (listed.setIfInBounds i true) (a.put ops[i].dst v) w' := by
   intro v w' hg hLw hkeep
   have hset : ∀ k, (listed.setIfInBounds i true).getD k true = (k == i || listed.getD k true) := by
    intro k
    simp only [Array.getD_eq_getD_getElem?, Array.getElem?_setIfInBounds]
    by_cases e : i = k
    ·subst e
     by_cases h2 : i < listed.size
     ·simp [h2]
     ·simp [h2]
    ·have e' : ¬ k = i := fun h => e h.symm
     simp [e, e']
   refine ih _ _ w' (by simpa using hs) ?_ ?_ ?_ (htrans _ _ _ hL hLw)
   ·have hlow : (List.range ops.size).countP (fun k => !(listed.setIfInBounds i true).getD k true) < (List.range ops.size).countP (fun k => !listed.getD k true) := by
     refine countP_lt ?_ (List.mem_range.2 hlt) (by rw [hset]; simp) (by rw [hun]; rfl)
     intro k _ hk
     rw [hset] at hk
     simp only [Bool.not_eq_true', Bool.or_eq_false_iff] at hk
     rw [hk.2]; rfl
    omega
   ·intro k o hk hkl j hj
    rw [hset] at hkl ⊢
    by_cases e : k = i
    ·subst e
     rw [ho] at hk
     injection hk with hk
     subst hk
     rw [hdeps j hj]; simp
    ·have hkl' : listed.getD k true = true := by simpa [e] using hkl
     rw [hclosed k o hk hkl' j hj]; simp
   ·refine ⟨fun k => if k = i then v else V k, ?_, ?_⟩
    ·have h := putS_more hw a0 (fun k => listed.getD k true) V i v hun (List.range ops.size) List.nodup_range (List.mem_range.2 hlt)
     rw [ha]
     have e : ((ops[i]?).bind (·.dst)) = ops[i].dst := by rw [ho]; rfl
     rw [e] at h
     rw [h]
     exact putS_congr _ _ fun k _ => ⟨(hset k).symm, rfl⟩
    ·intro k hk hkl hlive
     by_cases e : k = i
     ·subst e; simpa using hg
     ·have ev : (fun k => if k = i then v else V k) k = V k := if_neg e
      rw [ev]
      rw [hset] at hkl
      have hkl' : listed.getD k true = true := by simpa [e] using hkl
      have hok : ops[k]? = some ops[k] := Array.getElem?_eq_getElem hk
      have hnk : waits ops[k] i = false := by
       rcases Bool.eq_false_or_eq_true (waits ops[k] i) with h | h
       ·have := hclosed k _ hok hkl' i h
        rw [hun] at this
        cases this
       ·exact h
      rcases hlive with hends | ⟨m, o, hm, hu, hml⟩
      ·exact hkeep k _ hk (by unfold alive; rw [hok, hends]; simp [e, hnk]) (hG k hk hkl' (Or.inl hends))
      ·rw [hset, Bool.or_eq_false_iff] at hml
       have hmi : m ≠ i := by simpa using hml.1
       refine hkeep k _ hk ?_ (hG k hk hkl' (Or.inr ⟨m, o, hm, hu, hml.2⟩))
       have hmlt : m < ops.size := (Array.getElem?_eq_some_iff.1 hm).1
       have hnw : waits ops[i] m = false := by
        rcases Bool.eq_false_or_eq_true (waits ops[i] m) with h | h
        ·have := hdeps m h
         rw [hml.2] at this
         cases this
        ·exact h
       unfold alive
       rw [hok, Bool.and_eq_true, Bool.or_eq_true]
       refine ⟨by simp [e, hnk], Or.inr (List.any_eq_true.2 ⟨m, List.mem_range.2 hmlt, ?_⟩)⟩
       rw [hm, ho]
       simp [hmi, hu, hnw]
  unfold wpOp
  rw [ho]
  simp only []
  split
  ·rename_i hwant
   refine Or.inl (Oper.wp_mono ?_ (hst.1 hwant))
   rintro a' w' ⟨v, rfl, hg, hLw, hkeep⟩
   exact hnext v w' hg hLw hkeep
  ·rename_i hwant
   exact hnext undef w (hst.2 (by simpa using hwant)) (hrefl w) fun _ _ _ _ h => h
/-- Constants read as they are. -/
structure Env (ρ : Operand → Value) : Prop where
 const : ∀ v, ρ (.const v) = v
 global : ∀ g, ρ (.global g) = .pointer (some ⟨g, 0, none⟩)
 func : ∀ f, ρ (.func f) = .func (.func f) #[] #[]
theorem env_of (a : Act) : Env a.eval := ⟨fun _ => rfl, fun _ => rfl, fun _ => rfl⟩
def slot (ops : Array Oper) (j : Nat) : Option Nat := (ops[j]?).bind (·.dst)
/-- What an operation comes to: a value, nothing, or a call that returns a value. -/
def Gives (P : Program) (ρ : Operand → Value) (o : Oper) (w : World) (R : Value → World → Prop) : Prop :=
 (∃ v w', (execOp ρ o).run P w = .ok (.value v) w' ∧ R v w') ∨ (∃ w', (execOp ρ o).run P w = .ok .skip w' ∧ R undef w') ∨
 (∃ f args w', (execOp ρ o).run P w = .ok (.enter f args) w' ∧ Calls P f args w' fun e w'' => ∃ v, e = .returned v ∧ R v w'')
theorem Gives.value {ρ : Operand → Value} {o : Oper} {w w' : World} {R : Value → World → Prop} {v : Value} (h : (execOp ρ o).run P w = .ok (.value v) w') (hR : R v w') : Gives P ρ o w R := Or.inl ⟨v, w', h, hR⟩
theorem Gives.skip {ρ : Operand → Value} {o : Oper} {w w' : World} {R : Value → World → Prop} (h : (execOp ρ o).run P w = .ok .skip w') (hR : R undef w') : Gives P ρ o w R := Or.inr (Or.inl ⟨w', h, hR⟩)
theorem Gives.call {ρ : Operand → Value} {o : Oper} {w w' : World} {R : Value → World → Prop} {f : FuncId} {args : Array Value} (h : (execOp ρ o).run P w = .ok (.enter f args) w') (hR : Calls P f args w' fun e w'' => ∃ v, e = .returned v ∧ R v w'') : Gives P ρ o w R :=
 Or.inr (Or.inr ⟨f, args, w', h, hR⟩)
/-- What is owed for a value. -/
structure Res (ops : Array Oper) (ends : List Nat) (Good : Nat → Value → World → Prop) (L : World → World → Prop) (i : Nat) (w : World) (v : Value) (w' : World) : Prop where
 good : Good i v w'
 later : L w w'
 keep : ∀ j u, j < ops.size → alive ops ends i j = true → Good j u w → Good j u w'
theorem Res.same {ends : List Nat} {Good : Nat → Value → World → Prop} {L : World → World → Prop} {i : Nat} {w : World} {v : Value} (hL : ∀ a, L a a) (h : Good i v w) : Res ops ends Good L i w v w := ⟨h, hL w, fun _ _ _ _ h => h⟩
/-- WHAT IS OWED FOR OPERATION i, in words of its operands alone. -/
def Step (P : Program) (ops : Array Oper) (a0 : Act) (w0 : World) (ends : List Nat) (Good : Nat → Value → World → Prop) (L : World → World → Prop) (i : Nat) (o : Oper) : Prop :=
 ∀ (ρ : Operand → Value) (w : World), Env ρ → L w0 w → (∀ s, unwritten ops i s = true → ρ (.tmp s) = a0.eval (.tmp s)) →
  (∀ j d, uses o j = true → slot ops j = some d → d < a0.tmps.size → ∃ v, Good j v w ∧ ρ (.tmp d) = v) →
  match o.guard with
  | none => Gives P ρ o w (Res ops ends Good L i w)
  | some (g, b) => ∀ u, Good g u w → (u = .bool b → Gives P ρ o w (Res ops ends Good L i w)) ∧ (u ≠ .bool b → Good i undef w)
theorem gives_wp {o : Oper} {a : Act} {w : World} {R : Value → World → Prop} (h : Gives P a.eval o w R) : o.wp P a w (fun a' w' => ∃ v, a' = a.put o.dst v ∧ R v w') Q := by
 unfold Oper.wp
 rcases h with ⟨v, w', h, hR⟩ | ⟨w', h, hR⟩ | ⟨f, args, w', h, hR⟩
 ·rw [h]; exact ⟨v, rfl, hR⟩
 ·rw [h]; exact ⟨_, rfl, hR⟩
 ·rw [h]
  refine Calls.mono hR ?_
  rintro e w'' ⟨v, rfl, hR⟩
  exact ⟨v, rfl, hR⟩
/-- Guards are operations that are used, and write a slot. -/
def guardsB (ops : Array Oper) (n : Nat) : Bool :=
 (List.range ops.size).all fun i => match ops[i]? with
  | some o => (match o.guard with
   | some (g, _) => uses o g && (match slot ops g with | some d => decide (d < n) | none => false)
   | none => true)
  | none => true
theorem stepA_of {a0 : Act} {w0 : World} {ends : List Nat} {Good : Nat → Value → World → Prop} {L : World → World → Prop} {i : Nat} {o : Oper} (ho : ops[i]? = some o) (hg : guardsB ops a0.tmps.size = true)
  (h : Step P ops a0 w0 ends Good L i o) : StepA P ops Q a0 w0 ends Good L i o := by
 intro a w hL hs hd
 have hd' : ∀ j d, uses o j = true → slot ops j = some d → d < a0.tmps.size → ∃ v, Good j v w ∧ a.eval (.tmp d) = v := by
  intro j d hu hsl hsz
  obtain ⟨x, hx, hxd⟩ := Option.bind_eq_some_iff.1 hsl
  obtain ⟨v, g, _, e⟩ := hd j x d hu hx hxd hsz
  exact ⟨v, g, e⟩
 have h1 := h a.eval w (env_of a) hL hs hd'
 have conv : Gives P a.eval o w (Res ops ends Good L i w) → o.wp P a w (fun a' w' => ∃ v, a' = a.put o.dst v ∧ Good i v w' ∧ L w w' ∧ ∀ j u, j < ops.size → alive ops ends i j = true → Good j u w → Good j u w') Q := fun hh => by
  refine Oper.wp_mono ?_ (gives_wp (Q := Q) hh)
  rintro a' w' ⟨v, e, hr⟩
  exact ⟨v, e, hr.good, hr.later, hr.keep⟩
 cases hgd : o.guard with
 | none =>
  rw [hgd] at h1
  refine ⟨fun _ => conv h1, fun hw => ?_⟩
  have : Region.wanted o (yielded ops a.tmps) = true := by simp [Region.wanted, hgd]
  rw [this] at hw
  cases hw
 | some gb =>
  obtain ⟨g, b⟩ := gb
  rw [hgd] at h1
  have hlt : i < ops.size := (Array.getElem?_eq_some_iff.1 ho).1
  have h2 := List.all_eq_true.1 hg i (List.mem_range.2 hlt)
  rw [ho] at h2
  simp only [hgd, Bool.and_eq_true] at h2
  obtain ⟨hu, h3⟩ := h2
  cases hsl : slot ops g with
  | none => rw [hsl] at h3; cases h3
  | some d =>
   rw [hsl] at h3
   obtain ⟨x, hx, hxd⟩ := Option.bind_eq_some_iff.1 hsl
   obtain ⟨v, hgood, hat, _⟩ := hd g x d hu hx hxd (of_decide_eq_true h3)
   have h4 := h1 v hgood
   have hw : Region.wanted o (yielded ops a.tmps) = true ↔ v = .bool b := by
    simp only [Region.wanted, hgd, yielded, hx, Option.bind_some, hxd, hat]
    cases v with
    | bool c => simp
    | _ => simp
   refine ⟨fun hh => conv (h4.1 (hw.1 hh)), fun hh => h4.2 fun e => ?_⟩
   have := hw.2 e
   rw [hh] at this
   cases this
/-- THE RULE. -/
theorem region {id : Nat} {a0 : Act} {w : World} (hm : P.follows .mixedOrders = true) (ends : List Nat) (Good : Nat → Value → World → Prop) (L : World → World → Prop) (hw : wellB ops = true) (hg : guardsB ops a0.tmps.size = true)
  (hrefl : ∀ a, L a a) (htrans : ∀ a b c, L a b → L b c → L a c)
  (hstep : ∀ i o, ops[i]? = some o → Step P ops a0 w.drew ends Good L i o)
  (hend : ∀ (V : Nat → Value) (w' : World), (∀ i, i < ops.size → ends.contains i = true → Good i (V i) w') → L w.drew w' → Q .normal (putS a0 ops (fun _ => true) V (List.range ops.size)) w') :
  (Code.region id ops true).wp P Q a0 w := by
 refine wp_region_any hm ?_
 refine any_of hw hrefl htrans (fun i o ho => stepA_of ho hg (hstep i o ho)) hend ops.size _ _ _ (by simp) ?_ ?_ ⟨fun _ => undef, ?_, ?_⟩ (hrefl _)
 ·exact Nat.le_trans List.countP_le_length (by simp)
 ·intro i o hi hl
  have hlt : i < ops.size := (Array.getElem?_eq_some_iff.1 hi).1
  rw [Array.getD_eq_getD_getElem?] at hl
  simp [hlt] at hl
 ·have e : ∀ (l : List Nat), (∀ k ∈ l, k < ops.size) → putS a0 ops (fun i => (Array.replicate ops.size false).getD i true) (fun _ => undef) l = a0 := by
   intro l
   induction l with
   | nil => intro _; rfl
   | cons k l ih =>
    intro h
    have hk := h k (List.mem_cons_self ..)
    show putS (put1 ops _ _ a0 k) ops _ _ l = a0
    have e1 : put1 ops (fun i => (Array.replicate ops.size false).getD i true) (fun _ => undef) a0 k = a0 := by
     unfold put1
     rw [if_neg]
     simp [hk]
    rw [e1]
    exact ih fun j hj => h j (List.mem_cons_of_mem _ hj)
  exact (e _ fun k hk => List.mem_range.1 hk).symm
 ·intro i hi hl _
  simp [hi] at hl
/-- The frame with these slots written. -/
def putsV (a : Act) (ps : List (Tmp × Value)) : Act := ps.foldl (fun a p => a.put (some p.1) p.2) a
end
end Go.Proofs.Ytjeogeablbkhgaa.Reg
