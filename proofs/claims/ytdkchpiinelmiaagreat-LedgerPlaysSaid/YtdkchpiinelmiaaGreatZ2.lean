/- Part 2 of the proof. Conditions: none. -/
import Derived.Test.YtdkchpiinelmiaaGreatZ1
namespace Go.Proofs.YtdkchpiinelmiaaGreat.N
open Go.RowKit
def upd (D : Nat -> Bool) (i : Nat) : Nat -> Bool := fun k => k == i || D k
section
variable {P : Program} {ops : Array Oper} {Q : Exit -> Act -> World -> Prop}
def KS (P : Program) (ops : Array Oper) (Q : Exit -> Act -> World -> Prop) (a0 : Act) (ends : List Nat) (Good : Nat -> Value -> World -> Prop) (I : (Nat -> Bool) -> World -> Prop) (i : Nat) (o : Oper) : Prop :=
 ∀ (D : Nat -> Bool) (a : Act) (w : World), I D w -> D i = false -> (∀ j, waits o j = true -> D j = true) -> (∀ s, unwritten ops i s = true -> a.eval (.tmp s) = a0.eval (.tmp s)) ->
  (∀ j x d, uses o j = true -> ops[j]? = some x -> x.dst = some d -> d < a0.tmps.size -> ∃ v, Good j v w /\ a.tmps[d]? = some v /\ a.eval (.tmp d) = v) ->
  (Region.wanted o (yielded ops a.tmps) = true -> o.wp P a w (fun a' w' => ∃ v, a' = a.put o.dst v /\ Good i v w' /\ I (upd D i) w' /\ ∀ j u, j < ops.size -> alive ops ends i j = true -> Good j u w -> Good j u w') Q) /\ (Region.wanted o (yielded ops a.tmps) = false -> Good i undef w /\ I (upd D i) w)
theorem IL {a0 : Act} {ends : List Nat} {Good : Nat -> Value -> World -> Prop} {I : (Nat -> Bool) -> World -> Prop} (hw : kr ops = true)
  (hstep : ∀ i o, ops[i]? = some o -> KS P ops Q a0 ends Good I i o)
  (hend : ∀ (V : Nat -> Value) (w : World), (∀ i, i < ops.size -> ends.contains i = true -> Good i (V i) w) -> I (fun _ => true) w -> Q .normal (eu a0 ops (fun _ => true) V (List.range ops.size)) w) :
  ∀ (fuel : Nat) (listed : Array Bool) (a : Act) (w : World), listed.size = ops.size -> (List.range ops.size).countP (fun i => !listed.getD i true) <= fuel ->
   (∀ i o, ops[i]? = some o -> listed.getD i true = true -> ∀ j, waits o j = true -> listed.getD j true = true) ->
   (∃ V : Nat -> Value, a = eu a0 ops (fun i => listed.getD i true) V (List.range ops.size) /\ ∀ i, i < ops.size -> listed.getD i true = true -> Live ops ends listed i -> Good i (V i) w) -> I (fun i => listed.getD i true) w ->
   wpAny P .any ops Q fuel listed a w := by
 intro fuel; have finish : ∀ (listed : Array Bool) (a : Act) (w : World), listed.size = ops.size -> Region.ready .any ops listed = [] ->
   (∃ V : Nat -> Value, a = eu a0 ops (fun i => listed.getD i true) V (List.range ops.size) /\ ∀ i, i < ops.size -> listed.getD i true = true -> Live ops ends listed i -> Good i (V i) w) -> I (fun i => listed.getD i true) w -> Q .normal a w := by
  intro listed a w hs hr hV hL; obtain ⟨V, rfl, hG⟩ := hV; have hall := uU hw hr hs; have e : eu a0 ops (fun i => listed.getD i true) V (List.range ops.size) = eu a0 ops (fun _ => true) V (List.range ops.size) :=
   gQ _ _ fun i hi => ⟨hall i (List.mem_range.1 hi), rfl⟩
  rw [e]; have eD : (fun i => listed.getD i true) = fun _ => true := by
   funext i
   by_cases hi : i < ops.size
   ·exact hall i hi
   rw [Array.getD_eq_getD_getElem?, Array.getElem?_eq_none (by omega)]; rfl
  rw [eD] at hL; exact hend V w (fun i hi he => hG i hi (hall i hi) (Or.inl he)) hL
 induction fuel with
 | zero =>
  intro listed a w hs hc _ hV hL; have hr : Region.ready .any ops listed = [] := by
   have h0 := List.countP_eq_zero.1 (Nat.le_zero.1 hc); unfold Region.ready; refine List.filter_eq_nil_iff.2 fun i hi => ?_
   have := h0 i hi; intro h; rw [Bool.and_eq_true] at h; exact this h.1
  exact ⟨hr, finish listed a w hs hr hV hL⟩
 | succ fuel ih =>
  intro listed a w hs hc jW hV hL; refine ⟨fun hr => finish listed a w hs hr hV hL, fun i hi => ?_⟩; obtain ⟨V, ha, hG⟩ := hV; have hi' := List.mem_filter.1 hi; have hlt : i < ops.size := List.mem_range.1 hi'.1; have ho : ops[i]? = some ops[i] := Array.getElem?_eq_getElem hlt; have lG := hi'.2; rw [ho] at lG; simp only [Option.map_some, Option.getD_some, Bool.and_eq_true, Bool.not_eq_true'] at lG; obtain ⟨hun, SV⟩ := lG; have qY : ∀ j, waits ops[i] j = true -> listed.getD j true = true := by
   intro j hj; obtain ⟨e, he, hb⟩ := Array.any_eq_true'.1 hj; simp only [Bool.and_eq_true, beq_iff_eq] at hb; have h1 := Array.all_eq_true'.1 SV e he; rw [hb.1, hb.2] at h1; simp only [Bool.not_true, Bool.false_or] at h1; simp only [Array.getD_eq_getD_getElem?] at h1 ⊢
   cases hx : listed[j]? with
   | none => rfl
   | some b => rw [hx] at h1; exact h1
  have hst := hstep i _ ho (fun i => listed.getD i true) a w hL hun qY
   (fun s hs' => by
    have hold := xI (ops := ops) a0 (fun i => listed.getD i true) V s (List.range ops.size) fun k hk o hok KW => by
     have hk' := List.all_eq_true.1 hs' k hk; rw [hok] at hk'; simp only [KW, bne_self_eq_false, Bool.false_or] at hk'; rcases Bool.eq_false_or_eq_true (listed.getD k true) with h | h
     ·have := jW k o hok h i hk'
      rw [this] at hun
      cases hun
     exact h
    rw [ha]; show (eu a0 ops _ V _).tmps.getD s undef = a0.tmps.getD s undef
    rw [Array.getD_eq_getD_getElem?, Array.getD_eq_getD_getElem?, hold])
   (fun j x d hj hx hd hsz => by
    have Ju : j < ops.size := (Array.getElem?_eq_some_iff.1 hx).1; have hjl := qY j (lK hj); have := Bz hw a0 (fun i => listed.getD i true) V j x d hx hd hjl hsz (List.range ops.size) List.nodup_range (List.mem_range.2 Ju); rw [<- ha] at this; exact ⟨V j, hG j Ju hjl (Or.inr ⟨i, _, ho, hj, hun⟩), this, by show a.tmps.getD d undef = V j; rw [Array.getD_eq_getD_getElem?, this]; rfl⟩)
  have hnext : ∀ (v : Value) (w' : World), Good i v w' -> I (upd (fun i => listed.getD i true) i) w' -> (∀ j u, j < ops.size -> alive ops ends i j = true -> Good j u w -> Good j u w') -> wpAny P .any ops Q fuel (listed.setIfInBounds i true) (a.put ops[i].dst v) w' := by
   intro v w' hg K7 Bp; have eZ : ∀ k, (listed.setIfInBounds i true).getD k true = (k == i || listed.getD k true) := by
    intro k; simp only [Array.getD_eq_getD_getElem?, Array.getElem?_setIfInBounds]
    by_cases e : i = k
    ·subst e
     by_cases h2 : i < listed.size
     ·simp [h2]
     simp [h2]
    have e' : ¬ k = i := fun h => e h.symm
    simp [e, e']
   refine ih _ _ w' (by simpa using hs) ?_ ?_ ?_ ((funext eZ : (fun k => (listed.setIfInBounds i true).getD k true) = upd (fun i => listed.getD i true) i) ▸ K7)
   ·have fO : (List.range ops.size).countP (fun k => !(listed.setIfInBounds i true).getD k true) < (List.range ops.size).countP (fun k => !listed.getD k true) := by
     refine vk ?_ (List.mem_range.2 hlt) (by rw [eZ]; simp) (by rw [hun]; rfl); intro k _ hk; rw [eZ] at hk; simp only [Bool.not_eq_true', Bool.or_eq_false_iff] at hk; rw [hk.2]; rfl
    omega
   ·intro k o hk hkl j hj
    rw [eZ] at hkl ⊢
    by_cases e : k = i
    ·subst e
     rw [ho] at hk
     injection hk with hk
     subst hk; rw [qY j hj]; simp
    have zI : listed.getD k true = true := by simpa [e] using hkl
    rw [jW k o hk zI j hj]; simp
   refine ⟨fun k => if k = i then v else V k, ?_, ?_⟩
   ·have h := qF hw a0 (fun k => listed.getD k true) V i v hun (List.range ops.size) List.nodup_range (List.mem_range.2 hlt)
    rw [ha]; have e : ((ops[i]?).bind (·.dst)) = ops[i].dst := by rw [ho]; rfl
    rw [e] at h; rw [h]; exact gQ _ _ fun k _ => ⟨(eZ k).symm, rfl⟩
   intro k hk hkl WW
   by_cases e : k = i
   ·subst e; simpa using hg
   have ev : (fun k => if k = i then v else V k) k = V k := if_neg e
   rw [ev]; rw [eZ] at hkl; have zI : listed.getD k true = true := by simpa [e] using hkl
   have hok : ops[k]? = some ops[k] := Array.getElem?_eq_getElem hk; have hnk : waits ops[k] i = false := by
    rcases Bool.eq_false_or_eq_true (waits ops[k] i) with h | h
    ·have := jW k _ hok zI i h
     rw [hun] at this
     cases this
    exact h
   rcases WW with KN | ⟨m, o, hm, hu, hml⟩
   ·exact Bp k _ hk (by unfold alive; rw [hok, KN]; simp [e, hnk]) (hG k hk zI (Or.inl KN))
   rw [eZ, Bool.or_eq_false_iff] at hml
   have hmi : m ≠ i := by simpa using hml.1
   refine Bp k _ hk ?_ (hG k hk zI (Or.inr ⟨m, o, hm, hu, hml.2⟩)); have Zj : m < ops.size := (Array.getElem?_eq_some_iff.1 hm).1; have DA : waits ops[i] m = false := by
    rcases Bool.eq_false_or_eq_true (waits ops[i] m) with h | h
    ·have := qY m h
     rw [hml.2] at this
     cases this
    exact h
   unfold alive; rw [hok, Bool.and_eq_true, Bool.or_eq_true]; refine ⟨by simp [e, hnk], Or.inr (List.any_eq_true.2 ⟨m, List.mem_range.2 Zj, ?_⟩)⟩; rw [hm, ho]
   simp [hmi, hu, DA]
  unfold wpOp; rw [ho]; simp only []
  split
  ·rename_i hwant
   refine Or.inl (Oper.wp_mono ?_ (hst.1 hwant)); rintro a' w' ⟨v, rfl, hg, K7, Bp⟩; exact hnext v w' hg K7 Bp
  rename_i hwant
  exact hnext undef w (hst.2 (by simpa using hwant)).1 (hst.2 (by simpa using hwant)).2 fun _ _ _ _ h => h
structure JF (ops : Array Oper) (ends : List Nat) (Good : Nat -> Value -> World -> Prop) (I : (Nat -> Bool) -> World -> Prop) (D : Nat -> Bool) (i : Nat) (w : World) (v : Value) (w' : World) : Prop where
 good : Good i v w'
 later : I (upd D i) w'
 keep : ∀ j u, j < ops.size -> alive ops ends i j = true -> Good j u w -> Good j u w'
def KR (P : Program) (ops : Array Oper) (a0 : Act) (ends : List Nat) (Good : Nat -> Value -> World -> Prop) (I : (Nat -> Bool) -> World -> Prop) (i : Nat) (o : Oper) : Prop :=
 ∀ (D : Nat -> Bool) (ρ : Operand -> Value) (w : World), Env ρ -> I D w -> D i = false -> (∀ j, waits o j = true -> D j = true) -> (∀ s, unwritten ops i s = true -> ρ (.tmp s) = a0.eval (.tmp s)) ->
  (∀ j d, uses o j = true -> slot ops j = some d -> d < a0.tmps.size -> ∃ v, Good j v w /\ ρ (.tmp d) = v) ->
  match o.guard with
  | none => Gives P ρ o w (JF ops ends Good I D i w)
  | some (g, b) => ∀ u, Good g u w -> (u = .bool b -> Gives P ρ o w (JF ops ends Good I D i w)) /\ (u ≠ .bool b -> Good i undef w /\ I (upd D i) w)
theorem G6 {a0 : Act} {ends : List Nat} {Good : Nat -> Value -> World -> Prop} {I : (Nat -> Bool) -> World -> Prop} {i : Nat} {o : Oper} (ho : ops[i]? = some o) (hg : mz ops a0.tmps.size = true)
  (h : KR P ops a0 ends Good I i o) : KS P ops Q a0 ends Good I i o := by
 intro D a w hL cP Je hs hd; have hd' : ∀ j d, uses o j = true -> slot ops j = some d -> d < a0.tmps.size -> ∃ v, Good j v w /\ a.eval (.tmp d) = v := by
  intro j d hu hsl hsz; obtain ⟨x, hx, FJ⟩ := Option.bind_eq_some_iff.1 hsl; obtain ⟨v, g, _, e⟩ := hd j x d hu hx FJ hsz; exact ⟨v, g, e⟩
 have h1 := h D a.eval w (GU a) hL cP Je hs hd'; have conv : Gives P a.eval o w (JF ops ends Good I D i w) -> o.wp P a w (fun a' w' => ∃ v, a' = a.put o.dst v /\ Good i v w' /\ I (upd D i) w' /\ ∀ j u, j < ops.size -> alive ops ends i j = true -> Good j u w -> Good j u w') Q := fun hh => by
  refine Oper.wp_mono ?_ (xV (Q := Q) hh); rintro a' w' ⟨v, e, hr⟩; exact ⟨v, e, hr.good, hr.later, hr.keep⟩
 cases hgd : o.guard with
 | none =>
  rw [hgd] at h1; refine ⟨fun _ => conv h1, fun hw => ?_⟩; have : Region.wanted o (yielded ops a.tmps) = true := by simp [Region.wanted, hgd]
  rw [this] at hw
  cases hw
 | some gb =>
  obtain ⟨g, b⟩ := gb; rw [hgd] at h1; have hlt : i < ops.size := (Array.getElem?_eq_some_iff.1 ho).1; have h2 := List.all_eq_true.1 hg i (List.mem_range.2 hlt); rw [ho] at h2; simp only [hgd, Bool.and_eq_true] at h2; obtain ⟨hu, h3⟩ := h2
  cases hsl : slot ops g with
  | none => rw [hsl] at h3; cases h3
  | some d =>
   rw [hsl] at h3; obtain ⟨x, hx, FJ⟩ := Option.bind_eq_some_iff.1 hsl; obtain ⟨v, WY, hat, _⟩ := hd g x d hu hx FJ (of_decide_eq_true h3); have h4 := h1 v WY; have hw : Region.wanted o (yielded ops a.tmps) = true ↔ v = .bool b := by
    simp only [Region.wanted, hgd, yielded, hx, Option.bind_some, FJ, hat]
    cases v with
    | bool c => simp
    | _ => simp
   refine ⟨fun hh => conv (h4.1 (hw.1 hh)), fun hh => h4.2 fun e => ?_⟩; have := hw.2 e; rw [hh] at this
   cases this
theorem yA {id : Nat} {a0 : Act} {w : World} (hm : P.follows .mixedOrders = true) (ends : List Nat) (Good : Nat -> Value -> World -> Prop) (I : (Nat -> Bool) -> World -> Prop) (hw : kr ops = true) (hg : mz ops a0.tmps.size = true)
  (sJ : I (fun i => !decide (i < ops.size)) w.drew)
  (hstep : ∀ i o, ops[i]? = some o -> KR P ops a0 ends Good I i o)
  (hend : ∀ (V : Nat -> Value) (w' : World), (∀ i, i < ops.size -> ends.contains i = true -> Good i (V i) w') -> I (fun _ => true) w' -> Q .normal (eu a0 ops (fun _ => true) V (List.range ops.size)) w') :
  (Code.region id ops true).wp P Q a0 w := by
 refine wp_region_any hm ?_; refine IL hw (fun i o ho => G6 ho hg (hstep i o ho)) hend ops.size _ _ _ (by simp) ?_ ?_ ⟨fun _ => undef, ?_, ?_⟩ ?_
 ·exact Nat.le_trans List.countP_le_length (by simp)
 ·intro i o hi hl
  have hlt : i < ops.size := (Array.getElem?_eq_some_iff.1 hi).1; rw [Array.getD_eq_getD_getElem?] at hl
  simp [hlt] at hl
 ·have e : ∀ (l : List Nat), (∀ k ∈ l, k < ops.size) -> eu a0 ops (fun i => (Array.replicate ops.size false).getD i true) (fun _ => undef) l = a0 := by
   intro l
   induction l with
   | nil => intro _; rfl
   | cons k l ih =>
    intro h; have hk := h k (List.mem_cons_self ..); show eu (ey ops _ _ a0 k) ops _ _ l = a0
    have e1 : ey ops (fun i => (Array.replicate ops.size false).getD i true) (fun _ => undef) a0 k = a0 := by
     unfold ey; rw [if_neg]
     simp [hk]
    rw [e1]; exact ih fun j hj => h j (List.mem_cons_of_mem _ hj)
  exact (e _ fun k hk => List.mem_range.1 hk).symm
 ·intro i hi hl _
  simp [hi] at hl
 have e : (fun i => (Array.replicate ops.size false).getD i true) = fun i => !decide (i < ops.size) := by
  funext i
  rw [Array.getD_eq_getD_getElem?]
  by_cases hi : i < ops.size
  ·simp [hi]
  simp [hi]
 rw [e]; exact sJ
theorem Gives.mono {ρ : Operand -> Value} {o : Oper} {w : World} {R R' : Value -> World -> Prop} (h : Gives P ρ o w R) (hr : ∀ v w', R v w' -> R' v w') : Gives P ρ o w R' := by
 rcases h with ⟨v, w', h1, h2⟩ | ⟨w', h1, h2⟩ | ⟨f, args, w', h1, h2⟩
 ·exact Gives.value h1 (hr _ _ h2)
 ·exact Gives.skip h1 (hr _ _ h2)
 refine Gives.call h1 (Calls.mono h2 ?_)
 rintro e w'' ⟨v, rfl, h3⟩; exact ⟨v, rfl, hr _ _ h3⟩
theorem cH {ρ : Operand -> Value} {o : Oper} {w w' : World} {s x : Operand} {t u : TypeId} {v y v' : Value} (ho : o.op = .call { callee := .builtin .append, args := #[s, x], argTypes := #[t, u] })
  (hs : ρ s = v) (hx : ρ x = y) (hr : (Builtin.append_ #[t, u] o.type #[v, y]).run P w = .ok v' w') : (execOp ρ o).run P w = .ok (.value v') w' := by
 unfold execOp; simp only [ho, resolve, invoke, builtin, Sem.run_bind, Sem.run_pure, Result.andThen_ok, List.map_toArray, List.map_cons, List.map_nil, hs, hx, hr]
end
section
variable {P : Program} {ops : Array Oper} {Q : Exit -> Act -> World -> Prop}
def gU (ops : Array Oper) (i j : Nat) : Bool := match ops[i]? with | some o => waits o j | none => false
def jU (ops : Array Oper) (h : Nat) : Bool :=
  decide (h < ops.size) && ((List.range h).all fun j => (List.range (h + 1)).any fun k => decide (j < k) && gU ops k j) &&
  ((List.range ops.size).all fun i => decide (i <= h) || (List.range i).any fun k => decide (h <= k) && gU ops i k)
def Closed (ops : Array Oper) (D : Nat -> Bool) : Prop := ∀ k, k < ops.size -> D k = true -> ∀ j, gU ops k j = true -> D j = true
theorem tF {h : Nat} (hh : jU ops h = true) {D : Nat -> Bool} (hc : Closed ops D) (hD : D h = true) : ∀ n j, j <= h -> h - j <= n -> D j = true := by
  simp only [jU, Bool.and_eq_true, decide_eq_true_eq] at hh; intro n
  induction n with
  | zero =>
    intro j hj hn; obtain rfl : j = h := by omega
    exact hD
  | succ n ih =>
    intro j hj hn
    by_cases e : j = h
    · subst e; exact hD
    have h1 := List.all_eq_true.1 hh.1.2 j (List.mem_range.2 (by omega))
    obtain ⟨k, hk, hk2⟩ := List.any_eq_true.1 h1; simp only [Bool.and_eq_true, decide_eq_true_eq] at hk2; have hkl := List.mem_range.1 hk; exact hc k (by omega) (ih k (by omega) (by omega)) j hk2.2
theorem xU {h : Nat} (hh : jU ops h = true) {D : Nat -> Bool} (hc : Closed ops D) : ∀ n i, i <= n -> h <= i -> i < ops.size -> D i = true -> D h = true := by
  simp only [jU, Bool.and_eq_true, decide_eq_true_eq] at hh; intro n
  induction n with
  | zero =>
    intro i hi hle _ hD; obtain rfl : i = h := by omega
    exact hD
  | succ n ih =>
    intro i hi hle hlt hD
    by_cases e : i = h
    · subst e; exact hD
    have h1 := List.all_eq_true.1 hh.2 i (List.mem_range.2 hlt)
    simp only [Bool.or_eq_true, decide_eq_true_eq] at h1; rcases h1 with h1 | h1
    · omega
    obtain ⟨k, hk, hk2⟩ := List.any_eq_true.1 h1
    simp only [Bool.and_eq_true, decide_eq_true_eq] at hk2; have hkl := List.mem_range.1 hk; exact ih k (by omega) hk2.1 (by omega) (hc i hlt hD k hk2.2)
structure bA (ops : Array Oper) (ends : List Nat) (Good : Nat -> Value -> World -> Prop) (h : Nat) (L Post : World -> Prop) (i : Nat) (w : World) (v : Value) (w' : World) : Prop where
  good : Good i v w'
  state : cond (Nat.blt i h) (L w') (Post w')
  keep : ∀ j u, j < ops.size -> alive ops ends i j = true -> Good j u w -> Good j u w'
theorem bA.same {ends : List Nat} {Good : Nat -> Value -> World -> Prop} {h : Nat} {L Post : World -> Prop} {i : Nat} {w : World} {v : Value} (hs : cond (Nat.blt i h) (L w) (Post w)) (hg : Good i v w) : bA ops ends Good h L Post i w v w := ⟨hg, hs, fun _ _ _ _ h => h⟩
theorem gw {ρ : Operand -> Value} {o : Oper} {ends : List Nat} {Good : Nat -> Value -> World -> Prop} {h : Nat} {L Post : World -> Prop} {i : Nat} {w : World} {v : Value} (hs : cond (Nat.blt i h) (L w) (Post w)) (hg : Good i v w := by exact rfl) (he : (execOp ρ o).run P w = .ok (.value v) w := by go_simp) : Gives P ρ o w (bA ops ends Good h L Post i w) := Gives.value he (bA.same hs hg)
theorem gi {ρ : Operand -> Value} {o : Oper} {w : World} {R : Value -> World -> Prop} (v : Value) (hR : R v w) (he : (execOp ρ o).run P w = .ok (.value v) w := by go_simp) : Gives P ρ o w R := Gives.value he hR
theorem oi {a b : Value} : some b = some a -> b = a := Option.some.inj
theorem no {ρ : Operand -> Value} {o : Oper} {ends : List Nat} {Good : Nat -> Value -> World -> Prop} {h : Nat} {L Post : World -> Prop} {i g : Nat} {b : Bool} {w : World} (hs : cond (Nat.blt i h) (L w) (Post w)) (hc : ∀ u, Good g u w -> u ≠ .bool b := by intro u h1 h2; have h3 := Eq.trans (Eq.symm h1) h2; cases h3) (hg : Good i undef w := by exact rfl) :
    ∀ u, Good g u w -> (u = .bool b -> Gives P ρ o w (bA ops ends Good h L Post i w)) /\ (u ≠ .bool b -> Good i undef w /\ cond (Nat.blt i h) (L w) (Post w)) := fun u hu => ⟨fun e => absurd e (hc u hu), fun _ => ⟨hg, hs⟩⟩
theorem yes {ρ : Operand -> Value} {o : Oper} {ends : List Nat} {Good : Nat -> Value -> World -> Prop} {h : Nat} {L Post : World -> Prop} {i g : Nat} {b : Bool} {w : World} (hv : Gives P ρ o w (bA ops ends Good h L Post i w)) (hc : ∀ u, Good g u w -> u = .bool b := by exact fun _ h => h) :
    ∀ u, Good g u w -> (u = .bool b -> Gives P ρ o w (bA ops ends Good h L Post i w)) /\ (u ≠ .bool b -> Good i undef w /\ cond (Nat.blt i h) (L w) (Post w)) := fun u hu => ⟨fun _ => hv, fun e => absurd (hc u hu) e⟩
def KQ (P : Program) (ops : Array Oper) (a0 : Act) (ends : List Nat) (Good : Nat -> Value -> World -> Prop) (h : Nat) (L Post : World -> Prop) (i : Nat) (o : Oper) : Prop :=
  ∀ (ρ : Operand -> Value) (w : World), Env ρ -> cond (Nat.ble i h) (L w) (Post w) -> (∀ s, ∀ (_ : unwritten ops i s = true := by kernel_rfl), ρ (.tmp s) = a0.eval (.tmp s)) ->
    (∀ j d, ∀ (_ : uses o j = true := by kernel_rfl) (_ : slot ops j = some d := by kernel_rfl) (_ : d < a0.tmps.size := by exact of_decide_eq_true (by kernel_rfl)), ∃ v, Good j v w /\ ρ (.tmp d) = v) ->
    match o.guard with
    | none => Gives P ρ o w (bA ops ends Good h L Post i w)
    | some (g, b) => ∀ u, Good g u w -> (u = .bool b -> Gives P ρ o w (bA ops ends Good h L Post i w)) /\ (u ≠ .bool b -> Good i undef w /\ cond (Nat.blt i h) (L w) (Post w))
def aP (a : Act) (ps : List (Option Tmp × Value)) : Act := ps.foldl (fun a p => a.put p.1 p.2) a
theorem tB (a0 : Act) (V : Nat -> Value) (ps : List (Option Tmp × Value)) (h : (List.range ops.size).map (fun i => ((ops[i]?).bind (·.dst), V i)) = ps) :
    eu a0 ops (fun _ => true) V (List.range ops.size) = aP a0 ps := by
  have e1 : ∀ (l : List Nat) (a : Act), eu a ops (fun _ => true) V l = (l.map fun i => ((ops[i]?).bind (·.dst), V i)).foldl (fun a p => a.put p.1 p.2) a := by
    intro l
    induction l with
    | nil => intro _; rfl
    | cons i l ih =>
      intro a; show eu (ey ops _ _ a i) ops _ _ l = _
      rw [ih]
      rfl
  rw [e1, h]
  rfl
theorem fI {id : Nat} {a0 : Act} {w : World} (hm : P.follows .mixedOrders = true) (h : Nat) (ends : List Nat) (Good : Nat -> Value -> World -> Prop) (L Post : World -> Prop) (ps : (Nat -> Value) -> List (Option Tmp × Value))
    (hw : kr ops = true) (hg : mz ops a0.tmps.size = true) (hh : jU ops h = true)
    (hps : ∀ V, (List.range ops.size).map (fun i => ((ops[i]?).bind (·.dst), V i)) = ps V)
    (sJ : L w.drew)
    (hstep : ∀ i o, ops[i]? = some o -> KQ P ops a0 ends Good h L Post i o)
    (hend : ∀ (V : Nat -> Value) (w' : World), (∀ i, i < ops.size -> ends.contains i = true -> Good i (V i) w') -> Post w' -> Q .normal (aP a0 (ps V)) w') :
    (Code.region id ops true).wp P Q a0 w := by
  have hlt : h < ops.size := by
    have h1 := hh; simp only [jU, Bool.and_eq_true, decide_eq_true_eq] at h1; exact h1.1.1
  refine yA hm ends Good (fun D w' => Closed ops D /\ cond (D h) (Post w') (L w')) hw hg ?_ ?_ ?_
  · refine ⟨fun k hk hD => ?_, ?_⟩
    · simp [hk] at hD
    simp only [hlt, decide_true, Bool.not_true, cond_false]
    exact sJ
  · intro i o ho D ρ wi hE hI cP Je hs hd
    obtain ⟨hc, hI⟩ := hI; have hi : i < ops.size := (Array.getElem?_eq_some_iff.1 ho).1; have D4 : ∀ j, gU ops i j = waits o j := fun j => by unfold gU; rw [ho]
    have hc' : Closed ops (upd D i) := by
      intro k hk hD j hj; unfold upd at hD ⊢
      by_cases e : k = i
      · subst e
        rw [D4] at hj; rw [Je j hj, Bool.or_true]
      have hDk : D k = true := by simpa [e] using hD
      rw [hc k hk hDk j hj, Bool.or_true]
    have hpre : cond (Nat.ble i h) (L wi) (Post wi) := by
      rcases Nat.lt_or_ge h i with hlt' | hge
      · have e : Nat.ble i h = false := by
          rcases Bool.eq_false_or_eq_true (Nat.ble i h) with e | e
          · have := Nat.le_of_ble_eq_true e; omega
          exact e
        have h1 := hh; simp only [jU, Bool.and_eq_true] at h1; have h2 := List.all_eq_true.1 h1.2 i (List.mem_range.2 hi); simp only [Bool.or_eq_true, decide_eq_true_eq] at h2; rcases h2 with h2 | h2
        · omega
        obtain ⟨k, hk, hk2⟩ := List.any_eq_true.1 h2
        simp only [Bool.and_eq_true, decide_eq_true_eq] at hk2; have hkl := List.mem_range.1 hk; rw [D4] at hk2; have U2 := xU hh hc k k (Nat.le_refl _) hk2.1 (by omega) (Je k hk2.2); rw [U2, cond_true] at hI; rw [e, cond_false]; exact hI
      have e : Nat.ble i h = true := Nat.ble_eq_true_of_le hge
      have U2 : D h = false := by
        rcases Bool.eq_false_or_eq_true (D h) with hD | hD
        · rw [tF hh hc hD h i hge (by omega)] at cP
          cases cP
        exact hD
      rw [U2, cond_false] at hI; rw [e, cond_true]; exact hI
    have hpost : ∀ w', cond (Nat.blt i h) (L w') (Post w') -> cond (upd D i h) (Post w') (L w') := by
      intro w' hst; rcases Nat.lt_or_ge i h with h1 | h1
      · have e : Nat.blt i h = true := Nat.ble_eq_true_of_le h1
        have U2 : D h = false := by
          rcases Bool.eq_false_or_eq_true (D h) with hD | hD
          · rw [tF hh hc hD h i (by omega) (by omega)] at cP
            cases cP
          exact hD
        have e2 : upd D i h = false := by
          unfold upd; rw [U2, Bool.or_false]; exact beq_eq_false_iff_ne.2 (by omega)
        rw [e, cond_true] at hst; rw [e2, cond_false]; exact hst
      have e : Nat.blt i h = false := by
        rcases Bool.eq_false_or_eq_true (Nat.blt i h) with e | e
        · have := Nat.le_of_ble_eq_true e; omega
        exact e
      have e2 : upd D i h = true := by
        unfold upd
        by_cases e3 : h = i
        · subst e3; simp
        rcases Bool.eq_false_or_eq_true (D h) with hD | hD
        · rw [hD, Bool.or_true]
        exfalso
        have h1' := hh; simp only [jU, Bool.and_eq_true] at h1'; have h2 := List.all_eq_true.1 h1'.2 i (List.mem_range.2 hi); simp only [Bool.or_eq_true, decide_eq_true_eq] at h2; rcases h2 with h2 | h2
        · omega
        obtain ⟨k, hk, hk2⟩ := List.any_eq_true.1 h2
        simp only [Bool.and_eq_true, decide_eq_true_eq] at hk2; have hkl := List.mem_range.1 hk; rw [D4] at hk2; rw [xU hh hc k k (Nat.le_refl _) hk2.1 (by omega) (Je k hk2.2)] at hD
        cases hD
      rw [e, cond_false] at hst; rw [e2, cond_true]; exact hst
    have hst := hstep i o ho ρ wi hE hpre hs hd; have conv : ∀ v w', bA ops ends Good h L Post i wi v w' -> JF ops ends Good (fun D w' => Closed ops D /\ cond (D h) (Post w') (L w')) D i wi v w' := fun v w' hx => ⟨hx.good, ⟨hc', hpost w' hx.state⟩, hx.keep⟩
    cases hgd : o.guard with
    | none =>
      rw [hgd] at hst; exact Gives.mono hst conv
    | some gb =>
      obtain ⟨g, b⟩ := gb; rw [hgd] at hst; intro u hu; obtain ⟨h1, h2⟩ := hst u hu; exact ⟨fun e => Gives.mono (h1 e) conv, fun e => ⟨(h2 e).1, hc', hpost _ (h2 e).2⟩⟩
  intro V w' hV hI
  rw [tB a0 V (ps V) (hps V)]; refine hend V w' hV ?_; have h2 := hI.2; rw [cond_true] at h2; exact h2
end
def tb : List (Value ⊕ (Value -> World -> Prop)) -> Nat -> Value -> World -> Prop
 | .inl a :: _, 0, v, _ => v = a
 | .inr p :: _, 0, v, w => p v w
 | _ :: l, n + 1, v, w => tb l n v w
 | [], _, _, _ => True
def st (w w' : World) : List (Value ⊕ (Value -> World -> Prop)) -> Prop
 | [] => True
 | .inl _ :: l => st w w' l
 | .inr p :: l => (∀ v, p v w -> p v w') /\ st w w' l
theorem gA {w w' : World} {l : List (Value ⊕ (Value -> World -> Prop))} (hs : st w w' l) {j : Nat} {v : Value} (h : tb l j v w) : tb l j v w' := by
 induction l generalizing j with
 | nil => cases j <;> exact trivial
 | cons a l ih =>
  cases j with
  | zero =>
   cases a with
   | inl x => exact h
   | inr p => exact hs.1 _ h
  | succ n =>
   cases a with
   | inl x => exact ih hs h
   | inr p => exact ih hs.2 h
theorem tz {w w' : World} {l : List (Value ⊕ (Value -> World -> Prop))} {j : Nat} {v : Value} (h : tb l j v w) (hs : st w w' l := by exact trivial) : tb l j v w' := gA hs h
theorem rb {P : Program} {ops : Array Oper} {Q : Exit -> Act -> World -> Prop} {id : Nat} {a0 : Act} {w : World} (h : Nat) (ends : List Nat) (Good : Nat -> Value -> World -> Prop) (W : World) (ps : (Nat -> Value) -> List (Option Tmp × Value))
  (hstep : ∀ i o, ops[i]? = some o -> KQ P ops a0 ends Good h (fun a => Below W.heap.size W a) (fun a => Below W.heap.size W a) i o)
  (hend : ∀ (V : Nat -> Value) (w' : World), (∀ i, i < ops.size -> ends.contains i = true -> Good i (V i) w') -> Below W.heap.size W w' -> Q .normal (aP a0 (ps V)) w')
  (hm : P.follows .mixedOrders = true := by kernel_rfl) (hw : kr ops = true := by kernel_rfl) (hg : mz ops a0.tmps.size = true := by kernel_rfl) (hh : jU ops h = true := by kernel_rfl)
  (hps : ∀ V, (List.range ops.size).map (fun i => ((ops[i]?).bind (·.dst), V i)) = ps V := by exact fun V => rfl) (sJ : Below W.heap.size W w.drew := by exact (Below.refl _ _).drew) : (Code.region id ops true).wp P Q a0 w :=
  fI hm h ends Good _ _ ps hw hg hh hps sJ hstep hend
