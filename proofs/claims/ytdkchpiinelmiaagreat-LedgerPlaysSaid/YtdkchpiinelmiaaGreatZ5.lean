/- Part 5 of the proof. Conditions: none. -/
import Derived.Test.YtdkchpiinelmiaaGreatZ4
import Derived.Deep.MidRow
import Derived.Great.BuildSlice
namespace Go.Proofs.YtdkchpiinelmiaaGreat.N
open Go.RowKit
def kY (V : Nat -> Value) (i : Nat) (v : Value) : Nat -> Value := fun k => cond (Nat.beq k i) v (V k)
section
variable {P : Program} {ops : Array Oper} {Q : Exit -> Act -> World -> Prop}
def Ud (P : Program) (ops : Array Oper) (Q : Exit -> Act -> World -> Prop) (a0 : Act) (I : (Nat -> Bool) -> (Nat -> Value) -> World -> Prop) (i : Nat) (o : Oper) : Prop :=
 ∀ (D : Nat -> Bool) (V : Nat -> Value) (a : Act) (w : World), I D V w -> Closed ops D -> D i = false -> (∀ j, waits o j = true -> D j = true) -> (∀ s, unwritten ops i s = true -> a.eval (.tmp s) = a0.eval (.tmp s)) ->
  (∀ j x d, uses o j = true -> ops[j]? = some x -> x.dst = some d -> d < a0.tmps.size -> a.tmps[d]? = some (V j) /\ a.eval (.tmp d) = V j) ->
  (Region.wanted o (yielded ops a.tmps) = true -> o.wp P a w (fun a' w' => ∃ v, a' = a.put o.dst v /\ I (upd D i) (kY V i v) w') Q) /\ (Region.wanted o (yielded ops a.tmps) = false -> I (upd D i) (kY V i undef) w)
theorem Kp {a0 : Act} {I : (Nat -> Bool) -> (Nat -> Value) -> World -> Prop} (hw : kr ops = true)
  (hstep : ∀ i o, ops[i]? = some o -> Ud P ops Q a0 I i o)
  (hend : ∀ (V : Nat -> Value) (w : World), I (fun _ => true) V w -> Q .normal (eu a0 ops (fun _ => true) V (List.range ops.size)) w) :
  ∀ (fuel : Nat) (listed : Array Bool) (a : Act) (w : World), listed.size = ops.size -> (List.range ops.size).countP (fun i => !listed.getD i true) <= fuel ->
   (∀ i o, ops[i]? = some o -> listed.getD i true = true -> ∀ j, waits o j = true -> listed.getD j true = true) ->
   (∃ V : Nat -> Value, a = eu a0 ops (fun i => listed.getD i true) V (List.range ops.size) /\ I (fun i => listed.getD i true) V w) ->
   wpAny P .any ops Q fuel listed a w := by
 intro fuel; have finish : ∀ (listed : Array Bool) (a : Act) (w : World), listed.size = ops.size -> Region.ready .any ops listed = [] ->
   (∃ V : Nat -> Value, a = eu a0 ops (fun i => listed.getD i true) V (List.range ops.size) /\ I (fun i => listed.getD i true) V w) -> Q .normal a w := by
  intro listed a w hs hr hV; obtain ⟨V, rfl, hL⟩ := hV; have hall := uU hw hr hs; have e : eu a0 ops (fun i => listed.getD i true) V (List.range ops.size) = eu a0 ops (fun _ => true) V (List.range ops.size) :=
   gQ _ _ fun i hi => ⟨hall i (List.mem_range.1 hi), rfl⟩
  rw [e]; have eD : (fun i => listed.getD i true) = fun _ => true := by
   funext i
   by_cases hi : i < ops.size
   ·exact hall i hi
   rw [Array.getD_eq_getD_getElem?, Array.getElem?_eq_none (by omega)]; rfl
  rw [eD] at hL; exact hend V w hL
 induction fuel with
 | zero =>
  intro listed a w hs hc _ hV; have hr : Region.ready .any ops listed = [] := by
   have h0 := List.countP_eq_zero.1 (Nat.le_zero.1 hc); unfold Region.ready; refine List.filter_eq_nil_iff.2 fun i hi => ?_
   have := h0 i hi; intro h; rw [Bool.and_eq_true] at h; exact this h.1
  exact ⟨hr, finish listed a w hs hr hV⟩
 | succ fuel ih =>
  intro listed a w hs hc jW hV; refine ⟨fun hr => finish listed a w hs hr hV, fun i hi => ?_⟩; obtain ⟨V, ha, hL⟩ := hV; have hcl : Closed ops (fun i => listed.getD i true) := by
   intro k hk hD j hj; unfold gU at hj; rw [Array.getElem?_eq_getElem hk] at hj; exact jW k _ (Array.getElem?_eq_getElem hk) hD j hj
  have hi' := List.mem_filter.1 hi; have hlt : i < ops.size := List.mem_range.1 hi'.1; have ho : ops[i]? = some ops[i] := Array.getElem?_eq_getElem hlt; have lG := hi'.2; rw [ho] at lG; simp only [Option.map_some, Option.getD_some, Bool.and_eq_true, Bool.not_eq_true'] at lG; obtain ⟨hun, SV⟩ := lG; have qY : ∀ j, waits ops[i] j = true -> listed.getD j true = true := by
   intro j hj; obtain ⟨e, he, hb⟩ := Array.any_eq_true'.1 hj; simp only [Bool.and_eq_true, beq_iff_eq] at hb; have h1 := Array.all_eq_true'.1 SV e he; rw [hb.1, hb.2] at h1; simp only [Bool.not_true, Bool.false_or] at h1; simp only [Array.getD_eq_getD_getElem?] at h1 ⊢
   cases hx : listed[j]? with
   | none => rfl
   | some b => rw [hx] at h1; exact h1
  have hst := hstep i _ ho (fun i => listed.getD i true) V a w hL hcl hun qY
   (fun s hs' => by
    have hold := xI (ops := ops) a0 (fun i => listed.getD i true) V s (List.range ops.size) fun k hk o hok KW => by
     have hk' := List.all_eq_true.1 hs' k hk; rw [hok] at hk'; simp only [KW, bne_self_eq_false, Bool.false_or] at hk'; rcases Bool.eq_false_or_eq_true (listed.getD k true) with h | h
     ·have := jW k o hok h i hk'
      rw [this] at hun
      cases hun
     exact h
    rw [ha]; show (eu a0 ops _ V _).tmps.getD s undef = a0.tmps.getD s undef
    rw [Array.getD_eq_getD_getElem?, Array.getD_eq_getD_getElem?, hold])
   (fun j x d hj hx hd hsz => by
    have Ju : j < ops.size := (Array.getElem?_eq_some_iff.1 hx).1; have hjl := qY j (lK hj); have := Bz hw a0 (fun i => listed.getD i true) V j x d hx hd hjl hsz (List.range ops.size) List.nodup_range (List.mem_range.2 Ju); rw [<- ha] at this; exact ⟨this, by show a.tmps.getD d undef = V j; rw [Array.getD_eq_getD_getElem?, this]; rfl⟩)
  have hnext : ∀ (v : Value) (w' : World), I (upd (fun i => listed.getD i true) i) (kY V i v) w' -> wpAny P .any ops Q fuel (listed.setIfInBounds i true) (a.put ops[i].dst v) w' := by
   intro v w' K7; have eZ : ∀ k, (listed.setIfInBounds i true).getD k true = (k == i || listed.getD k true) := by
    intro k; simp only [Array.getD_eq_getD_getElem?, Array.getElem?_setIfInBounds]
    by_cases e : i = k
    ·subst e
     by_cases h2 : i < listed.size
     ·simp [h2]
     simp [h2]
    have e' : ¬ k = i := fun h => e h.symm
    simp [e, e']
   refine ih _ _ w' (by simpa using hs) ?_ ?_ ?_
   ·have fO : (List.range ops.size).countP (fun k => !(listed.setIfInBounds i true).getD k true) < (List.range ops.size).countP (fun k => !listed.getD k true) := by
     refine vk ?_ (List.mem_range.2 hlt) (by rw [eZ]; simp) (by rw [hun]; rfl); intro k _ hk; rw [eZ] at hk; simp only [Bool.not_eq_true', Bool.or_eq_false_iff] at hk; rw [hk.2]; rfl
    omega
   ·intro k o hk hkl j hj
    rw [eZ] at hkl ⊢
    by_cases e : k = i
    ·subst e
     rw [ho] at hk
     injection hk with hk
     subst hk; rw [qY j hj]; simp
    have zI : listed.getD k true = true := by simpa [e] using hkl
    rw [jW k o hk zI j hj]; simp
   refine ⟨kY V i v, ?_, (funext eZ : (fun k => (listed.setIfInBounds i true).getD k true) = upd (fun i => listed.getD i true) i) ▸ K7⟩
   have h := qF hw a0 (fun k => listed.getD k true) V i v hun (List.range ops.size) List.nodup_range (List.mem_range.2 hlt); rw [ha]; have e : ((ops[i]?).bind (·.dst)) = ops[i].dst := by rw [ho]; rfl
   rw [e] at h; rw [h]; refine gQ _ _ fun k _ => ⟨(eZ k).symm, ?_⟩
   unfold kY
   by_cases e2 : k = i
   ·subst e2; simp
   rw [if_neg e2]
   have e3 : Nat.beq k i = false := by
    rcases Bool.eq_false_or_eq_true (Nat.beq k i) with h | h
    ·exact absurd (Nat.eq_of_beq_eq_true h) e2
    exact h
   rw [e3]; rfl
  unfold wpOp; rw [ho]; simp only []
  split
  ·rename_i hwant
   refine Or.inl (Oper.wp_mono ?_ (hst.1 hwant)); rintro a' w' ⟨v, rfl, K7⟩; exact hnext v w' K7
  rename_i hwant
  exact hnext undef w (hst.2 (by simpa using hwant))
def before (ops : Array Oper) : Nat -> Nat -> Nat -> Bool
 | 0, _, _ => false
 | n + 1, b, a => gU ops b a || (List.range b).any fun k => gU ops b k && before ops n k a
theorem rF {D : Nat -> Bool} (hc : Closed ops D) : ∀ n b a, b < ops.size -> D b = true -> before ops n b a = true -> D a = true := by
 intro n
 induction n with
 | zero => intro b a _ _ h; cases h
 | succ n ih =>
  intro b a hb hD h; simp only [before, Bool.or_eq_true] at h; rcases h with h | h
  ·exact hc b hb hD a h
  obtain ⟨k, hk, hk2⟩ := List.any_eq_true.1 h
  simp only [Bool.and_eq_true] at hk2; have hkl := List.mem_range.1 hk; exact ih k a (by omega) (hc b hb hD k hk2.1) hk2.2
def W5 (P : Program) (ops : Array Oper) (a0 : Act) (vals : Nat -> Option Value) (St : (Nat -> Bool) -> (Nat -> Value) -> World -> Prop) (i : Nat) (o : Oper) : Prop :=
 ∀ (D : Nat -> Bool) (V : Nat -> Value) (ρ : Operand -> Value) (w : World), Env ρ -> St D V w -> D i = false -> (∀ n j, ∀ (_ : before ops n i j = true := by kernel_rfl), D j = true) -> (∀ n j, ∀ (_ : j < ops.size := by exact of_decide_eq_true (by kernel_rfl)) (_ : before ops n j i = true := by kernel_rfl), D j = false) ->
  (∀ s, ∀ (_ : unwritten ops i s = true := by kernel_rfl), ρ (.tmp s) = a0.eval (.tmp s)) -> (∀ j d, ∀ (_ : uses o j = true := by kernel_rfl) (_ : slot ops j = some d := by kernel_rfl) (_ : d < a0.tmps.size := by exact of_decide_eq_true (by kernel_rfl)), ρ (.tmp d) = V j) -> (∀ j x, vals j = some x -> ∀ (_ : uses o j = true := by kernel_rfl), V j = x) ->
  match o.guard with
  | none => Gives P ρ o w (fun v w' => (∀ x, vals i = some x -> v = x) /\ St (upd D i) (kY V i v) w')
  | some (g, b) => (V g = .bool b -> Gives P ρ o w (fun v w' => (∀ x, vals i = some x -> v = x) /\ St (upd D i) (kY V i v) w')) /\ (V g ≠ .bool b -> (∀ x, vals i = some x -> undef = x) /\ St (upd D i) (kY V i undef) w)
theorem J0 {V : Nat -> Value} {i : Nat} {v : Value} : kY V i v i = v := by
 unfold kY; rw [Nat.beq_refl]
 rfl
theorem G5 {V : Nat -> Value} {i j : Nat} {v : Value} (h : j ≠ i) : kY V i v j = V j := by
 unfold kY; have e3 : Nat.beq j i = false := by
  rcases Bool.eq_false_or_eq_true (Nat.beq j i) with h2 | h2
  ·exact absurd (Nat.eq_of_beq_eq_true h2) h
  exact h2
 rw [e3]
 rfl
theorem bk {id : Nat} {a0 : Act} {w : World} (hm : P.follows .mixedOrders = true) (vals : Nat -> Option Value) (St : (Nat -> Bool) -> (Nat -> Value) -> World -> Prop) (ps : (Nat -> Value) -> List (Option Tmp × Value))
  (hw : kr ops = true) (hg : mz ops a0.tmps.size = true)
  (hps : ∀ V, (List.range ops.size).map (fun i => ((ops[i]?).bind (·.dst), V i)) = ps V)
  (sJ : ∀ V, St (fun i => !decide (i < ops.size)) V w.drew)
  (hstep : ∀ i o, ops[i]? = some o -> W5 P ops a0 vals St i o)
  (hend : ∀ (V : Nat -> Value) (w' : World), (∀ i, i < ops.size -> ∀ x, vals i = some x -> V i = x) -> St (fun _ => true) V w' -> Q .normal (aP a0 (ps V)) w') :
  (Code.region id ops true).wp P Q a0 w := by
 refine wp_region_any hm ?_; refine Kp (a0 := a0) (I := fun D V w => (∀ j, j < ops.size -> D j = true -> ∀ x, vals j = some x -> V j = x) /\ St D V w) hw (fun i o ho => ?_) ?_ ops.size _ _ _ (by simp) ?_ ?_ ⟨fun _ => undef, ?_, ?_, ?_⟩
 ·intro D V a wi hI hcl cP Je hs hd
  obtain ⟨hk, hI⟩ := hI; have hi : i < ops.size := (Array.getElem?_eq_some_iff.1 ho).1; have hT : ∀ n j, before ops n i j = true -> D j = true := by
   intro n j hb
   cases n with
   | zero => cases hb
   | succ n =>
    simp only [before, Bool.or_eq_true] at hb; have D4 : ∀ j, gU ops i j = waits o j := fun j => by unfold gU; rw [ho]
    rcases hb with h | h
    ·rw [D4] at h
     exact Je j h
    obtain ⟨k, hk1, hk2⟩ := List.any_eq_true.1 h
    simp only [Bool.and_eq_true] at hk2; have hkl := List.mem_range.1 hk1; rw [D4] at hk2; exact rF hcl n k j (by omega) (Je k hk2.1) hk2.2
  have hF : ∀ n j, j < ops.size -> before ops n j i = true -> D j = false := by
   intro n j hj hb; rcases Bool.eq_false_or_eq_true (D j) with h | h
   ·rw [rF hcl n j i hj h hb] at cP
    cases cP
   exact h
  have hd' : ∀ j d, uses o j = true -> slot ops j = some d -> d < a0.tmps.size -> a.eval (.tmp d) = V j := by
   intro j d hu hsl hsz; obtain ⟨x, hx, FJ⟩ := Option.bind_eq_some_iff.1 hsl; exact (hd j x d hu hx FJ hsz).2
  have hk' : ∀ j, uses o j = true -> ∀ x, vals j = some x -> V j = x := by
   intro j hu x hx
   by_cases hj : j < ops.size
   ·exact hk j hj (Je j (lK hu)) x hx
   exfalso
   have h2 := (lJ hw ho).1; obtain ⟨e, he, hb⟩ := Array.any_eq_true'.1 hu; simp only [Bool.and_eq_true, Bool.or_eq_true, beq_iff_eq] at hb; have := h2 e he (by
    unfold Region.binds; rcases hb.1 with hg | hg <;> rw [hg])
   omega
  have h1 := hstep i o ho D V a.eval wi (GU a) hI cP hT hF hs hd' (fun j x hx hu => hk' j hu x hx); have KM : ∀ v, (∀ x, vals i = some x -> v = x) -> ∀ j, j < ops.size -> upd D i j = true -> ∀ x, vals j = some x -> kY V i v j = x := by
   intro v hv j hj hD x hx
   by_cases e : j = i
   ·subst e
    rw [J0]; exact hv x hx
   rw [G5 e]
   refine hk j hj ?_ x hx; unfold upd at hD
   simpa [e] using hD
  have conv : Gives P a.eval o wi (fun v w' => (∀ x, vals i = some x -> v = x) /\ St (upd D i) (kY V i v) w') -> o.wp P a wi (fun a' w' => ∃ v, a' = a.put o.dst v /\ (∀ j, j < ops.size -> upd D i j = true -> ∀ x, vals j = some x -> kY V i v j = x) /\ St (upd D i) (kY V i v) w') Q := fun hh => by
   refine Oper.wp_mono ?_ (xV (Q := Q) hh); rintro a' w' ⟨v, e, hr⟩; exact ⟨v, e, KM v hr.1, hr.2⟩
  cases hgd : o.guard with
  | none =>
   rw [hgd] at h1; refine ⟨fun _ => conv h1, fun hw => ?_⟩; have : Region.wanted o (yielded ops a.tmps) = true := by simp [Region.wanted, hgd]
   rw [this] at hw
   cases hw
  | some gb =>
   obtain ⟨g, b⟩ := gb; rw [hgd] at h1; have h2 := List.all_eq_true.1 hg i (List.mem_range.2 hi); rw [ho] at h2; simp only [hgd, Bool.and_eq_true] at h2; obtain ⟨hu, h3⟩ := h2
   cases hsl : slot ops g with
   | none => rw [hsl] at h3; cases h3
   | some d =>
    rw [hsl] at h3; obtain ⟨x, hx, FJ⟩ := Option.bind_eq_some_iff.1 hsl; obtain ⟨hat, _⟩ := hd g x d hu hx FJ (of_decide_eq_true h3); have hw : Region.wanted o (yielded ops a.tmps) = true ↔ V g = .bool b := by
     simp only [Region.wanted, hgd, yielded, hx, Option.bind_some, FJ, hat]
     cases V g with
     | bool c => simp
     | _ => simp
    refine ⟨fun hh => conv (h1.1 (hw.1 hh)), fun hh => ?_⟩; have h4 := h1.2 fun e => by
     have := hw.2 e; rw [hh] at this
     cases this
    exact ⟨KM undef h4.1, h4.2⟩
 ·intro V w' hI
  rw [tB a0 V (ps V) (hps V)]; exact hend V w' (fun i hi x hx => hI.1 i hi rfl x hx) hI.2
 ·exact Nat.le_trans List.countP_le_length (by simp)
 ·intro i o hi hl
  have hlt : i < ops.size := (Array.getElem?_eq_some_iff.1 hi).1; rw [Array.getD_eq_getD_getElem?] at hl
  simp [hlt] at hl
 ·have e : ∀ (l : List Nat), (∀ k ∈ l, k < ops.size) -> eu a0 ops (fun i => (Array.replicate ops.size false).getD i true) (fun _ => undef) l = a0 := by
   intro l
   induction l with
   | nil => intro _; rfl
   | cons k l ih =>
    intro h; have hk := h k (List.mem_cons_self ..); show eu (ey ops _ _ a0 k) ops _ _ l = a0
    have e1 : ey ops (fun i => (Array.replicate ops.size false).getD i true) (fun _ => undef) a0 k = a0 := by
     unfold ey; rw [if_neg]
     simp [hk]
    rw [e1]; exact ih fun j hj => h j (List.mem_cons_of_mem _ hj)
  exact (e _ fun k hk => List.mem_range.1 hk).symm
 ·intro j hj hD
  simp [hj] at hD
 have e : (fun i => (Array.replicate ops.size false).getD i true) = fun i => !decide (i < ops.size) := by
  funext i
  by_cases hi : i < ops.size
  ·simp [Array.getD_eq_getD_getElem?, hi]
  simp [Array.getD_eq_getD_getElem?, hi]
 rw [e]; exact sJ _
end
end Go.Proofs.YtdkchpiinelmiaaGreat.N
namespace Go.Proofs.YtdkchpiinelmiaaGreat.fN
open Go.RowKit Mem Td
section
variable {b i k : Nat} {l : List It} {d15 d17 : Bool} {x y : It} {w0 w w' : World}
end
end Go.Proofs.YtdkchpiinelmiaaGreat.fN
namespace Go.Proofs.YtdkchpiinelmiaaGreat.Mem
open Go.RowKit
variable {P : Program}
theorem Cells.range {w : World} {g : Nat} {t : TypeId} {vs : List Value} (h : Cells w g t vs) : w.rangeAt g 0 vs := fun j v hv => by rw [Nat.zero_add]; exact h.cell hv
theorem Cells.there {w : World} {g : Nat} {t : TypeId} {vs : List Value} (h : Cells w g t vs) {n : Nat} (hn : n <= vs.length) : w.there g 0 n := fun j hj => by
 rw [Nat.zero_add]; exact ⟨by rw [h.cell (List.getElem?_eq_getElem (show j < vs.length by omega))]; rfl, h.frozen (by omega)⟩
theorem Cells.jm {g : Nat} {t : TypeId} : ∀ (l : List Value) (o : Nat) {w : World} {vs : List Value}, Cells w g t vs -> o + l.length <= vs.length ->
  Cells (w.setCells g o l) g t (vs.take o ++ (l ++ vs.drop (o + l.length))) /\ Only (fun k => k = g) w (w.setCells g o l)
 | [], o, w, vs, h, _ => ⟨by rw [show w.setCells g o [] = w from rfl]; simpa using h, Only.refl _ _⟩
 | v :: r, o, w, vs, h, hl => by
  rw [List.length_cons] at hl; obtain ⟨h1, h2⟩ := Cells.jm r (o + 1) (h.fB o v) (by rw [List.length_set]; omega); refine ⟨?_, (Only.b_ w ⟨g, o, none⟩ v).trans h2 fun _ _ e => e⟩; have e1 : (vs.set o v).take (o + 1) = vs.take o ++ [v] := by
   rw [List.take_succ_eq_append_getElem (by rw [List.length_set]; omega), List.take_set_of_le (Nat.le_refl _)]
   simp
  have e2 : (vs.set o v).drop (o + 1 + r.length) = vs.drop (o + (r.length + 1)) := by
   rw [List.drop_set_of_lt (by omega)]
   congr 1
   omega
  rw [e1, e2] at h1; rw [List.length_cons]; show Cells ((w.setCell ⟨g, o, none⟩ v).setCells g (o + 1) r) g t _
  simpa using h1
theorem Cells.put {w : World} {g : Nat} {t : TypeId} {vs l : List Value} (h : Cells w g t vs) (hl : l.length = vs.length) : Cells (w.setCells g 0 l) g t l /\ Only (fun k => k = g) w (w.setCells g 0 l) := by
 obtain ⟨h1, h2⟩ := Cells.jm l 0 h (by omega); refine ⟨?_, h2⟩; rw [List.drop_of_length_le (by omega)] at h1
 simpa using h1
theorem aA {ops : Array Oper} {rest : List Oper} {op : Oper} {a : Act} {w : World} {Q : Exit -> Act -> World -> Prop} (hgd : op.guard = none) (ty : TypeId) (x y : Operand) (ho : op.op = .store ty x y)
  (g : Nat) (cells : Array Value) (l : List Value) (hcl : cells.toList = l) (hx : a.eval x = (au g)) (hy : a.eval y = .agg cells) {t : TypeId} {vs : List Value} (hc : Cells w g t vs) (hlen : l.length = vs.length)
  (hi : (P.info? ty).map (·.size) = some cells.size) (h1 : cells.all (·.oneCell') = true)
  (h : ∀ w', Cells w' g t l -> Only (fun k => k = g) w w' -> wpList P ops Q rest (a.put op.dst undef) w') : wpList P ops Q (op :: rest) a w := by
 subst hcl; obtain ⟨h2, h3⟩ := hc.put hlen; exact wpList_store_mid hgd ty x y ho g 0 cells hx hy (hc.there (by rw [<- hlen]; simp)) hi h1 (h _ h2 h3)
theorem aD {ops : Array Oper} {rest : List Oper} {op : Oper} {a : Act} {w : World} {Q : Exit -> Act -> World -> Prop} (hgd : op.guard = none) (ty : TypeId) (x : Operand) (ho : op.op = .load ty x)
  (g : Nat) (cells : Array Value) (hx : a.eval x = (au g)) {t : TypeId} {l : List Value} (hcl : l.toArray = cells) (hc : Cells w g t l) {d : TypeDesc} (hu : P.underlying ty = some d) (hd : d.isRow = true)
  (hi : (P.info? ty).map (·.size) = some l.length) (h : wpList P ops Q rest (a.put op.dst (.agg cells)) w) : wpList P ops Q (op :: rest) a w := by
 subst hcl; exact wpList_load_mid hgd ty x ho g 0 hx l d hc.range hu hd hi h
theorem Cells.load {w : World} {g : Nat} {t : TypeId} {vs : List Value} (h : Cells w g t vs) (ty : TypeId) (d : TypeDesc) (hu : P.underlying ty = some d) (hd : d.isRow = true) (hi : (P.info? ty).map (·.size) = some vs.length) :
  (loadVar ty ⟨g, 0, none⟩).run P w = .ok (.agg vs.toArray) w := run_loadVar_mid w g 0 ty vs d h.range hu hd hi
theorem aI {fn : Func} {p q : Tmp} {ty : TypeId} (hf : fn.results = #[.cell p ty, .tmp q]) (tmps : Array Value) {w : World} {g : Nat} {t : TypeId} {vs : List Value} (h : Cells w g t vs) (d : TypeDesc)
  (hp : tmps.getD p undef = (au g)) (hu : P.underlying ty = some d) (hd : d.isRow = true) (hi : (P.info? ty).map (·.size) = some vs.length) :
  (results fn tmps).run P w = .ok (.tuple #[.agg vs.toArray, tmps.getD q undef]) w := by
 have hp' : tmps[p]?.getD undef = (au g) := by simpa using hp
 have hl := h.load (P := P) ty d hu hd hi
 simp [results, hf, hp', asAddr, hl]
theorem g_ {fn : Func} {p : Tmp} {ty : TypeId} (hf : fn.results = #[.cell p ty]) (tmps : Array Value) {w : World} {g : Nat} {t : TypeId} {vs : List Value} (h : Cells w g t vs) (d : TypeDesc)
  (hp : tmps.getD p undef = (au g)) (hu : P.underlying ty = some d) (hd : d.isRow = true) (hi : (P.info? ty).map (·.size) = some vs.length) :
  (results fn tmps).run P w = .ok (.agg vs.toArray) w := by
 have hp' : tmps[p]?.getD undef = (au g) := by simpa using hp
 have hl := h.load (P := P) ty d hu hd hi
 simp [results, hf, hp', asAddr, hl]
end Go.Proofs.YtdkchpiinelmiaaGreat.Mem
namespace Go.Proofs.YtdkchpiinelmiaaGreat.Led
set_option maxRecDepth 100000
open Go.RowKit Mem fN Rec
def Sl (w : World) (A : Option Addr) (sz : Nat) (vs : List (List Value)) : Prop := ∀ k (h : k < vs.length), ∃ b off, A = some ⟨b, off, none⟩ /\ w.rangeAt b (off + k * sz) vs[k]
theorem aM {w w' : World} {b o : Nat} {cs : List Value} (h : w.rangeAt b o cs) (hb : Below w.heap.size w w') : w'.rangeAt b o cs := fun j v hv => (hb.cell (aH (h j v hv))).trans (h j v hv)
theorem Sl.later {w w' : World} {A : Option Addr} {sz : Nat} {vs : List (List Value)} (h : Sl w A sz vs) (hb : Below w.heap.size w w') : Sl w' A sz vs := fun k hk => by
  obtain ⟨b, off, e, hr⟩ := h k hk; exact ⟨b, off, e, aM hr hb⟩
theorem gN (w : World) (A : Option Addr) (sz : Nat) : Sl w A sz [] := fun k hk => absurd hk (by simp)
def dV (bs : List Bool) : Int := match bs.findIdx? (fun b => b) with | some i => (i : Int) | none => -1
theorem gW {bs : List Bool} {k : Nat} (hk : k < bs.length) (h0 : ∀ j (hj : j < k), (bs[j]'(by omega)) = false) (h1 : bs[k] = true) : dV bs = (k : Int) := by
  unfold dV; have e : bs.findIdx? (fun b => b) = some k := by
    rw [List.findIdx?_eq_some_iff_getElem]; exact ⟨hk, h1, fun j hj => by rw [h0 j hj]; exact Bool.false_ne_true⟩
  rw [e]
theorem eP {bs : List Bool} (h : ∀ j (hj : j < bs.length), bs[j] = false) : dV bs = -1 := by
  unfold dV; have e : bs.findIdx? (fun b => b) = none := by
    rw [List.findIdx?_eq_none_iff]; intro x hx; obtain ⟨j, hj, rfl⟩ := List.mem_iff_getElem.1 hx; exact h j hj
  rw [e]
theorem ij (bs : List Bool) : decide (0 <= dV bs) = bs.any (fun b => b) := by
  unfold dV
  cases h : bs.findIdx? (fun b => b) with
  | none =>
    have := List.findIdx?_eq_none_iff.1 h; have e : bs.any (fun b => b) = false := by rw [List.any_eq_false]; intro x hx; rw [this x hx]; exact Bool.false_ne_true
    rw [e]
    rfl
  | some i =>
    obtain ⟨hi, hp, _⟩ := List.findIdx?_eq_some_iff_getElem.1 h; have e : bs.any (fun b => b) = true := List.any_eq_true.2 ⟨bs[i], List.getElem_mem hi, hp⟩; rw [e]; exact decide_eq_true (Int.natCast_nonneg i)
instance acs : DecidableEq cT := fun a b => decidable_of_iff (a.node = b.node /\ a.epoch = b.epoch /\ a.seq = b.seq) ⟨fun h => by obtain ⟨a1, a2, a3⟩ := a; obtain ⟨b1, b2, b3⟩ := b; obtain ⟨rfl, rfl, rfl⟩ := h; rfl, fun h => by subst h; exact ⟨rfl, rfl, rfl⟩⟩
structure Pl where
  status : Int
  hop : Int
  to : Int
  version : Int
  value : Int
deriving DecidableEq
def Pl.vals (p : Pl) : List Value := [.int .i64 p.status, .int .i64 p.hop, .int .i64 p.to, .int .i64 p.version, .int .i64 p.value]
def rH : Pl := ⟨0, 0, 0, 0, 0⟩
structure Pr where
  tid : cT
  items : List It
  nodes : List Int
deriving DecidableEq
def Pr.vals (p : Pr) (y : Lay) : List Value := [.int .i64 p.tid.node, .int .i64 p.tid.epoch, .int .i64 p.tid.seq, .slice y.A p.items.length y.c, .slice y.B p.nodes.length y.d]
structure De where
  tid : cT
  yes : Bool
deriving DecidableEq
def De.vals (d : De) : List Value := [.int .i64 d.tid.node, .int .i64 d.tid.epoch, .int .i64 d.tid.seq, .bool d.yes]
structure Co where
  tid : cT
  items : List It
  nodes : List Int
  over : Bool
deriving DecidableEq
def Co.vals (c : Co) (y : Lay) : List Value := [.int .i64 c.tid.node, .int .i64 c.tid.epoch, .int .i64 c.tid.seq, .slice y.A c.items.length y.c, .slice y.B c.nodes.length y.d, .bool c.over]
structure St where
  node : Int
  nodes : Int
  cells : Int
  epoch : Int
  places : List Pl
  ay : List Pr
  dec : List De
  com : List Co
deriving DecidableEq
structure Sy where
  P : Option Addr
  p : Nat
  Q : Option Addr
  q : Nat
  D : Option Addr
  d : Nat
  C : Option Addr
  c : Nat
  ps : List Lay
  cs : List Lay
def St.vals (s : St) (y : Sy) : List Value := [.int .i64 s.node, .int .i64 s.nodes, .int .i64 s.cells, .int .i64 s.epoch, .slice y.P s.places.length y.p, .slice y.Q s.ay.length y.q, .slice y.D s.dec.length y.d, .slice y.C s.com.length y.c]
def St.val (s : St) (y : Sy) : Value := .agg #[.int .i64 s.node, .int .i64 s.nodes, .int .i64 s.cells, .int .i64 s.epoch, .slice y.P s.places.length y.p, .slice y.Q s.ay.length y.q, .slice y.D s.dec.length y.d, .slice y.C s.com.length y.c]
abbrev ZA : Array Value := #[.int .i64 0, .int .i64 0, .int .i64 0, .int .i64 0, .slice none 0 0, .slice none 0 0, .slice none 0 0, .slice none 0 0]
abbrev ZL : List Value := [.int .i64 0, .int .i64 0, .int .i64 0, .int .i64 0, .slice none 0 0, .slice none 0 0, .slice none 0 0, .slice none 0 0]
abbrev St.va (s : St) (y : Sy) : Array Value := #[.int .i64 s.node, .int .i64 s.nodes, .int .i64 s.cells, .int .i64 s.epoch, .slice y.P s.places.length y.p, .slice y.Q s.ay.length y.q, .slice y.D s.dec.length y.d, .slice y.C s.com.length y.c]
abbrev St.vl (s : St) (y : Sy) : List Value := [.int .i64 s.node, .int .i64 s.nodes, .int .i64 s.cells, .int .i64 s.epoch, .slice y.P s.places.length y.p, .slice y.Q s.ay.length y.q, .slice y.D s.dec.length y.d, .slice y.C s.com.length y.c]
def Two (w : World) (x : List It) (n : List Int) (y : Lay) : Prop := Items w y.A x /\ gZ w y.B n /\ (y.A = none -> y.c = 0) /\ (y.B = none -> y.d = 0)
theorem Two.later {w w' : World} {x : List It} {n : List Int} {y : Lay} (h : Two w x n y) (hb : Below w.heap.size w w') : Two w' x n y := ⟨h.1.later hb, h.2.1.later hb, h.2.2⟩
structure cL (w : World) (s : St) (y : Sy) : Prop where
  places : Sl w y.P 5 (s.places.map Pl.vals)
  ay : Sl w y.Q 5 (List.zipWith Pr.vals s.ay y.ps)
  dec : Sl w y.D 4 (s.dec.map De.vals)
  com : Sl w y.C 6 (List.zipWith Co.vals s.com y.cs)
  ps : y.ps.length = s.ay.length
  cs : y.cs.length = s.com.length
  pin : ∀ k (h : k < s.ay.length) (h' : k < y.ps.length), Two w s.ay[k].items s.ay[k].nodes y.ps[k]
  cin : ∀ k (h : k < s.com.length) (h' : k < y.cs.length), Two w s.com[k].items s.com[k].nodes y.cs[k]
  JA : y.P = none -> y.p = 0
  Jz : y.Q = none -> y.q = 0
  JB : y.D = none -> y.d = 0
  JC : y.C = none -> y.c = 0
theorem cL.later {w w' : World} {s : St} {y : Sy} (h : cL w s y) (hb : Below w.heap.size w w') : cL w' s y :=
  ⟨h.places.later hb, h.ay.later hb, h.dec.later hb, h.com.later hb, h.ps, h.cs, fun k h1 h2 => (h.pin k h1 h2).later hb, fun k h1 h2 => (h.cin k h1 h2).later hb, h.JA, h.Jz, h.JB, h.JC⟩
def bp (s : St) (c : Int) : Bool := decide (0 <= c) && decide (c < (s.places.length : Int))
theorem iW (s : St) (c : Int) : bp s c = true ↔ 0 <= c /\ c < (s.places.length : Int) := by unfold bp; simp
def cw (s : St) (c : Int) : Pl := (s.places[c.toNat]?).getD rH
def owns (s : St) (c : Int) : Bool := bp s c && decide ((cw s c).status = 1)
theorem fF (s : St) (y : Sy) (c : Int) (w : World) :
    Calls Tryz.prog 36 #[s.val y, iv c] w fun e w' => e = .returned (.bool (bp s c)) /\ Below w.heap.size w w' := by
  have hb1 := av w (.cells #[iv s.node, iv s.nodes, iv s.cells, iv s.epoch, .slice y.P s.places.length y.p, .slice y.Q s.ay.length y.q, .slice y.D s.dec.length y.d, .slice y.C s.com.length y.c] 32); have HB := ak hb1; clear hb1; unfold St.val bp
  by_cases h0 : 0 <= c
  · rw [decide_eq_true h0, Bool.true_and]
    go_enter Tryz.func36, Tryz.ntmps36
    go_wp2_with fail
    go_returns
    exact ⟨rfl, HB.o⟩
  rw [decide_eq_false h0, Bool.false_and]
  go_enter Tryz.func36, Tryz.ntmps36
  go_wp2_with fail
  go_returns
  exact ⟨rfl, HB.o⟩
theorem xG (s : St) (y : Sy) (w : World) (h1 : s.ay.length <= 1000000) (h2 : s.dec.length <= 1000000) :
    Calls Tryz.prog 94 #[s.val y] w fun e w' => e = .returned (.bool (decide (((s.ay.length : Int) + (s.dec.length : Int)) < 512))) /\ Below w.heap.size w w' := by
  have hb1 := av w (.cells #[iv s.node, iv s.nodes, iv s.cells, iv s.epoch, .slice y.P s.places.length y.p, .slice y.Q s.ay.length y.q, .slice y.D s.dec.length y.d, .slice y.C s.com.length y.c] 32); have HB := ak hb1; clear hb1; unfold St.val
  go_enter Tryz.func94, Tryz.ntmps94
  go_wp2_with fail
  go_returns
  exact ⟨rfl, HB.o⟩
