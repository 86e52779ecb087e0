/-
  Layer 19: the code's ballot and the document's in one memory.
  Conditions: none.
-/
import Derived.Test.YtjeogeablbkhgaaP52
import Derived.Laws.StructEq
namespace Go.Proofs.Ytjeogeablbkhgaa.Vot
set_option maxRecDepth 100000
open Go.RowKit Go.Deep Go.Proofs.Ytjeogeablbkhgaa.Mem Go.Proofs.Ytjeogeablbkhgaa.Item
/-- What can be said of an operation that holds two structs against one another within a region that draws its order. -/
theorem exec_bin {P : Program} {ρ : Operand → Value} {o : Oper} (op : BinOp) (t : TypeId) (x y : Operand) (t2 : TypeId) (ho : o.op = .binOp op t x y t2) (xs ys : Array Value) (hx : ρ x = .agg xs) (hy : ρ y = .agg ys) {v : Value} {w : World} (hm : P.eqGuardType P.depth t = false)
    (hrun : (binOp op t (.agg xs) (.agg ys)).run P w = .ok v w) : (execOp ρ o).run P w = .ok (.value v) w := by
  unfold execOp
  simp only [ho, hx, hy, Sem.run_bind, Sem.run_pure, Result.andThen_ok, run_eqGuard_agg w op t x y xs ys hm, hrun]
theorem tid_neq (t : Tid) (w : World) : (binOp .neq 23 (.agg #[.int .i64 t.node, .int .i64 t.epoch, .int .i64 t.seq]) (.agg #[.int .i64 t.node, .int .i64 t.epoch, .int .i64 t.seq])).run Try.prog w = .ok (.bool false) w := by
  have h : (Op.equalIn 10000 23 (.agg #[.int .i64 t.node, .int .i64 t.epoch, .int .i64 t.seq]) (.agg #[.int .i64 t.node, .int .i64 t.epoch, .int .i64 t.seq])).run Try.prog w = .ok true w := by
    rw [run_equalIn_agg w _ _ _ _ (show Try.prog.underlying 23 = some (.struct (Try.prog.fieldsOf 23)) by kernel_rfl) (by kernel_rfl)]
    obtain ⟨f0, f1, f2, hf, t0, t1, t2, o0, o1, o2, n0, n1, n2⟩ : ∃ f0 f1 f2 : Field, (Try.prog.fieldsOf 23).toList = [f0, f1, f2] ∧ f0.type = 3 ∧ f1.type = 3 ∧ f2.type = 3 ∧ f0.offset = 0 ∧ f1.offset = 1 ∧ f2.offset = 2 ∧ f0.name ≠ "_" ∧ f1.name ≠ "_" ∧ f2.name ≠ "_" := ⟨_, _, _, rfl, rfl, rfl, rfl, rfl, rfl, rfl, by decide, by decide, by decide⟩
    rw [hf]
    have hu := Try.underlying3
    simp [Op.eqFields, n0, n1, n2, t0, t1, t2, o0, o1, o2, go_sem, hu]
  rw [run_neq_struct, h]
  rfl
theorem own_nilc {eT : TypeId} {sz B n c : Nat} {vals : Sd → List Value} {w : World} {A : Option Addr} {l : List Sd} (h : OwnG eT sz vals B w (.slice A n c) l) : A = none → c = 0 := fun e => by
  subst e
  rcases h.2 with ⟨e2, _⟩ | ⟨_, _, _, e2, _⟩
  · cases e2; rfl
  · cases e2
/-- What the document's New gives behind plain. -/
def PlR (we : World) (t : Tid) (ps : List Sd) (v : Value) (W : World) : Prop :=
  ((rightTid t && okParts ps) = false → v = .pointer none) ∧ ((rightTid t && okParts ps) = true → ∃ B gr Ar cr, we.heap.size ≤ B ∧ v = .pointer (some ⟨gr, 0, none⟩) ∧ DAt B W.heap.size W gr Ar cr t (stC false ps) ps)
/-- The same ballot on both sides, apart. -/
structure Bo (B1 T1 B2 T2 : Nat) (w : World) (g : Nat) (A : Option Addr) (c gr : Nat) (Ar : Option Addr) (cr : Nat) (t : Tid) (ab : Bool) (l : List Sd) (s : Int) (m : List Sd) : Prop where
  code : CAt B1 T1 w g A c t ab l
  doc : DAt B2 T2 w gr Ar cr t s m
  like : Like l m
  st : s = stC ab l
  ti : T1 ≤ B2
  its : Its (fun k => k < B1) m
/-- While both sides are at work. -/
structure Mi (B1 T1 B2 T2 : Nat) (we : World) (g : Nat) (A : Option Addr) (c gr : Nat) (Ar : Option Addr) (cr : Nat) (t : Tid) (ab : Bool) (l : List Sd) (ab1 : Bool) (l1 : List Sd) (s : Int) (m : List Sd) (s1 : Int) (m1 : List Sd) (di dj : Bool) (W : World) : Prop where
  only : Only (fun k => foot g A k ∨ foot gr Ar k) we W
  code : CAt B1 T1 W g A c t (cond di ab1 ab) (cond di l1 l)
  doc : DAt B2 T2 W gr Ar cr t (cond dj s1 s) (cond dj m1 m)
  ti : T1 ≤ B2
  its : Its (fun k => k < B1) m ∧ Its (fun k => k < B1) m1
section
variable {B1 T1 B2 T2 g c gr cr : Nat} {we W W' w w1 : World} {A Ar : Option Addr} {t : Tid} {ab ab1 : Bool} {l l1 m m1 : List Sd} {s s1 : Int} {di dj : Bool}
theorem Bo.later (h : Bo B1 T1 B2 T2 w g A c gr Ar cr t ab l s m) (hb : Below w.heap.size w w1) : Bo B1 T1 B2 T2 w1 g A c gr Ar cr t ab l s m := ⟨h.code.later hb, h.doc.later hb, h.like, h.st, h.ti, h.its⟩
theorem Bo.mi (h : Bo B1 T1 B2 T2 we g A c gr Ar cr t ab l s m) (h1 : Its (fun k => k < B1) m1) (hb : Below we.heap.size we W) : Mi B1 T1 B2 T2 we g A c gr Ar cr t ab l ab1 l1 s m s1 m1 false false W :=
  ⟨Only.of_below hb, h.code.later hb, h.doc.later hb, h.ti, h.its, h1⟩
theorem Mi.later (h : Mi B1 T1 B2 T2 we g A c gr Ar cr t ab l ab1 l1 s m s1 m1 di dj W) (hb : Below W.heap.size W W') : Mi B1 T1 B2 T2 we g A c gr Ar cr t ab l ab1 l1 s m s1 m1 di dj W' :=
  ⟨h.only.trans (S' := fun _ => False) (Only.of_below hb) fun _ _ e => e.elim, h.code.later hb, h.doc.later hb, h.ti, h.its⟩
theorem Mi.doneC (h : Mi B1 T1 B2 T2 we g A c gr Ar cr t ab l ab1 l1 s m s1 m1 false dj W) (hc : CAt B1 T1 W' g A c t ab1 l1) (ho : Only (foot g A) W W') : Mi B1 T1 B2 T2 we g A c gr Ar cr t ab l ab1 l1 s m s1 m1 true dj W' :=
  ⟨h.only.trans (ho.mono (S' := fun k => foot g A k ∨ foot gr Ar k) fun k _ e => Or.inl e) fun _ _ e => e, hc, h.doc.keep (B1 := B1) ho (fun k e => by have := h.code.foot_in k e; have := h.ti; omega) fun x hx k e => Or.inr (by cases dj with | true => exact h.its.2 x hx k e | false => exact h.its.1 x hx k e), h.ti, h.its⟩
theorem Mi.doneR (h : Mi B1 T1 B2 T2 we g A c gr Ar cr t ab l ab1 l1 s m s1 m1 di false W) (hc : DAt B2 T2 W' gr Ar cr t s1 m1) (ho : Only (foot gr Ar) W W') : Mi B1 T1 B2 T2 we g A c gr Ar cr t ab l ab1 l1 s m s1 m1 di true W' :=
  ⟨h.only.trans (ho.mono (S' := fun k => foot g A k ∨ foot gr Ar k) fun k _ e => Or.inr e) fun _ _ e => e, h.code.keep2 ho (fun k e => by have := h.doc.foot_in k e; have := h.ti; omega), hc, h.ti, h.its⟩
theorem Mi.lo (h : Mi B1 T1 B2 T2 we g A c gr Ar cr t ab l ab1 l1 s m s1 m1 di dj W) : ∀ k, (foot g A k ∨ foot gr Ar k) → B1 ≤ k ∧ k < T2 := fun k e => by
  have h1 := h.code.low
  have h2 := h.doc.low
  have := h.ti
  rcases e with e | e
  · have := h.code.foot_in k e; omega
  · have := h.doc.foot_in k e; omega
end
theorem Bo.aside {B1 T1 B2 T2 g c gr cr x : Nat} {w w1 : World} {A Ar : Option Addr} {t : Tid} {ab : Bool} {l m : List Sd} {s : Int} (h : Bo B1 T1 B2 T2 w g A c gr Ar cr t ab l s m) (ho : Only (fun k => k = x) w w1) (hx : T2 ≤ x) : Bo B1 T1 B2 T2 w1 g A c gr Ar cr t ab l s m := by
  have hc := h.code.low
  have hd := h.doc.low
  have ht := h.ti
  refine ⟨h.code.only ho (by omega) (fun k e e2 => by have := h.code.top k e; omega) fun y hy k e e2 => (by have := (h.code.ifar y hy k e).1; omega), h.doc.only ho (by omega) (fun k e e2 => by have := h.doc.top k e; omega) fun y hy k e e2 => (by have := (h.doc.ifar y hy k e).1; omega), h.like, h.st, h.ti, h.its⟩
theorem Small.map {l : List Sd} (h : Small l) {f : Sd → Sd} (hf : ∀ s, (f s).its = s.its) : Small (l.map f) := fun s hs x hx => by
  obtain ⟨y, hy, rfl⟩ := List.mem_map.1 hs
  rw [hf] at hx
  exact h y hy x hx
theorem Small.vote {l : List Sd} (h : Small l) (s n : Int) (y : Bool) : Small (voteL s n y l) := by
  unfold voteL
  split
  · exact h.map fun s => by unfold Sd.say Sd.setY; split <;> rfl
  · exact h
theorem Small.akns {ns : List Int} : ∀ {l : List Sd}, Small l → Small (aknsL ns l) := by
  unfold aknsL
  induction ns with
  | nil => intro l h; exact h
  | cons n ns ih => intro l h; rw [List.foldl_cons]; exact ih (h.map fun s => by unfold Sd.akn Sd.setK; split <;> rfl)
theorem Small.ack {l : List Sd} (h : Small l) (s : Int) (ns : List Int) : Small (ackL s ns l) := by
  unfold ackL
  split
  · exact h.akns
  · exact h
/-- What the last region of a round has read. -/
structure Rd (we : World) (q : List Int) (its : List It) (nn : Nat) (d22 : Bool) (v22 : Value) (d30 : Bool) (v30 : Value) (d32 : Bool) (v32 : Value) (d40 : Bool) (v40 : Value) (d44 : Bool) (v44 : Value) (d50 : Bool) (v50 : Value) (W : World) : Prop where
  low : Below we.heap.size we W
  a : d22 = true → ∃ A c, v22 = .slice A q.length c
  b : d30 = true → ∃ A c, v30 = .slice A q.length c ∧ Nums W A q
  c : d32 = true → ∃ A c, v32 = .slice A q.length c ∧ Nums W A q
  d : d40 = true → ∃ L A c, v40 = .slice A L.length c ∧ IsJoin its L ∧ Items W A L
  e : d44 = true → ∃ L A c, v44 = .slice A L.length c ∧ IsJoin its L ∧ Items W A L
  f : d50 = true → ∃ A c, v50 = .slice A nn c
section
variable {we W W' : World} {q : List Int} {its : List It} {nn : Nat} {d22 d30 d32 d40 d44 d50 : Bool} {v22 v30 v32 v40 v44 v50 : Value}
theorem Rd.start (hb : Below we.heap.size we W) (v22 v30 v32 v40 v44 v50 : Value) : Rd we q its nn false v22 false v30 false v32 false v40 false v44 false v50 W :=
  ⟨hb, fun e => (by cases e), fun e => (by cases e), fun e => (by cases e), fun e => (by cases e), fun e => (by cases e), fun e => (by cases e)⟩
theorem Rd.later (h : Rd we q its nn d22 v22 d30 v30 d32 v32 d40 v40 d44 v44 d50 v50 W) (hb : Below W.heap.size W W') : Rd we q its nn d22 v22 d30 v30 d32 v32 d40 v40 d44 v44 d50 v50 W' :=
  ⟨h.low.trans (hb.mono h.low.size), h.a, fun e => (by obtain ⟨A, c, h1, h2⟩ := h.b e; exact ⟨A, c, h1, IRow.later h2 hb⟩), fun e => (by obtain ⟨A, c, h1, h2⟩ := h.c e; exact ⟨A, c, h1, IRow.later h2 hb⟩),
   fun e => (by obtain ⟨L, A, c, h1, h2, h3⟩ := h.d e; exact ⟨L, A, c, h1, h2, h3.later hb⟩), fun e => (by obtain ⟨L, A, c, h1, h2, h3⟩ := h.e e; exact ⟨L, A, c, h1, h2, h3.later hb⟩), h.f⟩
end
/-- Of an open ballot some vote is waited for. -/
theorem open_waits {ab : Bool} {l : List Sd} (h : stC ab l = 0) : (waitsL 0 l).length ≠ 0 := by
  obtain ⟨_, h2⟩ := stC_open h
  unfold allY at h2
  rw [List.all_eq_false] at h2
  obtain ⟨x, hx, hy⟩ := h2
  intro e
  unfold waitsL at e
  rw [List.length_map] at e
  have h3 : x ∈ l.filter (waitB 0) := List.mem_filter.2 ⟨hx, by unfold waitB; simp at hy; rw [hy]; rfl⟩
  rw [List.eq_nil_of_length_eq_zero e] at h3
  cases h3
theorem voteL_len (s n : Int) (y : Bool) (l : List Sd) : (voteL s n y l).length = l.length := by
  unfold voteL
  split
  · exact say_len n l
  · rfl
theorem ackL_len (s : Int) (ns : List Int) (l : List Sd) : (ackL s ns l).length = l.length := by
  unfold ackL
  split
  · exact akns_len ns l
  · rfl
theorem ack_more {ns : List Int} {k : Nat} (hk : k < ns.length) (s : Int) (m : List Sd) : ackL s (ns.take (k + 1)) m = (if s = 1 then aknL ns[k] (ackL s (ns.take k) m) else ackL s (ns.take k) m) := by
  unfold ackL
  split
  · exact akns_more hk m
  · rfl
end Go.Proofs.Ytjeogeablbkhgaa.Vot
