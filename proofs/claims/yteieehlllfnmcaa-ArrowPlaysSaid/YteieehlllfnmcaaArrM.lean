/-
  Layer 16 without memory: where arrows lead; finds one after the other, and at the same time. Conditions: none.
-/
import Derived.Test.YteieehlllfnmcaaSpnM
namespace Go.Proofs.Yteieehlllfnmcaa.Arr
set_option maxRecDepth 100000
open Go.Proofs.Yteieehlllfnmcaa.Spn

/-- Where the arrow of v points when all lead to o. -/
def nx (v o : Nat) : Nat := if v = o then v else nxt v o
def upd (T : Nat → Nat) (v x : Nat) : Nat → Nat := fun u => if u = v then x else T u
theorem upd_self (T : Nat → Nat) (v x : Nat) : upd T v x v = x := if_pos rfl
theorem upd_ne (T : Nat → Nat) {v u : Nat} (x : Nat) (h : u ≠ v) : upd T v x u = T u := if_neg h
def okP (a b c : Nat) : Bool := !edgeB a b || decide (dst a c ≠ dst b c)
def okQ (a b : Nat) : Bool := decide (dst a b ≤ 7) && ((List.range (dst a b)).all (fun k => decide (nx ((pathL a b).getD (k + 1) 0) a = (pathL a b).getD k 0) && decide (nx ((pathL a b).getD k 0) b = (pathL a b).getD (k + 1) 0)) &&
  R16.all fun v => (pathL a b).contains v || decide (nx v a = nx v b))
def okAll2 : Bool := R16.all fun a => R16.all fun b => okQ a b && R16.all fun c => okP a b c
theorem all_ok2 : okAll2 = true := by kernel_rfl
section
variable {a b c : Nat}
theorem ok_q (h1 : 1 ≤ a) (h2 : a ≤ 16) (h3 : 1 ≤ b) (h4 : b ≤ 16) : okQ a b = true := by
  have h := List.all_eq_true.1 (List.all_eq_true.1 all_ok2 a (mem16 h1 h2)) b (mem16 h3 h4)
  rw [Bool.and_eq_true] at h
  exact h.1
theorem ok_p (h1 : 1 ≤ a) (h2 : a ≤ 16) (h3 : 1 ≤ b) (h4 : b ≤ 16) (h5 : 1 ≤ c) (h6 : c ≤ 16) (he : edgeB a b = true) : dst a c ≠ dst b c := by
  have h := List.all_eq_true.1 (List.all_eq_true.1 all_ok2 a (mem16 h1 h2)) b (mem16 h3 h4)
  rw [Bool.and_eq_true] at h
  have h := List.all_eq_true.1 h.2 c (mem16 h5 h6)
  unfold okP at h
  rw [he] at h
  simpa using h
theorem dst7 (h1 : 1 ≤ a) (h2 : a ≤ 16) (h3 : 1 ≤ b) (h4 : b ≤ 16) : dst a b ≤ 7 := by
  have h := ok_q h1 h2 h3 h4
  unfold okQ at h
  rw [Bool.and_eq_true, decide_eq_true_eq] at h
  exact h.1
theorem path_nx (h1 : 1 ≤ a) (h2 : a ≤ 16) (h3 : 1 ≤ b) (h4 : b ≤ 16) {k : Nat} (hk : k < dst a b) : nx ((pathL a b).getD (k + 1) 0) a = (pathL a b).getD k 0 ∧ nx ((pathL a b).getD k 0) b = (pathL a b).getD (k + 1) 0 := by
  have h := ok_q h1 h2 h3 h4
  unfold okQ at h
  rw [Bool.and_eq_true, Bool.and_eq_true] at h
  have h := List.all_eq_true.1 h.2.1 k (List.mem_range.2 hk)
  rw [Bool.and_eq_true, decide_eq_true_eq, decide_eq_true_eq] at h
  exact h
theorem off_nx (h1 : 1 ≤ a) (h2 : a ≤ 16) (h3 : 1 ≤ b) (h4 : b ≤ 16) {v : Nat} (h5 : 1 ≤ v) (h6 : v ≤ 16) (hv : v ∉ pathL a b) : nx v a = nx v b := by
  have h := ok_q h1 h2 h3 h4
  unfold okQ at h
  rw [Bool.and_eq_true, Bool.and_eq_true] at h
  have h := List.all_eq_true.1 h.2.2 v (mem16 h5 h6)
  rw [Bool.or_eq_true, decide_eq_true_eq] at h
  exact h.resolve_left fun e => hv (by simpa using e)
theorem edge_ne {x y : Nat} (h : edgeB x y = true) : x ≠ y := by
  rintro rfl
  unfold edgeB at h
  simp only [Bool.or_self, Bool.and_eq_true, decide_eq_true_eq, beq_iff_eq] at h
  omega
theorem edge_sym {x y : Nat} (h : edgeB x y = true) : edgeB y x = true := by unfold edgeB at h ⊢; rw [Bool.or_comm]; exact h
/-- All arrows that lead to o, at n nodes. -/
theorem nx_in {n v o : Nat} (hn : n ≤ 16) (h1 : 1 ≤ v) (h2 : v ≤ n) (h3 : 1 ≤ o) (h4 : o ≤ n) : 1 ≤ nx v o ∧ nx v o ≤ n ∧ (nx v o = v ↔ v = o) ∧ (v ≠ o → edgeB v (nx v o) = true ∧ dst (nx v o) o + 1 = dst v o) := by
  unfold nx
  split
  · rename_i e
    exact ⟨h1, h2, by simp [e], fun h => absurd e h⟩
  · rename_i e
    have hab := AB.of h1 (show v ≤ 16 by omega) h3 (show o ≤ 16 by omega)
    obtain ⟨_, e1, e2, e3, e4⟩ := hab.next e
    exact ⟨e3, by omega, ⟨fun h => absurd h.symm (edge_ne e1), fun h => absurd h e⟩, fun _ => ⟨e1, e2⟩⟩
end
/-- While a find goes along the path from a to b: k steps are made. -/
def midT (a b k : Nat) : Nat → Nat := fun v => if v ∈ (pathL a b).take (k + 1) then nx v a else nx v b
section
variable {n a b k : Nat}
theorem path_at (h1 : 1 ≤ a) (h2 : a ≤ 16) (h3 : 1 ≤ b) (h4 : b ≤ 16) (hk : k ≤ dst a b) : ∃ h : k < (pathL a b).length, (pathL a b).getD k 0 = (pathL a b)[k] := by
  have := (AB.of h1 h2 h3 h4).len
  exact ⟨by omega, by rw [List.getD_eq_getElem?_getD, List.getElem?_eq_getElem (by omega)]; rfl⟩
def pth (a b k : Nat) : Nat := (pathL a b).getD k 0
theorem pth_zero (h1 : 1 ≤ a) (h2 : a ≤ 16) (h3 : 1 ≤ b) (h4 : b ≤ 16) : pth a b 0 = a := by
  by_cases e : a = b
  · subst e; unfold pth pathL; rw [goP_eq]; rfl
  · unfold pth; rw [((AB.of h1 h2 h3 h4).next e).1]; rfl
theorem pth_last (h1 : 1 ≤ a) (h2 : a ≤ 16) (h3 : 1 ≤ b) (h4 : b ≤ 16) : pth a b (dst a b) = b := by
  have h := pth_zero h3 h4 h1 h2
  unfold pth at h ⊢
  rw [(AB.of h1 h2 h3 h4).back] at h
  have hl := (AB.of h1 h2 h3 h4).len
  rw [List.getD_eq_getElem?_getD, List.getElem?_reverse (by omega), show (pathL a b).length - 1 - 0 = dst a b by omega] at h
  rw [List.getD_eq_getElem?_getD]
  exact h
theorem pth_in (hn : n ≤ 16) (h1 : 1 ≤ a) (h2 : a ≤ n) (h3 : 1 ≤ b) (h4 : b ≤ n) (hk : k ≤ dst a b) : 1 ≤ pth a b k ∧ pth a b k ≤ n := by
  obtain ⟨hl, e⟩ := path_at h1 (show a ≤ 16 by omega) h3 (show b ≤ 16 by omega) hk
  have := (AB.of h1 (show a ≤ 16 by omega) h3 (show b ≤ 16 by omega)).mem _ (List.getElem_mem hl)
  unfold pth
  rw [e]
  omega
theorem pth_edge (hn : n ≤ 16) (h1 : 1 ≤ a) (h2 : a ≤ n) (h3 : 1 ≤ b) (h4 : b ≤ n) (hk : k < dst a b) : edgeB (pth a b k) (pth a b (k + 1)) = true ∧ pth a b k ≠ b := by
  have e := (path_nx h1 (show a ≤ 16 by omega) h3 (show b ≤ 16 by omega) hk).2
  obtain ⟨q1, q2⟩ := pth_in hn h1 h2 h3 h4 (Nat.le_of_lt hk)
  have hne : pth a b k ≠ b := fun e2 => by
    obtain ⟨hl, e3⟩ := path_at h1 (show a ≤ 16 by omega) h3 (show b ≤ 16 by omega) (Nat.le_of_lt hk)
    obtain ⟨hl2, e4⟩ := path_at h1 (show a ≤ 16 by omega) h3 (show b ≤ 16 by omega) (Nat.le_refl (dst a b))
    have e5 := pth_last h1 (show a ≤ 16 by omega) h3 (show b ≤ 16 by omega)
    unfold pth at e2 e5
    have := (List.getElem_inj (h₀ := hl) (h₁ := hl2) (AB.of h1 (show a ≤ 16 by omega) h3 (show b ≤ 16 by omega)).nod).1 (by rw [← e3, ← e4, e2, e5])
    omega
  have := (nx_in hn q1 q2 h3 h4).2.2.2 hne
  unfold pth at this ⊢
  rw [e] at this
  exact ⟨this.1, hne⟩
/-- The arrow that the find comes to. -/
theorem mid_next (hn : n ≤ 16) (h1 : 1 ≤ a) (h2 : a ≤ n) (h3 : 1 ≤ b) (h4 : b ≤ n) (hk : k < dst a b) : midT a b k (pth a b (k + 1)) = (if k + 1 = dst a b then b else pth a b (k + 2)) := by
  obtain ⟨hl, e3⟩ := path_at h1 (show a ≤ 16 by omega) h3 (show b ≤ 16 by omega) (show k + 1 ≤ dst a b from hk)
  have hnm : pth a b (k + 1) ∉ (pathL a b).take (k + 1) := fun h => by
    obtain ⟨i, hi, e⟩ := List.getElem_of_mem h
    rw [List.getElem_take] at e
    rw [List.length_take] at hi
    unfold pth at e
    rw [e3] at e
    have := (List.getElem_inj (h₀ := by omega) (h₁ := hl) (AB.of h1 (show a ≤ 16 by omega) h3 (show b ≤ 16 by omega)).nod).1 e
    omega
  unfold midT
  rw [if_neg hnm]
  by_cases e : k + 1 = dst a b
  · rw [if_pos e, e, pth_last h1 (by omega) h3 (by omega)]
    unfold nx
    rw [if_pos rfl]
  · rw [if_neg e]
    exact (path_nx h1 (show a ≤ 16 by omega) h3 (show b ≤ 16 by omega) (show k + 1 < dst a b by omega)).2
theorem mid_upd (hn : n ≤ 16) (h1 : 1 ≤ a) (h2 : a ≤ n) (h3 : 1 ≤ b) (h4 : b ≤ n) (hk : k < dst a b) : upd (midT a b k) (pth a b (k + 1)) (pth a b k) = midT a b (k + 1) := by
  obtain ⟨hl, e3⟩ := path_at h1 (show a ≤ 16 by omega) h3 (show b ≤ 16 by omega) (show k + 1 ≤ dst a b from hk)
  funext u
  unfold upd midT
  rw [List.take_succ_eq_append_getElem hl]
  by_cases e : u = pth a b (k + 1)
  · rw [if_pos e, if_pos (by rw [List.mem_append]; exact Or.inr (by rw [e]; unfold pth; rw [e3]; simp)), e]
    exact ((path_nx h1 (show a ≤ 16 by omega) h3 (show b ≤ 16 by omega) hk).1).symm
  · rw [if_neg e]
    have : (u ∈ (pathL a b).take (k + 1) ++ [(pathL a b)[k + 1]]) ↔ u ∈ (pathL a b).take (k + 1) := by
      rw [List.mem_append, List.mem_singleton]
      exact ⟨fun h => h.resolve_right fun e2 => e (by rw [e2]; unfold pth; rw [e3]), Or.inl⟩
    by_cases h : u ∈ (pathL a b).take (k + 1)
    · rw [if_pos h, if_pos (this.2 h)]
    · rw [if_neg h, if_neg fun e => h (this.1 e)]
theorem mid_zero (hn : n ≤ 16) (h1 : 1 ≤ a) (h2 : a ≤ n) (h3 : 1 ≤ b) (h4 : b ≤ n) : upd (fun v => nx v b) a a = midT a b 0 := by
  have h := pth_zero h1 (show a ≤ 16 by omega) h3 (show b ≤ 16 by omega)
  obtain ⟨hl, e3⟩ := path_at h1 (show a ≤ 16 by omega) h3 (show b ≤ 16 by omega) (Nat.zero_le (dst a b))
  unfold pth at h
  rw [e3] at h
  funext u
  unfold upd midT
  rw [List.take_succ_eq_append_getElem hl, h]
  by_cases e : u = a
  · rw [if_pos e, if_pos (by simp [e]), e]
    unfold nx
    rw [if_pos rfl]
  · rw [if_neg e, if_neg (by simpa using e)]
theorem mid_over (hn : n ≤ 16) (h1 : 1 ≤ a) (h2 : a ≤ n) (h3 : 1 ≤ b) (h4 : b ≤ n) {v : Nat} (h5 : 1 ≤ v) (h6 : v ≤ n) : midT a b (dst a b) v = nx v a := by
  have hl := (AB.of h1 (show a ≤ 16 by omega) h3 (show b ≤ 16 by omega)).len
  unfold midT
  rw [List.take_of_length_le (by omega)]
  by_cases h : v ∈ pathL a b
  · rw [if_pos h]
  · rw [if_neg h]
    exact (off_nx h1 (by omega) h3 (by omega) h5 (by omega) h).symm
end
/-- A find on its way. -/
structure Fd where
  who : Nat
  src : Nat
  tgt : Nat
def unl (f g : Fd) : Prop := ¬ ((f.src = g.src ∧ f.tgt = g.tgt) ∨ (f.src = g.tgt ∧ f.tgt = g.src))
theorem unl_symm {f g : Fd} (h : unl f g) : unl g f := fun e => h (e.elim (fun x => Or.inl ⟨x.1.symm, x.2.symm⟩) fun x => Or.inr ⟨x.2.symm, x.1.symm⟩)
structure FdOk (n : Nat) (T : Nat → Nat) (f : Fd) : Prop where
  s1 : 1 ≤ f.src
  s2 : f.src ≤ n
  t1 : 1 ≤ f.tgt
  t2 : f.tgt ≤ n
  w1 : 1 ≤ f.who
  w2 : f.who ≤ n
  ed : edgeB f.src f.tgt = true
  a1 : T f.src ≠ f.tgt
  a2 : T f.tgt ≠ f.src
  ds : dst f.tgt f.who = dst f.src f.who + 1
/-- What holds while finds go at the same time. -/
structure QI (n : Nat) (T : Nat → Nat) (way : List Fd) (asked behind : List Nat) (asks ended : Nat) : Prop where
  nb : ∀ v, 1 ≤ v → v ≤ n → 1 ≤ T v ∧ T v ≤ n ∧ (T v = v ∨ edgeB v (T v) = true)
  ex : ∀ v, 1 ≤ v → v ≤ n → T v ≠ v → T (T v) ≠ v
  fd : ∀ f ∈ way, FdOk n T f
  pw : way.Pairwise unl
  hm : ∀ v, 1 ≤ v → v ≤ n → (T v = v ↔ v ∈ asked ∧ v ∉ behind)
  bs : ∀ v ∈ behind, v ∈ asked
  nd : asked.Nodup
  rg : ∀ v ∈ asked, 1 ≤ v ∧ v ≤ n
  cn : asks + 1 = asked.length
  en : ended + way.length = asks
def mu (way : List Fd) : Nat := (way.map fun f => 8 - dst f.tgt f.who).sum
section
variable {n asks ended : Nat} {T : Nat → Nat} {way : List Fd} {asked behind : List Nat}
theorem QI.start (hn : n ≤ 16) {o : Nat} (h1 : 1 ≤ o) (h2 : o ≤ n) : QI n (fun v => nx v o) [] [o] [] 0 0 := by
  have hx := fun v (e1 : 1 ≤ v) (e2 : v ≤ n) => nx_in hn e1 e2 h1 h2
  refine ⟨fun v e1 e2 => ?_, fun v e1 e2 e3 => ?_, fun f hf => (by cases hf), List.Pairwise.nil, fun v e1 e2 => ?_, fun v hv => (by cases hv), by simp, fun v hv => ?_, rfl, rfl⟩
  · obtain ⟨q1, q2, q3, q4⟩ := hx v e1 e2
    by_cases e : v = o
    · exact ⟨q1, q2, Or.inl (q3.2 e)⟩
    · exact ⟨q1, q2, Or.inr (q4 e).1⟩
  · obtain ⟨q1, q2, q3, q4⟩ := hx v e1 e2
    have hv : v ≠ o := fun e => e3 (q3.2 e)
    obtain ⟨r1, r2, r3, r4⟩ := hx (nx v o) q1 q2
    intro e5
    have e5 : nx (nx v o) o = v := e5
    by_cases e6 : nx v o = o
    · rw [r3.2 e6] at e5
      exact e3 e5
    · have := (r4 e6).2
      have := (q4 hv).2
      rw [e5] at *
      omega
  · rw [(hx v e1 e2).2.2.1]
    simp
  · have : v = o := by simpa using hv
    subst this
    exact ⟨h1, h2⟩
theorem nodup_le : ∀ {n : Nat} {l : List Nat}, l.Nodup → (∀ v ∈ l, 1 ≤ v ∧ v ≤ n) → l.length ≤ n
  | 0, l, _, h => by
    match l, h with
    | [], _ => simp
    | x :: r, h => have := h x (by simp); omega
  | n + 1, l, hd, h => by
    have h1 := nodup_le (n := n) (hd.erase (n + 1)) fun v hv => by
      have h2 := (hd.mem_erase_iff).1 hv
      have := h v h2.2
      have := h2.1
      omega
    by_cases hm : n + 1 ∈ l
    · rw [List.length_erase_of_mem hm] at h1
      omega
    · rw [List.erase_of_not_mem hm] at h1
      omega
theorem QI.few (h : QI n T way asked behind asks ended) : way.length + 1 ≤ n := by
  have h1 : asked.length ≤ n := by
    exact nodup_le h.nd h.rg
  have := h.cn
  have := h.en
  omega
theorem mu_le (hn : n ≤ 16) : ∀ {way : List Fd}, (∀ f ∈ way, FdOk n T f) → mu way ≤ 7 * way.length
  | [], _ => by simp [mu]
  | f :: r, h => by
    have h1 := mu_le hn (way := r) fun g hg => h g (List.mem_cons_of_mem _ hg)
    have h2 := (h f List.mem_cons_self).ds
    unfold mu at h1 ⊢
    rw [List.map_cons, List.sum_cons, List.length_cons]
    omega
theorem mu_app (l m : List Fd) : mu (l ++ m) = mu l + mu m := by unfold mu; rw [List.map_append, List.sum_append]
theorem mu_pos (hn : n ≤ 16) (h : ∀ f ∈ way, FdOk n T f) (h0 : way ≠ []) : 1 ≤ mu way := by
  match way, h0, h with
  | f :: r, _, h =>
    have h2 := h f List.mem_cons_self
    have := dst7 h2.t1 (show f.tgt ≤ 16 by have := h2.t2; omega) h2.w1 (show f.who ≤ 16 by have := h2.w2; omega)
    unfold mu
    rw [List.map_cons, List.sum_cons]
    omega
/-- A node asks. -/
theorem QI.want (hn : n ≤ 16) (h : QI n T way asked behind asks ended) {v : Nat} (h1 : 1 ≤ v) (h2 : v ≤ n) (hv : v ∉ asked) :
    T v ≠ v ∧ QI n (upd T v v) (way ++ [⟨v, v, T v⟩]) (asked ++ [v]) behind (asks + 1) ended := by
  have hne : T v ≠ v := fun e => hv ((h.hm v h1 h2).1 e).1
  obtain ⟨t1, t2, t3⟩ := h.nb v h1 h2
  have hed := t3.resolve_left hne
  have hex := h.ex v h1 h2 hne
  refine ⟨hne, ⟨fun u e1 e2 => ?_, fun u e1 e2 e3 => ?_, fun f hf => ?_, ?_, fun u e1 e2 => ?_, fun u hu => List.mem_append.2 (Or.inl (h.bs u hu)), ?_, fun u hu => ?_, ?_, ?_⟩⟩
  · by_cases e : u = v
    · subst e
      rw [upd_self]
      exact ⟨e1, e2, Or.inl rfl⟩
    · rw [upd_ne _ _ e]
      exact h.nb u e1 e2
  · by_cases e : u = v
    · subst e
      rw [upd_self] at e3
      exact absurd rfl e3
    · rw [upd_ne _ _ e] at e3 ⊢
      by_cases e4 : T u = v
      · rw [e4, upd_self]
        exact fun e5 => e e5.symm
      · rw [upd_ne _ _ e4]
        exact h.ex u e1 e2 e3
  · rcases List.mem_append.1 hf with hf | hf
    · have k := h.fd f hf
      refine ⟨k.s1, k.s2, k.t1, k.t2, k.w1, k.w2, k.ed, ?_, ?_, k.ds⟩
      · by_cases e : f.src = v
        · rw [e, upd_self]
          exact fun e2 => edge_ne k.ed (e.trans e2)
        · rw [upd_ne _ _ e]
          exact k.a1
      · by_cases e : f.tgt = v
        · rw [e, upd_self]
          exact fun e2 => edge_ne k.ed (e2.symm.trans e.symm)
        · rw [upd_ne _ _ e]
          exact k.a2
    · have : f = ⟨v, v, T v⟩ := by simpa using hf
      subst this
      refine ⟨h1, h2, t1, t2, h1, h2, hed, ?_, ?_, ?_⟩
      · show upd T v v v ≠ T v
        rw [upd_self]
        exact fun e => hne e.symm
      · show upd T v v (T v) ≠ v
        rw [upd_ne _ _ hne]
        exact hex
      · show dst (T v) v = dst v v + 1
        have z1 := (AB.of h1 (show v ≤ 16 by omega) h1 (show v ≤ 16 by omega)).zero.2 rfl
        have z2 := (AB.of t1 (show T v ≤ 16 by omega) h1 (show v ≤ 16 by omega)).zero
        have z3 := (abc_le h1 (show v ≤ 16 by omega) t1 (show T v ≤ 16 by omega) h1 (show v ≤ 16 by omega) hed).1
        have : dst (T v) v ≠ 0 := fun e => hne (z2.1 e)
        omega
  · rw [List.pairwise_append]
    refine ⟨h.pw, by simp, fun f hf g hg => ?_⟩
    have : g = ⟨v, v, T v⟩ := by simpa using hg
    subst this
    have k := h.fd f hf
    rintro (⟨e1, e2⟩ | ⟨e1, e2⟩)
    · simp only at e1 e2
      exact k.a1 (by rw [e1, e2])
    · simp only at e1 e2
      exact k.a2 (by rw [e1, e2])
  · by_cases e : u = v
    · subst e
      rw [upd_self]
      exact ⟨fun _ => ⟨by simp, fun hb => hv (h.bs u hb)⟩, fun _ => rfl⟩
    · rw [upd_ne _ _ e, h.hm u e1 e2, List.mem_append, List.mem_singleton]
      exact ⟨fun ⟨x, y⟩ => ⟨Or.inl x, y⟩, fun ⟨x, y⟩ => ⟨x.resolve_right e, y⟩⟩
  · rw [List.nodup_append]
    exact ⟨h.nd, by simp, fun x hx y hy e => hv (by
      have e2 : y = v := by simpa using hy
      rw [← e2, ← e]
      exact hx)⟩
  · rcases List.mem_append.1 hu with hu | hu
    · exact h.rg u hu
    · have : u = v := by simpa using hu
      subst this
      exact ⟨h1, h2⟩
  · have := h.cn
    rw [List.length_append, List.length_singleton]
    omega
  · have := h.en
    rw [List.length_append, List.length_singleton]
    omega
/-- A find comes. -/
theorem QI.come (hn : n ≤ 16) {l m : List Fd} {f : Fd} (h : QI n T (l ++ f :: m) asked behind asks ended) :
    f.tgt ≠ f.who ∧ edgeB f.tgt f.src = true ∧
    (T f.tgt = f.tgt → f.tgt ∈ asked ∧ f.tgt ∉ behind ∧ QI n (upd T f.tgt f.src) (l ++ m) asked (behind ++ [f.tgt]) asks (ended + 1) ∧ mu (l ++ m) + 1 ≤ mu (l ++ f :: m)) ∧
    (T f.tgt ≠ f.tgt → QI n (upd T f.tgt f.src) (l ++ m ++ [⟨f.who, f.tgt, T f.tgt⟩]) asked behind asks ended ∧ mu (l ++ m ++ [⟨f.who, f.tgt, T f.tgt⟩]) + 1 ≤ mu (l ++ f :: m)) := by
  have k := h.fd f (by simp)
  have hs16 : f.src ≤ 16 := by have := k.s2; omega
  have ht16 : f.tgt ≤ 16 := by have := k.t2; omega
  have hw16 : f.who ≤ 16 := by have := k.w2; omega
  have hrest : ∀ g ∈ l ++ m, FdOk n T g ∧ unl f g := fun g hg => by
    have hp := h.pw
    rw [List.pairwise_append, List.pairwise_cons] at hp
    obtain ⟨p1, ⟨p2, p3⟩, p4⟩ := hp
    rcases List.mem_append.1 hg with hg | hg
    · exact ⟨h.fd g (by simp [hg]), unl_symm (p4 g hg f (by simp))⟩
    · exact ⟨h.fd g (by simp [hg]), p2 g hg⟩
  have hpw : (l ++ m).Pairwise unl := by
    have hp := h.pw
    rw [List.pairwise_append, List.pairwise_cons] at hp
    rw [List.pairwise_append]
    exact ⟨hp.1, hp.2.1.2, fun g hg g' hg' => hp.2.2 g hg g' (List.mem_cons_of_mem _ hg')⟩
  have hts := k.a2
  have hts0 : f.tgt ≠ f.src := fun e => edge_ne k.ed e.symm
  have hrest2 : ∀ g ∈ l ++ m, FdOk n (upd T f.tgt f.src) g := fun g hg => by
    obtain ⟨q, hq⟩ := hrest g hg
    refine ⟨q.s1, q.s2, q.t1, q.t2, q.w1, q.w2, q.ed, ?_, ?_, q.ds⟩
    · by_cases e : g.src = f.tgt
      · rw [e, upd_self]
        exact fun e2 => hq (Or.inr ⟨e2, e.symm⟩)
      · rw [upd_ne _ _ e]
        exact q.a1
    · by_cases e : g.tgt = f.tgt
      · rw [e, upd_self]
        exact fun e2 => hq (Or.inl ⟨e2, e.symm⟩)
      · rw [upd_ne _ _ e]
        exact q.a2
  have hnb2 : ∀ v, 1 ≤ v → v ≤ n → 1 ≤ upd T f.tgt f.src v ∧ upd T f.tgt f.src v ≤ n ∧ (upd T f.tgt f.src v = v ∨ edgeB v (upd T f.tgt f.src v) = true) := fun v e1 e2 => by
    by_cases e : v = f.tgt
    · rw [e, upd_self]
      exact ⟨k.s1, k.s2, Or.inr (edge_sym k.ed)⟩
    · rw [upd_ne _ _ e]
      exact h.nb v e1 e2
  have hex2 : ∀ v, 1 ≤ v → v ≤ n → upd T f.tgt f.src v ≠ v → upd T f.tgt f.src (upd T f.tgt f.src v) ≠ v := fun v e1 e2 e3 => by
    by_cases e : v = f.tgt
    · subst e
      rw [upd_self, upd_ne _ _ (Ne.symm hts0)]
      exact k.a1
    · rw [upd_ne _ _ e] at e3 ⊢
      by_cases e4 : T v = f.tgt
      · rw [e4, upd_self]
        exact fun e5 => k.a1 (by rw [e5]; exact e4)
      · rw [upd_ne _ _ e4]
        exact h.ex v e1 e2 e3
  have hmu : mu (l ++ f :: m) = mu (l ++ m) + (8 - dst f.tgt f.who) := by
    rw [show l ++ f :: m = l ++ ([f] ++ m) by simp, mu_app, mu_app, mu_app]
    have : mu [f] = 8 - dst f.tgt f.who := by simp [mu]
    omega
  have hd7 := dst7 k.t1 ht16 k.w1 hw16
  have hlen : (l ++ f :: m).length = (l ++ m).length + 1 := by simp; omega
  refine ⟨fun e => ?_, edge_sym k.ed, fun e => ?_, fun e => ?_⟩
  · have := (AB.of k.t1 ht16 k.w1 hw16).zero.2 e
    have := k.ds
    omega
  · obtain ⟨ha, hb⟩ := (h.hm _ k.t1 k.t2).1 e
    refine ⟨ha, hb, ⟨hnb2, hex2, hrest2, hpw, fun v e1 e2 => ?_, fun v hv => ?_, h.nd, h.rg, h.cn, ?_⟩, by omega⟩
    · by_cases e3 : v = f.tgt
      · subst e3
        rw [upd_self]
        exact ⟨fun e4 => absurd e4.symm hts0, fun e4 => absurd (List.mem_append.2 (Or.inr (by simp))) e4.2⟩
      · rw [upd_ne _ _ e3, h.hm v e1 e2, List.mem_append, List.mem_singleton]
        exact ⟨fun ⟨x, y⟩ => ⟨x, fun z => z.elim y e3⟩, fun ⟨x, y⟩ => ⟨x, fun z => y (Or.inl z)⟩⟩
    · rcases List.mem_append.1 hv with hv | hv
      · exact h.bs v hv
      · have : v = f.tgt := by simpa using hv
        rw [this]
        exact ha
    · have := h.en
      omega
  · obtain ⟨t1, t2, t3⟩ := h.nb _ k.t1 k.t2
    have hed := t3.resolve_left e
    have hx := h.ex _ k.t1 k.t2 e
    have hon : dst (T f.tgt) f.who = dst f.tgt f.who + 1 := by
      have z1 := abc_le k.t1 ht16 t1 (show T f.tgt ≤ 16 by omega) k.w1 hw16 hed
      have z2 := abc_le k.t1 ht16 k.s1 hs16 k.w1 hw16 (edge_sym k.ed)
      have z3 := abc_le t1 (show T f.tgt ≤ 16 by omega) k.t1 ht16 k.w1 hw16 (edge_sym hed)
      have z4 := ok_p k.t1 ht16 t1 (show T f.tgt ≤ 16 by omega) k.w1 hw16 hed
      have z5 := k.ds
      have z6 := z2.2 (by omega)
      by_cases z7 : dst (T f.tgt) f.who + 1 = dst f.tgt f.who
      · exact absurd ((z1.2 z7).trans z6.symm) hts
      · omega
    refine ⟨⟨hnb2, hex2, fun g hg => ?_, ?_, fun v e1 e2 => ?_, h.bs, h.nd, h.rg, h.cn, ?_⟩, ?_⟩
    · rcases List.mem_append.1 hg with hg | hg
      · exact hrest2 g hg
      · have : g = ⟨f.who, f.tgt, T f.tgt⟩ := by simpa using hg
        subst this
        refine ⟨k.t1, k.t2, t1, t2, k.w1, k.w2, hed, ?_, ?_, hon⟩
        · show upd T f.tgt f.src f.tgt ≠ T f.tgt
          rw [upd_self]
          exact fun e2 => hts e2.symm
        · show upd T f.tgt f.src (T f.tgt) ≠ f.tgt
          rw [upd_ne _ _ e]
          exact hx
    · rw [List.pairwise_append]
      refine ⟨hpw, by simp, fun g hg g' hg' => ?_⟩
      have : g' = ⟨f.who, f.tgt, T f.tgt⟩ := by simpa using hg'
      subst this
      have q := (hrest g hg).1
      rintro (⟨e1, e2⟩ | ⟨e1, e2⟩)
      · simp only at e1 e2
        exact q.a1 (by rw [e1, e2])
      · simp only at e1 e2
        exact q.a2 (by rw [e1, e2])
    · by_cases e3 : v = f.tgt
      · subst e3
        rw [upd_self, ← h.hm _ e1 e2]
        exact ⟨fun e4 => absurd e4.symm hts0, fun e4 => absurd e4 e⟩
      · rw [upd_ne _ _ e3]
        exact h.hm v e1 e2
    · have := h.en
      rw [List.length_append, List.length_singleton]
      omega
    · rw [mu_app]
      have : mu [(⟨f.who, f.tgt, T f.tgt⟩ : Fd)] = 8 - dst (T f.tgt) f.who := by simp [mu]
      omega
end
end Go.Proofs.Yteieehlllfnmcaa.Arr
