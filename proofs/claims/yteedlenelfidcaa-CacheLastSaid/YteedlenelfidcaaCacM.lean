/-
  Layer 17: entries, and a cache as a list, without memory. Conditions: none.
-/
import Derived.Test.YteedlenelfidcaaSls
namespace Go.Proofs.Yteedlenelfidcaa.Cac
open Go.RowKit Go.Deep Go.Proofs.Yteedlenelfidcaa.Mem

/-- An entry. -/
structure En where
  cell : Int
  ver : Int
  val : Int
  frm : Int
deriving DecidableEq
def En.vals (e : En) : List Value := [.int .i64 e.cell, .int .i64 e.ver, .int .i64 e.val, .int .i64 e.frm]
def En.v (e : En) : Value := .agg #[.int .i64 e.cell, .int .i64 e.ver, .int .i64 e.val, .int .i64 e.frm]
def en0 : En := ⟨0, 0, 0, 0⟩
theorem fit_es (l : List En) : Fit 4 (l.map En.vals) := ⟨fun v hv => by obtain ⟨x, _, rfl⟩ := List.mem_map.1 hv; rfl, fun v hv u hu => by
  obtain ⟨x, _, rfl⟩ := List.mem_map.1 hv
  unfold En.vals at hu
  simp only [List.mem_cons, List.not_mem_nil, or_false] at hu
  rcases hu with rfl | rfl | rfl | rfl <;> rfl⟩
/-- Where a cell's entry stands; -1: nowhere. -/
def atE (c : Int) : List En → Nat → Int
  | [], _ => -1
  | t :: l, n => if t.cell = c then (n : Int) else atE c l (n + 1)
def findE (c : Int) (l : List En) : Option En := l.find? fun t => decide (t.cell = c)
def delE (c : Int) (l : List En) : List En := l.eraseP fun t => decide (t.cell = c)
theorem atE_drop (c : Int) : ∀ (l : List En) (n : Nat), (∀ t ∈ l.take n, t.cell ≠ c) → atE c l 0 = atE c (l.drop n) n := by
  have aux : ∀ (l : List En) (n s : Nat), (∀ t ∈ l.take n, t.cell ≠ c) → n ≤ l.length → atE c l s = atE c (l.drop n) (s + n) := by
    intro l
    induction l with
    | nil => intro n s _ hn; simp at hn; subst hn; rfl
    | cons t l ih =>
      intro n s h hn
      cases n with
      | zero => rfl
      | succ n =>
        show (if t.cell = c then (s : Int) else atE c l (s + 1)) = atE c (l.drop n) (s + (n + 1))
        rw [if_neg (h t (by simp)), ih n (s + 1) (fun u hu => h u (by simp [hu])) (by simpa using hn)]
        congr 1
        omega
  intro l n h
  by_cases hn : n ≤ l.length
  · have := aux l n 0 h hn
    rwa [Nat.zero_add] at this
  · have h2 := aux l l.length 0 (by rw [List.take_of_length_le (by omega)] at h ⊢; exact h) (Nat.le_refl _)
    rw [h2, List.drop_length, List.drop_of_length_le (by omega)]
    rfl
/-- Where a cell's entry stands, what is found of it, and what is left without it. -/
theorem atE_spec (c : Int) : ∀ (l : List En) (n : Nat), (atE c l n = -1 ∧ findE c l = none ∧ delE c l = l ∧ ∀ t ∈ l, t.cell ≠ c) ∨
    ∃ (i : Nat) (h : i < l.length), atE c l n = ((n + i : Nat) : Int) ∧ findE c l = some l[i] ∧ delE c l = l.take i ++ l.drop (i + 1) ∧ l[i].cell = c
  | [], _ => Or.inl ⟨rfl, rfl, rfl, fun t h => by cases h⟩
  | t :: l, n => by
    unfold atE findE delE
    by_cases h : t.cell = c
    · rw [if_pos h, List.find?_cons_of_pos (by simpa using h), List.eraseP_cons_of_pos (by simpa using h)]
      exact Or.inr ⟨0, by simp, rfl, rfl, rfl, h⟩
    · rw [if_neg h, List.find?_cons_of_neg (by simpa using h), List.eraseP_cons_of_neg (by simpa using h)]
      rcases atE_spec c l (n + 1) with ⟨h1, h2, h3, h4⟩ | ⟨i, h1, h2, h3, h4, h5⟩
      · exact Or.inl ⟨h1, h2, by unfold delE at h3; rw [h3], fun u hu => by rcases List.mem_cons.1 hu with rfl | hu; exact h; exact h4 u hu⟩
      · refine Or.inr ⟨i + 1, by simpa using h1, by rw [h2]; congr 1; omega, by simpa [findE] using h3, ?_, by simpa using h5⟩
        unfold delE at h4
        rw [h4]
        rfl
/-- A cache with room. -/
structure Cc where
  room : Int
  l : List En
deriving DecidableEq
def getD0 (c : Int) (l : List En) : En := (findE c l).getD en0
def hasE (c : Int) (l : List En) : Bool := (findE c l).isSome
/-- An entry is put: is it taken? -/
def putE (R : Cc) (e : En) : Bool × Cc :=
  match findE e.cell R.l with
  | some x => if e.ver < x.ver then (false, R) else (true, { R with l := delE e.cell R.l ++ [e] })
  | none => (true, { R with l := (if (R.l.length : Int) = R.room then R.l.tail else R.l) ++ [e] })
/-- A cell's entry is used. -/
def useE (R : Cc) (c : Int) : Cc := match findE c R.l with
  | some x => { R with l := delE c R.l ++ [x] }
  | none => R
def dropE (R : Cc) (c : Int) : Bool × Cc := (hasE c R.l, { R with l := delE c R.l })
def staleE (R : Cc) (c v : Int) : Bool × Cc := if hasE c R.l = true ∧ (getD0 c R.l).ver < v then (true, { R with l := delE c R.l }) else (false, R)
def b1 (b : Bool) : Int := cond b 1 0
/-- Many are put, many dropped: how many were taken, how many there were. -/
def putsE (R : Cc) : List En → Int × Cc
  | [] => (0, R)
  | e :: t => ((b1 (putE R e).1 + (putsE (putE R e).2 t).1), (putsE (putE R e).2 t).2)
def dropsE (R : Cc) : List Int → Int × Cc
  | [] => (0, R)
  | c :: t => ((b1 (dropE R c).1 + (dropsE (dropE R c).2 t).1), (dropsE (dropE R c).2 t).2)
theorem putsE_more (e : En) : ∀ (l : List En) (R : Cc), putsE R (l ++ [e]) = ((putsE R l).1 + b1 (putE (putsE R l).2 e).1, (putE (putsE R l).2 e).2)
  | [], R => by simp [putsE]
  | x :: l, R => by
    rw [List.cons_append]
    show (_ + (putsE (putE R x).2 (l ++ [e])).1, (putsE (putE R x).2 (l ++ [e])).2) = _
    rw [putsE_more e l]
    show (_, _) = (_ + _ + _, _)
    rw [← Int.add_assoc]
    rfl
theorem dropsE_more (c : Int) : ∀ (l : List Int) (R : Cc), dropsE R (l ++ [c]) = ((dropsE R l).1 + b1 (dropE (dropsE R l).2 c).1, (dropE (dropsE R l).2 c).2)
  | [], R => by simp [dropsE]
  | x :: l, R => by
    rw [List.cons_append]
    show (_ + (dropsE (dropE R x).2 (l ++ [c])).1, (dropsE (dropE R x).2 (l ++ [c])).2) = _
    rw [dropsE_more c l]
    show (_, _) = (_ + _ + _, _)
    rw [← Int.add_assoc]
    rfl
/-- What holds of every cache: there is room, and no cell has two entries. -/
structure Cok (R : Cc) : Prop where
  lo : 1 ≤ R.room
  hi : R.room ≤ 16
  len : (R.l.length : Int) ≤ R.room
  one : (R.l.map (·.cell)).Nodup
theorem del_len (c : Int) (l : List En) : (delE c l).length ≤ l.length ∧ (hasE c l = true → (delE c l).length + 1 = l.length) := by
  unfold hasE
  rcases atE_spec c l 0 with ⟨_, h2, h3, _⟩ | ⟨i, hi, _, h2, h3, _⟩
  · rw [h2, h3]; exact ⟨Nat.le_refl _, fun e => by cases e⟩
  · rw [h3, List.length_append, List.length_take, List.length_drop]
    exact ⟨by omega, fun _ => by omega⟩
theorem del_sub (c : Int) (l : List En) : (delE c l).Sublist l := List.eraseP_sublist
theorem find_some {c : Int} {l : List En} {x : En} (h : findE c l = some x) : x ∈ l ∧ x.cell = c := ⟨List.mem_of_find?_eq_some h, of_decide_eq_true (List.find?_some h :)⟩
theorem find_none {c : Int} {l : List En} : findE c l = none ↔ ∀ t ∈ l, t.cell ≠ c := by
  unfold findE
  rw [List.find?_eq_none]
  exact ⟨fun h t ht e => h t ht (decide_eq_true e), fun h t ht e => h t ht (of_decide_eq_true e)⟩
/-- Where no cell has two entries, what stands there is what is found. -/
theorem find_mem {l : List En} (h : (l.map (·.cell)).Nodup) {x : En} (hx : x ∈ l) : findE x.cell l = some x := by
  induction l with
  | nil => cases hx
  | cons t l ih =>
    rw [List.map_cons, List.nodup_cons] at h
    unfold findE
    rcases List.mem_cons.1 hx with rfl | hx
    · rw [List.find?_cons_of_pos (by simp)]
    · rw [List.find?_cons_of_neg (by simpa using fun e => h.1 (List.mem_map.2 ⟨x, hx, e.symm⟩))]
      exact ih h.2 hx
theorem find_app {c : Int} {a b : List En} : findE c (a ++ b) = (findE c a).or (findE c b) := List.find?_append
theorem del_mem {c : Int} {l : List En} (h : (l.map (·.cell)).Nodup) {x : En} : x ∈ delE c l ↔ x ∈ l ∧ x.cell ≠ c := by
  induction l with
  | nil => exact ⟨fun e => (by cases e), fun e => (by cases e.1)⟩
  | cons t l ih =>
    rw [List.map_cons, List.nodup_cons] at h
    unfold delE at ih ⊢
    by_cases hc : t.cell = c
    · rw [List.eraseP_cons_of_pos (by simpa using hc), List.mem_cons]
      constructor
      · intro e
        exact ⟨Or.inr e, fun e2 => h.1 (List.mem_map.2 ⟨x, e, e2.trans hc.symm⟩)⟩
      · rintro ⟨rfl | e, e2⟩
        · exact absurd hc e2
        · exact e
    · rw [List.eraseP_cons_of_neg (by simpa using hc), List.mem_cons, List.mem_cons, ih h.2]
      constructor
      · rintro (rfl | e)
        · exact ⟨Or.inl rfl, hc⟩
        · exact ⟨Or.inr e.1, e.2⟩
      · rintro ⟨e | e, e2⟩
        · exact Or.inl e
        · exact Or.inr ⟨e, e2⟩
theorem one_sub {a b : List En} (h : (b.map (·.cell)).Nodup) (hs : a.Sublist b) : (a.map (·.cell)).Nodup := List.Pairwise.sublist (hs.map _) h
theorem one_more {a : List En} {e : En} (h : (a.map (·.cell)).Nodup) (he : ∀ t ∈ a, t.cell ≠ e.cell) : ((a ++ [e]).map (·.cell)).Nodup := by
  rw [List.map_append, List.nodup_append]
  refine ⟨h, by simp, fun x hx y hy e2 => ?_⟩
  obtain ⟨t, ht, rfl⟩ := List.mem_map.1 hx
  have : y = e.cell := by simpa using hy
  exact he t ht (e2.trans this)
theorem Cok.put {R : Cc} (h : Cok R) (e : En) : Cok (putE R e).2 := by
  unfold putE
  split
  · rename_i x hx
    split
    · exact h
    · refine ⟨h.lo, h.hi, ?_, one_more (one_sub h.one (del_sub _ _)) fun t ht => ((del_mem h.one).1 ht).2⟩
      have := (del_len e.cell R.l).2 (by unfold hasE; rw [hx]; rfl)
      have := h.len
      show ((delE e.cell R.l ++ [e]).length : Int) ≤ R.room
      rw [List.length_append, List.length_singleton]
      omega
  · rename_i hx
    have hne := find_none.1 hx
    have hl := h.len
    have h0 := h.lo
    split
    · rename_i hr
      refine ⟨h.lo, h.hi, ?_, one_more (one_sub h.one (List.tail_sublist _)) fun t ht => hne t (List.mem_of_mem_tail ht)⟩
      show ((R.l.tail ++ [e]).length : Int) ≤ R.room
      rw [List.length_append, List.length_singleton, List.length_tail]
      omega
    · rename_i hr
      refine ⟨h.lo, h.hi, ?_, one_more h.one hne⟩
      show ((R.l ++ [e]).length : Int) ≤ R.room
      rw [List.length_append, List.length_singleton]
      omega
theorem Cok.use {R : Cc} (h : Cok R) (c : Int) : Cok (useE R c) := by
  unfold useE
  split
  · rename_i x hx
    have hxc := (find_some hx).2
    refine ⟨h.lo, h.hi, ?_, one_more (one_sub h.one (del_sub _ _)) fun t ht => by rw [hxc]; exact ((del_mem h.one).1 ht).2⟩
    have := (del_len c R.l).2 (by unfold hasE; rw [hx]; rfl)
    have := h.len
    show ((delE c R.l ++ [x]).length : Int) ≤ R.room
    rw [List.length_append, List.length_singleton]
    omega
  · exact h
theorem Cok.del {R : Cc} (h : Cok R) (c : Int) : Cok { R with l := delE c R.l } :=
  ⟨h.lo, h.hi, by have := (del_len c R.l).1; have := h.len; show ((delE c R.l).length : Int) ≤ R.room; omega, one_sub h.one (del_sub _ _)⟩
theorem Cok.drop {R : Cc} (h : Cok R) (c : Int) : Cok (dropE R c).2 := h.del c
theorem Cok.stale {R : Cc} (h : Cok R) (c v : Int) : Cok (staleE R c v).2 := by
  unfold staleE
  split
  · exact h.del c
  · exact h
theorem Cok.puts : ∀ (l : List En) {R : Cc}, Cok R → Cok (putsE R l).2
  | [], _, h => h
  | e :: l, _, h => Cok.puts l (h.put e)
theorem Cok.drops : ∀ (l : List Int) {R : Cc}, Cok R → Cok (dropsE R l).2
  | [], _, h => h
  | e :: l, _, h => Cok.drops l (h.drop e)
theorem Cok.clear {R : Cc} (h : Cok R) : Cok { R with l := [] } := ⟨h.lo, h.hi, by have := h.lo; show ((0 : Nat) : Int) ≤ R.room; omega, List.nodup_nil⟩
theorem Cok.new {n : Int} (h : 1 ≤ n) (h2 : n ≤ 16) : Cok ⟨n, []⟩ := ⟨h, h2, by show ((0 : Nat) : Int) ≤ n; omega, List.nodup_nil⟩
theorem put_room (R : Cc) (e : En) : (putE R e).2.room = R.room := by
  unfold putE
  split
  · split <;> rfl
  · rfl
theorem Cok.l16 {R : Cc} (h : Cok R) : R.l.length ≤ 16 := by have := h.len; have := h.hi; omega
end Go.Proofs.Yteedlenelfidcaa.Cac
