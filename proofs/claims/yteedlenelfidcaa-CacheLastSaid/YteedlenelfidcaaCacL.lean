/-
  Layer 17, CacheLast: the cells that were put last, without memory. Conditions: none.
-/
import Derived.Test.YteedlenelfidcaaCacM
namespace Go.Proofs.Yteedlenelfidcaa.Cac
open Go.RowKit Go.Deep Go.Proofs.Yteedlenelfidcaa.Mem

/-- The newest entry of each cell, the newest first (of entries whose newest stands first). -/
def newL : List En → List En
  | [] => []
  | e :: r => e :: (newL r).filter fun t => decide (t.cell ≠ e.cell)
theorem newL_sub : ∀ (r : List En) (x : En), x ∈ newL r → x ∈ r
  | e :: r, x, h => by
    rcases List.mem_cons.1 h with rfl | h
    · exact List.mem_cons_self
    · exact List.mem_cons_of_mem _ (newL_sub r x (List.mem_filter.1 h).1)
theorem newL_one : ∀ (r : List En), ((newL r).map (·.cell)).Nodup
  | [] => List.nodup_nil
  | e :: r => by
    show (e.cell :: ((newL r).filter _).map (·.cell)).Nodup
    refine List.nodup_cons.2 ⟨fun h => ?_, one_sub (newL_one r) List.filter_sublist⟩
    obtain ⟨x, hx, e2⟩ := List.mem_map.1 h
    exact of_decide_eq_true (List.mem_filter.1 hx).2 e2
theorem newL_cell : ∀ (r : List En) (c : Int), (∃ x ∈ newL r, x.cell = c) ↔ ∃ x ∈ r, x.cell = c
  | [], c => ⟨fun ⟨_, h, _⟩ => (by cases h), fun ⟨_, h, _⟩ => (by cases h)⟩
  | e :: r, c => by
    constructor
    · rintro ⟨x, hx, rfl⟩
      exact ⟨x, newL_sub _ _ hx, rfl⟩
    · rintro ⟨x, hx, rfl⟩
      by_cases hc : x.cell = e.cell
      · exact ⟨e, List.mem_cons_self, hc.symm⟩
      · rcases List.mem_cons.1 hx with rfl | hx
        · exact absurd rfl hc
        · obtain ⟨y, hy, e2⟩ := (newL_cell r x.cell).2 ⟨x, hx, rfl⟩
          exact ⟨y, List.mem_cons_of_mem _ (List.mem_filter.2 ⟨hy, decide_eq_true (by rw [e2]; exact hc)⟩), e2⟩
theorem newL_app : ∀ (s t : List En), newL (s ++ t) = newL s ++ (newL t).filter fun x => decide (∀ y ∈ s, x.cell ≠ y.cell)
  | [], t => by
    have : (newL t).filter (fun x => decide (∀ y ∈ ([] : List En), x.cell ≠ y.cell)) = newL t := List.filter_eq_self.2 fun x _ => decide_eq_true fun y hy => (by cases hy)
    rw [this]
    rfl
  | e :: s, t => by
    show e :: (newL (s ++ t)).filter _ = (e :: (newL s).filter _) ++ _
    rw [newL_app s t, List.filter_append, List.filter_filter, List.cons_append]
    congr 2
    refine List.filter_congr fun x _ => ?_
    by_cases h1 : x.cell = e.cell
    · rw [decide_eq_false (show ¬ x.cell ≠ e.cell from fun h => h h1), Bool.false_and, decide_eq_false]
      exact fun h => h e List.mem_cons_self h1
    · rw [decide_eq_true (show x.cell ≠ e.cell from h1), Bool.true_and]
      refine decide_eq_decide.2 ⟨fun h y hy => ?_, fun h y hy => h y (List.mem_cons_of_mem _ hy)⟩
      rcases List.mem_cons.1 hy with rfl | hy
      · exact h1
      · exact h y hy
/-- The place of an entry whose cell doesn't stand ahead of it. -/
theorem newL_at (s t : List En) (e : En) (h : ∀ y ∈ s, e.cell ≠ y.cell) : (newL (s ++ e :: t))[(newL s).length]? = some e := by
  rw [newL_app, List.getElem?_append_right (Nat.le_refl _), Nat.sub_self]
  have h2 : newL (e :: t) = e :: (newL t).filter fun x => decide (x.cell ≠ e.cell) := rfl
  rw [h2, List.filter_cons, if_pos (by simpa using h)]
  rfl
theorem newL_len : ∀ (r : List En), (newL r).length ≤ r.length
  | [] => Nat.le_refl _
  | e :: r => by
    have h1 := newL_len r
    have h2 := List.length_filter_le (fun t => decide (t.cell ≠ e.cell)) (newL r)
    show ((newL r).filter _).length + 1 ≤ r.length + 1
    omega
theorem del_filter {c : Int} {l : List En} (h : (l.map (·.cell)).Nodup) : delE c l = l.filter fun t => decide (t.cell ≠ c) := by
  induction l with
  | nil => rfl
  | cons t l ih =>
    rw [List.map_cons, List.nodup_cons] at h
    unfold delE at ih ⊢
    by_cases hc : t.cell = c
    · rw [List.eraseP_cons_of_pos (by simpa using hc), List.filter_cons_of_neg (by simpa using hc)]
      exact (List.filter_eq_self.2 fun x hx => by
        have : x.cell ≠ c := fun e => h.1 (List.mem_map.2 ⟨x, hx, e.trans hc.symm⟩)
        simpa using this).symm
    · rw [List.eraseP_cons_of_neg (by simpa using hc), List.filter_cons_of_pos (by simpa using hc), ih h.2]
theorem nodup_rev {l : List En} (h : (l.map (·.cell)).Nodup) : (l.reverse.map (·.cell)).Nodup := by
  rw [List.map_reverse]
  exact List.pairwise_reverse.2 (h.imp fun e => Ne.symm e)
theorem take_one {X : List En} (h : (X.map (·.cell)).Nodup) (n : Nat) : ((X.take n).map (·.cell)).Nodup := one_sub h (List.take_sublist _ _)
/-- An entry is put behind entries that are elder. -/
theorem put_new {X : List En} {n : Nat} {e : En} (hX : (X.map (·.cell)).Nodup) (h1 : 1 ≤ n) (hv : ∀ x ∈ X, x.ver ≤ e.ver) :
    putE ⟨n, (X.take n).reverse⟩ e = (true, ⟨n, ((e :: X.filter fun t => decide (t.cell ≠ e.cell)).take n).reverse⟩) := by
  obtain ⟨m, rfl⟩ : ∃ m, n = m + 1 := ⟨n - 1, by omega⟩
  have hT := take_one hX (m + 1)
  have hsplit : X.filter (fun t => decide (t.cell ≠ e.cell)) = (X.take (m + 1)).filter (fun t => decide (t.cell ≠ e.cell)) ++ (X.drop (m + 1)).filter (fun t => decide (t.cell ≠ e.cell)) := by rw [← List.filter_append, List.take_append_drop]
  rw [List.take_succ_cons, List.reverse_cons]
  unfold putE
  rcases hf : findE e.cell (X.take (m + 1)).reverse with _ | x
  · have hno : ∀ t ∈ X.take (m + 1), t.cell ≠ e.cell := fun t ht => find_none.1 hf t (List.mem_reverse.2 ht)
    have hself : (X.take (m + 1)).filter (fun t => decide (t.cell ≠ e.cell)) = X.take (m + 1) := List.filter_eq_self.2 fun t ht => decide_eq_true (hno t ht)
    rw [hself] at hsplit
    show (true, ({ room := ((m + 1 : Nat) : Int), l := (if ((X.take (m + 1)).reverse.length : Int) = ((m + 1 : Nat) : Int) then (X.take (m + 1)).reverse.tail else (X.take (m + 1)).reverse) ++ [e] } : Cc)) = _
    rw [List.length_reverse]
    by_cases hl : (X.take (m + 1)).length = m + 1
    · rw [if_pos (by omega), hsplit, List.take_append_of_le_length (by omega), List.take_take, Nat.min_eq_left (by omega), List.tail_reverse, List.dropLast_eq_take, hl, List.take_take, Nat.add_sub_cancel, Nat.min_eq_left (by omega)]
    · rw [if_neg (by omega)]
      have hl2 : X.length ≤ m := by rw [List.length_take] at hl; omega
      have e1 : X.take (m + 1) = X := List.take_of_length_le (by omega)
      have e2 : X.drop (m + 1) = [] := List.drop_eq_nil_iff.2 (by omega)
      rw [hsplit, e1, e2, List.filter_nil, List.append_nil, List.take_of_length_le hl2]
  · obtain ⟨hx, hxc⟩ := find_some hf
    have hxX : x ∈ X := List.mem_of_mem_take (List.mem_reverse.1 hx)
    show (if e.ver < x.ver then _ else _) = _
    rw [if_neg (by have := hv x hxX; omega)]
    have hd := del_filter (c := e.cell) (nodup_rev hT)
    have hdl := (del_len e.cell (X.take (m + 1)).reverse).2 (by unfold hasE; rw [hf]; rfl)
    show (true, ({ room := ((m + 1 : Nat) : Int), l := delE e.cell (X.take (m + 1)).reverse ++ [e] } : Cc)) = _
    rw [hd, List.filter_reverse] at hdl ⊢
    rw [List.length_reverse, List.length_reverse, List.length_take] at hdl
    congr 3
    by_cases hl : X.length ≤ m
    · have e2 : X.drop (m + 1) = [] := List.drop_eq_nil_iff.2 (by omega)
      have hle : (X.filter fun t => decide (t.cell ≠ e.cell)).length ≤ m := Nat.le_trans (List.length_filter_le _ _) hl
      rw [List.take_of_length_le hle, hsplit, e2, List.filter_nil, List.append_nil]
    · have hm : ((X.take (m + 1)).filter fun t => decide (t.cell ≠ e.cell)).length = m := by rw [Nat.min_eq_left (by omega)] at hdl; omega
      rw [hsplit, List.take_append_of_le_length (Nat.le_of_eq hm.symm), List.take_of_length_le (Nat.le_of_eq hm)]
/-- The i-th entry that is put. -/
def lastE (i : Nat) (k : Int) : En := ⟨k, i, i, 0⟩
/-- The entries, the newest first. -/
def revL : List Int → List En
  | [] => []
  | k :: r => lastE r.length k :: revL r
theorem revL_len : ∀ (r : List Int), (revL r).length = r.length
  | [] => rfl
  | _ :: r => by show (revL r).length + 1 = r.length + 1; rw [revL_len r]
theorem revL_ver : ∀ (r : List Int) (x : En), x ∈ revL r → x.ver < r.length ∧ ∃ k ∈ r, x.cell = k
  | k :: r, x, h => by
    rcases List.mem_cons.1 h with rfl | h
    · exact ⟨by show (r.length : Int) < ((r.length + 1 : Nat) : Int); omega, k, List.mem_cons_self, rfl⟩
    · obtain ⟨h1, k2, h2, h3⟩ := revL_ver r x h
      exact ⟨by show x.ver < ((r.length + 1 : Nat) : Int); omega, k2, List.mem_cons_of_mem _ h2, h3⟩
theorem revL_app : ∀ (s t : List Int), ∃ s', revL (s ++ t) = s' ++ revL t ∧ s'.map (·.cell) = s
  | [], t => ⟨[], rfl, rfl⟩
  | k :: s, t => by
    obtain ⟨s', h1, h2⟩ := revL_app s t
    exact ⟨lastE (s ++ t).length k :: s', by show lastE _ k :: revL (s ++ t) = _; rw [h1]; rfl, by rw [List.map_cons, h2]; rfl⟩
/-- What the cache has behind the cells ks, the last one first. -/
def lastC (n : Nat) (r : List Int) : Cc := ⟨n, ((newL (revL r)).take n).reverse⟩
theorem lastC_put (n : Nat) (h1 : 1 ≤ n) (r : List Int) (k : Int) : putE (lastC n r) (lastE r.length k) = (true, lastC n (k :: r)) :=
  put_new (newL_one _) h1 fun x hx => by have := (revL_ver r x (newL_sub _ _ hx)).1; show x.ver ≤ (r.length : Int); omega
theorem lastC_ok {n : Nat} (h1 : 1 ≤ n) (h2 : n ≤ 16) (r : List Int) : Cok (lastC n r) :=
  ⟨by show (1 : Int) ≤ (n : Int); omega, by show (n : Int) ≤ 16; omega, by show (((newL (revL r)).take n).reverse.length : Int) ≤ (n : Int); rw [List.length_reverse, List.length_take]; omega, nodup_rev (take_one (newL_one _) n)⟩
/-- How many cells there are among some. -/
def kinds (s : List Int) : List Int := match s with
  | [] => []
  | k :: t => if k ∈ t then kinds t else kinds t ++ [k]
theorem kinds_mem : ∀ {s : List Int} {x : Int}, x ∈ kinds s ↔ x ∈ s
  | [], x => Iff.rfl
  | k :: t, x => by
    unfold kinds
    split
    · rename_i h
      rw [kinds_mem]
      exact ⟨fun e => List.mem_cons_of_mem _ e, fun e => by rcases List.mem_cons.1 e with rfl | e; exact h; exact e⟩
    · rw [List.mem_append, kinds_mem, List.mem_singleton, List.mem_cons]
      exact ⟨fun e => e.symm, fun e => e.symm⟩
theorem kinds_nodup : ∀ (s : List Int), (kinds s).Nodup
  | [] => List.nodup_nil
  | k :: t => by
    unfold kinds
    split
    · exact kinds_nodup t
    · rename_i h
      refine List.nodup_append.2 ⟨kinds_nodup t, by simp, fun x hx y hy e => h ?_⟩
      rw [List.mem_singleton.1 hy] at e
      exact kinds_mem.1 (e ▸ hx)
theorem kinds_len {s' : List En} {s : List Int} (h : s'.map (·.cell) = s) : (newL s').length = (kinds s.reverse).length := by
  have hp : ((newL s').map (·.cell)).Perm (kinds s.reverse) := by
    refine (List.perm_ext_iff_of_nodup (newL_one s') (kinds_nodup _)).2 fun x => ?_
    rw [kinds_mem, List.mem_reverse, ← h]
    constructor
    · intro e
      obtain ⟨y, hy, rfl⟩ := List.mem_map.1 e
      exact List.mem_map.2 ⟨y, newL_sub _ _ hy, rfl⟩
    · intro e
      obtain ⟨y, hy, rfl⟩ := List.mem_map.1 e
      obtain ⟨z, hz, e2⟩ := (newL_cell s' y.cell).2 ⟨y, hy, rfl⟩
      exact List.mem_map.2 ⟨z, hz, e2⟩
  have := hp.length_eq
  rwa [List.length_map] at this
/-- What is found of a cell that doesn't stand behind its place: it's there, if there is room. -/
theorem lastC_find (n : Nat) (s t : List Int) (k : Int) (hk : k ∉ s) : findE k (lastC n (s ++ k :: t)).l = if (kinds s.reverse).length < n then some (lastE t.length k) else none := by
  obtain ⟨s', h1, h2⟩ := revL_app s (k :: t)
  have hr : revL (k :: t) = lastE t.length k :: revL t := rfl
  rw [hr] at h1
  have hat := newL_at s' (revL t) (lastE t.length k) fun y hy e => hk (by rw [← h2]; exact List.mem_map.2 ⟨y, hy, e.symm⟩)
  rw [← h1, kinds_len h2] at hat
  obtain ⟨hlt, he⟩ := List.getElem?_eq_some_iff.1 hat
  obtain ⟨X, hX⟩ : ∃ X, newL (revL (s ++ k :: t)) = X := ⟨_, rfl⟩
  have hone := newL_one (revL (s ++ k :: t))
  unfold lastC
  dsimp only
  obtain ⟨m, hm⟩ : ∃ m, (kinds s.reverse).length = m := ⟨_, rfl⟩
  simp only [hm] at hlt he
  rw [hm]
  simp only [hX] at hlt he hone ⊢
  by_cases hmn : m < n
  · rw [if_pos hmn]
    have hmem : lastE t.length k ∈ (X.take n).reverse := by
      rw [List.mem_reverse, ← he]
      exact List.mem_take_iff_getElem.2 ⟨m, by omega, rfl⟩
    exact find_mem (nodup_rev (take_one hone n)) hmem
  · rw [if_neg hmn]
    refine find_none.2 fun y hy e => ?_
    rw [List.mem_reverse] at hy
    obtain ⟨j, hj, hjy⟩ := List.mem_take_iff_getElem.1 hy
    have h3 : (X.map (·.cell))[j]'(by rw [List.length_map]; omega) = (X.map (·.cell))[m]'(by rw [List.length_map]; exact hlt) := by
      rw [List.getElem_map, List.getElem_map, hjy, he]
      exact e
    exact List.pairwise_iff_getElem.1 hone j m _ _ (by omega) h3
theorem lastC_len (n : Nat) (r : List Int) : (lastC n r).l.length = min n (kinds r.reverse).length := by
  obtain ⟨s', h1, h2⟩ := revL_app r []
  rw [List.append_nil] at h1
  have h3 : revL r = s' := by rw [h1]; simp [revL]
  show ((newL (revL r)).take n).reverse.length = _
  rw [List.length_reverse, List.length_take, h3, kinds_len h2]
end Go.Proofs.Yteedlenelfidcaa.Cac
