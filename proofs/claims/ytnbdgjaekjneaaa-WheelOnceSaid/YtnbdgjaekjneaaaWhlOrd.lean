/-
  Layer 12's law of order, without memory. Conditions: none.
-/
import Derived.Test.YtnbdgjaekjneaaaWhlPure
namespace Go.Proofs.Ytnbdgjaekjneaaa.Whl

/-- A key of a kind. -/
def kk (x : Int) : Ky := ⟨x, 0, 0, 0, 0, 0⟩
theorem kk_inj {x y : Int} (h : kk x = kk y) : x = y := (Ky.mk.inj h).1
/-- Each kind where it stands last. -/
def wantL : List Int → List Int
  | [] => []
  | k :: t => if k ∈ t then wantL t else k :: wantL t
theorem wantL_mem {x : Int} : ∀ {ks : List Int}, x ∈ wantL ks ↔ x ∈ ks
  | [] => Iff.rfl
  | k :: t => by
    unfold wantL
    split
    · rename_i h
      rw [wantL_mem]
      exact ⟨fun e => List.mem_cons_of_mem _ e, fun e => by rcases List.mem_cons.1 e with rfl | e; exact h; exact e⟩
    · rw [List.mem_cons, List.mem_cons, wantL_mem]
theorem wantL_nodup : ∀ (ks : List Int), (wantL ks).Nodup
  | [] => List.Pairwise.nil
  | k :: t => by
    unfold wantL
    split
    · exact wantL_nodup t
    · rename_i h
      exact List.nodup_cons.2 ⟨fun e => h (wantL_mem.1 e), wantL_nodup t⟩
theorem wantL_len : ∀ (ks : List Int), (wantL ks).length ≤ ks.length
  | [] => Nat.le_refl _
  | k :: t => by
    have := wantL_len t
    unfold wantL
    split
    · rw [List.length_cons]; omega
    · rw [List.length_cons, List.length_cons]; omega
theorem wantL_more (k : Int) : ∀ (ks : List Int), wantL (ks ++ [k]) = (wantL ks).filter (fun x => decide (x ≠ k)) ++ [k]
  | [] => rfl
  | a :: t => by
    rw [List.cons_append]
    show (if a ∈ t ++ [k] then wantL (t ++ [k]) else a :: wantL (t ++ [k])) = (if a ∈ t then wantL t else a :: wantL t).filter (fun x => decide (x ≠ k)) ++ [k]
    rw [wantL_more k t]
    by_cases h1 : a ∈ t
    · rw [if_pos h1, if_pos (List.mem_append_left _ h1)]
    · rw [if_neg h1, List.filter_cons]
      by_cases h2 : a = k
      · rw [if_pos (by rw [h2]; simp), if_neg (by simpa using h2)]
      · rw [if_neg (by simp [h1, h2]), if_pos (by simpa using h2), List.cons_append]
/-- The timers of which the law asks, and those set between. -/
def ordA (ks : List Int) (n : Int) : List Tm := (wantL ks).map fun k => (kk k, n)
def ordB (m : Nat) (n : Int) : List Tm := (List.range m).map fun (i : Nat) => (kk (1000 + (i : Int)), n + 1 + (i : Int))
def ordL (ks : List Int) (n : Int) : List Tm := ordA ks n ++ ordB ks.length n
theorem ordB_more (m : Nat) (n : Int) : ordB (m + 1) n = ordB m n ++ [(kk (1000 + (m : Int)), n + 1 + (m : Int))] := by
  unfold ordB
  rw [List.range_succ, List.map_append]
  rfl
theorem ordA_mem {ks : List Int} {n : Int} {t : Tm} (h : t ∈ ordA ks n) : ∃ k ∈ ks, t = (kk k, n) := by
  obtain ⟨k, hk, rfl⟩ := List.mem_map.1 h
  exact ⟨k, wantL_mem.1 hk, rfl⟩
theorem ordB_mem {m : Nat} {n : Int} {t : Tm} (h : t ∈ ordB m n) : ∃ i < m, t = (kk (1000 + (i : Int)), n + 1 + (i : Int)) := by
  obtain ⟨i, hi, rfl⟩ := List.mem_map.1 h
  exact ⟨i, List.mem_range.1 hi, rfl⟩
theorem ord_uniq {ks : List Int} {n : Int} {m : Nat} (h : ∀ k ∈ ks, k ≤ 255) : Uniq (ordA ks n ++ ordB m n) := by
  unfold Uniq
  rw [List.map_append]
  refine List.nodup_append.2 ⟨?_, ?_, ?_⟩
  · unfold ordA
    rw [List.map_map]
    exact List.Pairwise.map _ (fun a b hab e => hab (kk_inj e)) (wantL_nodup ks)
  · unfold ordB
    rw [List.map_map]
    exact List.Pairwise.map _ (fun a b hab e => hab (by have h1 := kk_inj e; omega)) List.nodup_range
  · intro x hx y hy e
    obtain ⟨t, ht, rfl⟩ := List.mem_map.1 hx
    obtain ⟨u, hu, rfl⟩ := List.mem_map.1 hy
    obtain ⟨k, hk, rfl⟩ := ordA_mem ht
    obtain ⟨i, _, rfl⟩ := ordB_mem hu
    have h1 := kk_inj e
    have := h k hk
    omega
theorem ord_asc {ks : List Int} {n : Int} {m : Nat} : Asc (ordA ks n ++ ordB m n) := by
  refine List.pairwise_append.2 ⟨?_, ?_, ?_⟩
  · unfold ordA
    exact List.Pairwise.map _ (fun a b _ => Int.le_refl _) (wantL_nodup ks)
  · unfold ordB
    exact List.Pairwise.map _ (fun a b hab => by show n + 1 + (a : Int) ≤ n + 1 + (b : Int); omega) (List.pairwise_lt_range (n := m))
  · intro x hx y hy
    obtain ⟨k, hk, rfl⟩ := ordA_mem hx
    obtain ⟨i, _, rfl⟩ := ordB_mem hy
    show n ≤ n + 1 + (i : Int)
    omega
theorem ordA_filter (ks : List Int) (n k : Int) : (ordA ks n).filter (fun t => decide (t.1 ≠ kk k)) = ((wantL ks).filter fun x => decide (x ≠ k)).map fun x => (kk x, n) := by
  unfold ordA
  rw [List.filter_map]
  congr 1
  refine List.filter_congr fun x _ => ?_
  show decide (kk x ≠ kk k) = decide (x ≠ k)
  by_cases h : x = k
  · subst h; simp
  · rw [decide_eq_true (show kk x ≠ kk k from fun e => h (kk_inj e)), decide_eq_true h]
theorem ordB_filter {m : Nat} {n k : Int} (hk : k ≤ 255) : (ordB m n).filter (fun t => decide (t.1 ≠ kk k)) = ordB m n := by
  refine List.filter_eq_self.2 fun t ht => decide_eq_true fun e => ?_
  obtain ⟨i, _, rfl⟩ := ordB_mem ht
  have := kk_inj e
  omega
theorem ord_len (ks : List Int) (n : Int) (m : Nat) : (ordA ks n ++ ordB m n).length ≤ ks.length + m := by
  have := wantL_len ks
  unfold ordA ordB
  simp
  omega
/-- A kind is set. -/
theorem ord_set1 {ks : List Int} {n k : Int} (h : ∀ k ∈ ks, k ≤ 255) (hk : k ≤ 255) (hl : ks.length ≤ 60) (h1 : 1 ≤ n) (h2 : n ≤ 50) : setC ⟨0, ordL ks n⟩ (kk k) n = (0, ⟨0, ordA (ks ++ [k]) n ++ ordB ks.length n⟩) := by
  have hlen := ord_len ks n ks.length
  rw [setC_ok (R := ⟨0, ordL ks n⟩) (ord_uniq h) (kk k) h1 (by omega) (by show (ordA ks n ++ ordB ks.length n).length ≤ 255; omega)]
  have e : (ordL ks n).filter (fun t => decide (t.1 ≠ kk k)) = ((wantL ks).filter fun x => decide (x ≠ k)).map (fun x => (kk x, n)) ++ ordB ks.length n := by
    unfold ordL
    rw [List.filter_append, ordA_filter, ordB_filter hk]
  show (0, (⟨0, insT (kk k, 0 + n) ((ordL ks n).filter fun t => decide (t.1 ≠ kk k))⟩ : Wr)) = _
  rw [e, Int.zero_add, insT_split (fun x hx => ?_) (fun x hx => ?_)]
  · have e2 : ordA (ks ++ [k]) n = ((wantL ks).filter fun x => decide (x ≠ k)).map (fun x => (kk x, n)) ++ [(kk k, n)] := by
      unfold ordA
      rw [wantL_more, List.map_append]
      rfl
    rw [e2, List.append_assoc]
    rfl
  · obtain ⟨y, _, rfl⟩ := List.mem_map.1 hx
    exact Int.le_refl _
  · obtain ⟨i, _, rfl⟩ := ordB_mem hx
    show n < n + 1 + (i : Int)
    omega
/-- What is set between. -/
theorem ord_set2 {ks : List Int} {n : Int} {m : Nat} (h : ∀ k ∈ ks, k ≤ 255) (hl : ks.length ≤ 61) (hm : m ≤ 60) (h1 : 1 ≤ n) (h2 : n ≤ 50) : setC ⟨0, ordA ks n ++ ordB m n⟩ (kk (1000 + (m : Int))) (n + 1 + (m : Int)) = (0, ⟨0, ordA ks n ++ ordB (m + 1) n⟩) := by
  have hlen := ord_len ks n m
  rw [setC_ok (R := ⟨0, ordA ks n ++ ordB m n⟩) (ord_uniq h) _ (by omega) (by omega) (by show (ordA ks n ++ ordB m n).length ≤ 255; omega)]
  have e : (ordA ks n ++ ordB m n).filter (fun t => decide (t.1 ≠ kk (1000 + (m : Int)))) = ordA ks n ++ ordB m n := by
    refine List.filter_eq_self.2 fun t ht => decide_eq_true fun e => ?_
    rcases List.mem_append.1 ht with ht | ht
    · obtain ⟨k, hk, rfl⟩ := ordA_mem ht
      have := kk_inj e
      have := h k hk
      omega
    · obtain ⟨i, hi, rfl⟩ := ordB_mem ht
      have := kk_inj e
      omega
  show (0, (⟨0, insT (kk (1000 + (m : Int)), 0 + (n + 1 + (m : Int))) ((ordA ks n ++ ordB m n).filter fun t => decide (t.1 ≠ kk (1000 + (m : Int))))⟩ : Wr)) = _
  rw [e, Int.zero_add]
  have h3 := insT_split (a := ordA ks n ++ ordB m n) (b := []) (t := (kk (1000 + (m : Int)), n + 1 + (m : Int))) (fun x hx => ?_) (fun x hx => by cases hx)
  · rw [List.append_nil] at h3
    rw [h3, ordB_more, List.append_assoc]
  · rcases List.mem_append.1 hx with hx | hx
    · obtain ⟨k, _, rfl⟩ := ordA_mem hx
      show n ≤ n + 1 + (m : Int)
      omega
    · obtain ⟨i, hi, rfl⟩ := ordB_mem hx
      show n + 1 + (i : Int) ≤ n + 1 + (m : Int)
      omega
theorem ord_until0 {ks : List Int} {n t : Int} {m : Nat} (h : t < n) : untilL (ordA ks n ++ ordB m n) t = 0 := by
  unfold untilL
  rw [List.countP_eq_zero]
  intro x hx
  simp only [decide_eq_true_eq]
  rcases List.mem_append.1 hx with hx | hx
  · obtain ⟨k, _, rfl⟩ := ordA_mem hx
    show ¬ n ≤ t
    omega
  · obtain ⟨i, hi, rfl⟩ := ordB_mem hx
    show ¬ n + 1 + (i : Int) ≤ t
    omega
theorem ord_tick {ks : List Int} {n t : Int} {m : Nat} (h : t + 1 < n) (h2 : n ≤ 50) : tickC ⟨t, ordA ks n ++ ordB m n⟩ = ([], ⟨t + 1, ordA ks n ++ ordB m n⟩) := by
  unfold tickC
  dsimp only
  rw [if_neg (by omega), ord_until0 h]
  rfl
theorem ord_last {ks : List Int} {n t : Int} {m : Nat} (h : t + 1 = n) (h2 : n ≤ 50) : tickC ⟨t, ordA ks n ++ ordB m n⟩ = ((wantL ks).map kk, ⟨n, ordB m n⟩) := by
  unfold tickC
  dsimp only
  have e : untilL (ordA ks n ++ ordB m n) (t + 1) = (ordA ks n).length := untilL_at (by simp) (by
      rw [List.take_left]
      intro x hx
      obtain ⟨k, _, rfl⟩ := ordA_mem hx
      show n ≤ t + 1
      omega) (by
      rw [List.drop_left]
      intro x hx
      obtain ⟨i, _, rfl⟩ := ordB_mem hx
      show t + 1 < n + 1 + (i : Int)
      omega)
  rw [if_neg (by omega), e, List.take_left, List.drop_left, h]
  congr 1
  unfold ordA
  rw [List.map_map]
  rfl
end Go.Proofs.Ytnbdgjaekjneaaa.Whl
