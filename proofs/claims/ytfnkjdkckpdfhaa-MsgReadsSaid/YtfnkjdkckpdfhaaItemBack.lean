/-
  Layer 6: what is put is read again: the mathematics of it. Conditions: none.
-/
import Derived.Test.YtfnkjdkckpdfhaaItemAwake
import Derived.Test.YtfnkjdkckpdfhaaItemReadN
namespace Go.Proofs.Ytfnkjdkckpdfhaa.Item
open Go.RowKit Go.Proofs.Ytfnkjdkckpdfhaa.Mem Go.Proofs.Ytfnkjdkckpdfhaa.Wire

theorem few_small (n : Nat) (m : List UInt8) (b : Bool) (h : n ≤ 16) : fewN (bs (big n 2 ++ m)) = n ∧ fewR (bs (big n 2 ++ m)) = bs m ∧ fewB (bs (big n 2 ++ m)) b = b := by
  have e : num (bs (big n 2 ++ m)) 2 = n := num_big n 2 m (Nat.lt_of_le_of_lt h (by decide))
  refine ⟨?_, ?_, ?_⟩
  · unfold fewN; rw [e, if_neg (by omega)]
  · unfold fewR; rw [e, if_neg (by omega), rest_bs _ _ (big_length n 2)]
  · unfold fewB; rw [e, if_neg (by omega), brk_bs _ _ _ (big_length n 2)]
theorem few_big (n : Nat) (m : List UInt8) (b : Bool) (h : 16 < n) (h2 : n < 65536) : fewN (bs (big n 2 ++ m)) = 0 ∧ fewR (bs (big n 2 ++ m)) = nil ∧ fewB (bs (big n 2 ++ m)) b = true := by
  have e : num (bs (big n 2 ++ m)) 2 = n := num_big n 2 m (Nat.lt_of_lt_of_eq h2 (by decide))
  refine ⟨?_, ?_, ?_⟩
  · unfold fewN; rw [e, if_pos h]
  · unfold fewR; rw [e, if_pos h]
  · unfold fewB; rw [e, if_pos h]
theorem few_nil : fewN nil = 0 ∧ fewR nil = nil ∧ fewB nil true = true := by
  have e : num nil 2 = 0 := num_nil 2
  refine ⟨?_, ?_, ?_⟩
  · unfold fewN; rw [e]; rfl
  · unfold fewR; rw [e, if_neg (by omega), rest_nil]
  · unfold fewB; rw [e, if_neg (by omega), brk_nil]

theorem itB_eq (x : It) (m : List UInt8) : itB x ++ m = big (u64 x.cell) 8 ++ (big (u64 x.version) 8 ++ (big (u64 x.value) 8 ++ ([if x.write then 1 else 0] ++ (big (u64 x.new) 8 ++ m)))) := by
  unfold itB nums
  simp
theorem read_it {x : It} (h : x.ok) (m : List UInt8) (b : Bool) : itOf (bs (itB x ++ m)) = x ∧ r5 (bs (itB x ++ m)) = bs m ∧ b5 (bs (itB x ++ m)) b = b := by
  obtain ⟨h1, h2, h3, h4⟩ := h
  have l0 := big_length (u64 x.cell) 8
  have l1 := big_length (u64 x.version) 8
  have l2 := big_length (u64 x.value) 8
  have l3 : ([if x.write then 1 else 0] : List UInt8).length = 1 := rfl
  have l4 := big_length (u64 x.new) 8
  have e1 : r1 (bs (itB x ++ m)) = bs (big (u64 x.version) 8 ++ (big (u64 x.value) 8 ++ ([if x.write then 1 else 0] ++ (big (u64 x.new) 8 ++ m)))) := by unfold r1; rw [itB_eq, rest_bs _ _ l0]
  have e2 : r2 (bs (itB x ++ m)) = bs (big (u64 x.value) 8 ++ ([if x.write then 1 else 0] ++ (big (u64 x.new) 8 ++ m))) := by unfold r2; rw [e1, rest_bs _ _ l1]
  have e3 : r3 (bs (itB x ++ m)) = bs ([if x.write then 1 else 0] ++ (big (u64 x.new) 8 ++ m)) := by unfold r3; rw [e2, rest_bs _ _ l2]
  have n3 : num (r3 (bs (itB x ++ m))) 1 = if x.write then 1 else 0 := by
    rw [e3, num_bs _ _ l3]
    cases x.write <;> rfl
  have hn3 : ¬ 1 < num (r3 (bs (itB x ++ m))) 1 := by rw [n3]; split <;> omega
  have e4 : r4 (bs (itB x ++ m)) = bs (big (u64 x.new) 8 ++ m) := by unfold r4; rw [if_neg hn3, e3, rest_bs _ _ l3]
  have e5 : r5 (bs (itB x ++ m)) = bs m := by unfold r5; rw [e4, rest_bs _ _ l4]
  refine ⟨?_, e5, ?_⟩
  · unfold itOf
    rw [n3, e1, e2, e4, itB_eq, num_u64 h1, num_u64 h2, num_u64 h3, num_u64 h4]
    obtain ⟨c, v, a, t, n⟩ := x
    cases t <;> rfl
  · unfold b5 b4 b3 b2 b1
    rw [if_neg hn3, e4, e3, e2, e1, itB_eq, brk_bs _ _ _ l0, brk_bs _ _ _ l1, brk_bs _ _ _ l2, brk_bs _ _ _ l3, brk_bs _ _ _ l4]
theorem read_items_at (l : List It) (m : List UInt8) (b : Bool) (h : ∀ x ∈ l, x.ok) : ∀ k, k ≤ l.length → restL k (bs (l.flatMap itB ++ m)) = bs ((l.drop k).flatMap itB ++ m) ∧ readL k (bs (l.flatMap itB ++ m)) = l.take k ∧ brkL k (bs (l.flatMap itB ++ m)) b = b := by
  intro k
  induction k with
  | zero => intro _; exact ⟨by simp [restL], by simp [readL], rfl⟩
  | succ k ih =>
    intro hk
    obtain ⟨i1, i2, i3⟩ := ih (by omega)
    have hd : (l.drop k).flatMap itB ++ m = itB l[k] ++ ((l.drop (k + 1)).flatMap itB ++ m) := by
      rw [List.drop_eq_getElem_cons (by omega), List.flatMap_cons, List.append_assoc]
    obtain ⟨j1, j2, j3⟩ := read_it (h l[k] (List.getElem_mem _)) ((l.drop (k + 1)).flatMap itB ++ m) b
    refine ⟨?_, ?_, ?_⟩
    · rw [restL, i1, hd, j2]
    · rw [readL, i2, i1, hd, j1, List.take_succ_eq_append_getElem (by omega)]
    · rw [brkL, i3, i1, hd, j3]
theorem read_items {l : List It} (m : List UInt8) (h : ∀ x ∈ l, x.ok) (hl : l.length ≤ 16) : readItems (bs (itemsB l ++ m)) false = l ∧ restItems (bs (itemsB l ++ m)) = bs m ∧ brkItems (bs (itemsB l ++ m)) false = false := by
  have e : itemsB l ++ m = big l.length 2 ++ (l.flatMap itB ++ m) := by unfold itemsB; simp
  obtain ⟨f1, f2, f3⟩ := few_small l.length (l.flatMap itB ++ m) false hl
  obtain ⟨i1, i2, i3⟩ := read_items_at l m false h l.length (Nat.le_refl _)
  rw [← e] at f1 f2 f3
  refine ⟨?_, ?_, ?_⟩
  · unfold readItems
    rw [f1, f2, f3, i3, if_neg (by decide), i2, List.take_length]
  · unfold restItems
    rw [f1, f2, i1, List.drop_length]
    rfl
  · unfold brkItems
    rw [f1, f2, f3, i3]
theorem read_items_many {l : List It} (m : List UInt8) (hl : 16 < l.length) (hl2 : l.length < 65536) : readItems (bs (itemsB l ++ m)) false = [] ∧ restItems (bs (itemsB l ++ m)) = nil ∧ brkItems (bs (itemsB l ++ m)) false = true := by
  have e : itemsB l ++ m = big l.length 2 ++ (l.flatMap itB ++ m) := by unfold itemsB; simp
  obtain ⟨f1, f2, f3⟩ := few_big l.length (l.flatMap itB ++ m) false hl hl2
  rw [← e] at f1 f2 f3
  refine ⟨?_, ?_, ?_⟩
  · unfold readItems
    rw [f1, f2, f3]
    rfl
  · unfold restItems
    rw [f1, f2]
    rfl
  · unfold brkItems
    rw [f1, f2, f3]
    rfl
theorem nums_cons (n : Int) (l : List Int) : nums (n :: l) = big (u64 n) 8 ++ nums l := by unfold nums; rfl
theorem read_nodes_at (l : List Int) (m : List UInt8) (b : Bool) (h : ∀ x ∈ l, I64 x) : ∀ k, k ≤ l.length → restN k (bs (nums l ++ m)) = bs (nums (l.drop k) ++ m) ∧ readN k (bs (nums l ++ m)) = l.take k ∧ brkN k (bs (nums l ++ m)) b = b := by
  intro k
  induction k with
  | zero => intro _; exact ⟨by simp [restN], by simp [readN], rfl⟩
  | succ k ih =>
    intro hk
    obtain ⟨i1, i2, i3⟩ := ih (by omega)
    have hd : nums (l.drop k) ++ m = big (u64 l[k]) 8 ++ (nums (l.drop (k + 1)) ++ m) := by
      rw [List.drop_eq_getElem_cons (by omega), nums_cons, List.append_assoc]
    have hlen := big_length (u64 l[k]) 8
    refine ⟨?_, ?_, ?_⟩
    · rw [restN, i1, hd, rest_bs _ _ hlen]
    · rw [readN, i2, i1, hd, num_u64 (h l[k] (List.getElem_mem _)), List.take_succ_eq_append_getElem (by omega)]
    · rw [brkN, i3, i1, hd, brk_bs _ _ _ hlen]
theorem read_nodes {l : List Int} (m : List UInt8) (h : ∀ x ∈ l, I64 x) (hl : l.length ≤ 16) : readNodes (bs (nodesB l ++ m)) false = l ∧ restNodes (bs (nodesB l ++ m)) = bs m ∧ brkNodes (bs (nodesB l ++ m)) false = false := by
  have e : nodesB l ++ m = big l.length 2 ++ (nums l ++ m) := by unfold nodesB; simp
  obtain ⟨f1, f2, f3⟩ := few_small l.length (nums l ++ m) false hl
  obtain ⟨i1, i2, i3⟩ := read_nodes_at l m false h l.length (Nat.le_refl _)
  rw [← e] at f1 f2 f3
  refine ⟨?_, ?_, ?_⟩
  · unfold readNodes
    rw [f1, f2, f3, i3, if_neg (by decide), i2, List.take_length]
  · unfold restNodes
    rw [f1, f2, i1, List.drop_length]
    rfl
  · unfold brkNodes
    rw [f1, f2, f3, i3]
theorem read_nodes_many {l : List Int} (m : List UInt8) (hl : 16 < l.length) (hl2 : l.length < 65536) : readNodes (bs (nodesB l ++ m)) false = [] ∧ restNodes (bs (nodesB l ++ m)) = nil ∧ brkNodes (bs (nodesB l ++ m)) false = true := by
  have e : nodesB l ++ m = big l.length 2 ++ (nums l ++ m) := by unfold nodesB; simp
  obtain ⟨f1, f2, f3⟩ := few_big l.length (nums l ++ m) false hl hl2
  rw [← e] at f1 f2 f3
  refine ⟨?_, ?_, ?_⟩
  · unfold readNodes
    rw [f1, f2, f3]
    rfl
  · unfold restNodes
    rw [f1, f2]
    rfl
  · unfold brkNodes
    rw [f1, f2, f3]
    rfl
theorem read_nodes_nil : readNodes nil true = [] ∧ restNodes nil = nil ∧ brkNodes nil true = true := by
  obtain ⟨f1, f2, f3⟩ := few_nil
  refine ⟨?_, ?_, ?_⟩
  · unfold readNodes
    rw [f1, f2, f3]
    rfl
  · unfold restNodes
    rw [f1, f2]
    rfl
  · unfold brkNodes
    rw [f1, f2, f3]
    rfl

/-- A row of the call's own that holds items is a slice that holds them. -/
theorem items_of_row {w : World} {base : Nat} {v : Value} {l : List It} (h : w.ownsRow base 83 5 v l.length (flat l)) : ∃ A c, v = .slice A l.length c ∧ Items w A l := by
  have h0 := h
  rcases h.2 with ⟨rfl, hn⟩ | ⟨g, cap, cur, rfl, _⟩
  · obtain rfl := List.eq_nil_of_length_eq_zero hn
    exact ⟨none, 0, rfl, items_nil _ _⟩
  · refine ⟨some ⟨g, 0, none⟩, cap, rfl, fun k hk => ⟨g, 0, rfl, ?_⟩⟩
    have hcell := h0.cells (g := g) rfl
    have hat : ∀ j u, l[k].vals[j]? = some u → w.cell? ⟨g, 0 + k * 5 + j, none⟩ = some u := fun j u hu => by
      have hj : j < 5 := by
        have := (List.getElem?_eq_some_iff.1 hu).1
        simpa [It.vals] using this
      have hf : (flat l)[k * 5 + j]? = some u := by
        have hgen : ∀ (l : List It) (k : Nat) (hk : k < l.length), (flat l)[k * 5 + j]? = l[k].vals[j]? := by
          intro l
          induction l with
          | nil => intro k hk; simp at hk
          | cons x l ih =>
            intro k hk
            have hlen : x.vals.length = 5 := rfl
            show (x.vals ++ flat l)[k * 5 + j]? = _
            cases k with
            | zero => rw [Nat.zero_mul, Nat.zero_add, List.getElem?_append_left (by omega)]; rfl
            | succ k =>
              rw [List.getElem?_append_right (by omega), hlen, show (k + 1) * 5 + j - 5 = k * 5 + j by omega, ih k (by simpa using hk)]
              rfl
        rw [hgen l k hk]
        exact hu
      have := hcell (k * 5 + j) u hf
      rw [addr_add] at this
      rw [Nat.zero_add]
      exact this
    exact ⟨hat 0 _ rfl, hat 1 _ rfl, hat 2 _ rfl, hat 3 _ rfl, hat 4 _ rfl⟩
theorem nums_of_row {w : World} {base : Nat} {v : Value} {l : List Int} (h : w.ownsRow base 3 1 v l.length (l.map (Value.int .i64))) : ∃ A c, v = .slice A l.length c ∧ Nums w A l := by
  have h0 := h
  rcases h.2 with ⟨rfl, hn⟩ | ⟨g, cap, cur, rfl, _⟩
  · obtain rfl := List.eq_nil_of_length_eq_zero hn
    exact ⟨none, 0, rfl, nums_nil _ _⟩
  · refine ⟨some ⟨g, 0, none⟩, cap, rfl, fun k hk => ⟨g, 0, rfl, ?_⟩⟩
    have := h0.cells (g := g) rfl k (.int .i64 l[k]) (by simp [hk])
    rw [addr_add] at this
    rw [Nat.zero_add]
    exact this
end Go.Proofs.Ytfnkjdkckpdfhaa.Item
