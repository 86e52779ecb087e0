/-
  Layer 6: the document's Join of two lists of items.
  Conditions: none.
-/
import Derived.Test.YtjeogeablbkhgaaP28
import Derived.Deep.CutBlock
namespace Go.Proofs.Ytjeogeablbkhgaa.Item
set_option maxRecDepth 100000
open Go.RowKit Go.Proofs.Ytjeogeablbkhgaa.Mem Go.Proofs.Ytjeogeablbkhgaa.Wire
theorem one_item {w : World} {j : Nat} {x : It} (h : Cells w j 60 x.vals) : Items w (some ⟨j, 0, none⟩) [x] := fun k hk => by
  have hk0 : k = 0 := by simp at hk; omega
  subst hk0
  exact ⟨j, 0, rfl, ⟨h.cell (j := 0) rfl, h.cell (j := 1) rfl, h.cell (j := 2) rfl, h.cell (j := 3) rfl, h.cell (j := 4) rfl⟩⟩
/-- While an item is put among those that are there: which parts of the new list are done. -/
structure rjSt (p : Nat) (out : List It) (x : It) (d0 d4 d9 d10 d14 d15 : Bool) (v0 v4 v9 v10 v14 v15 : Value) (w0 w : World) : Prop where
  low : Below w0.heap.size w0 w
  r0 : d0 = true → d4 = false → w.ownsRow w0.heap.size 60 5 v0 0 []
  r4 : d4 = true → d10 = false → w.ownsRow w0.heap.size 60 5 v4 p (flat (out.take p))
  b9 : d9 = true → d10 = false → ∃ j, v9 = .slice (some ⟨j, 0, none⟩) 1 1 ∧ w0.heap.size ≤ j ∧ Cells w j 60 x.vals
  ap : d0 = true → d9 = true → d4 = false → ∀ i j, v0.ownBlock = some i → v9 = .slice (some ⟨j, 0, none⟩) 1 1 → i ≠ j
  r10 : d10 = true → d14 = false → w.ownsRow w0.heap.size 60 5 v10 (out.take p ++ [x]).length (flat (out.take p ++ [x]))
  r14 : d14 = true → w.ownsRow w0.heap.size 60 5 v14 (out.take p ++ [x] ++ out.drop p).length (flat (out.take p ++ [x] ++ out.drop p))
  lst : d15 = true → v15 = v14
section
variable {p : Nat} {out : List It} {x : It} {d0 d4 d9 d10 d14 d15 : Bool} {v0 v4 v9 v10 v14 v15 v' : Value} {w0 w w' : World}
theorem rjSt.make (h : rjSt p out x false false d9 false false d15 v0 v4 v9 v10 v14 v15 w0 w) : rjSt p out x true false d9 false false d15 (.slice (some ⟨w.heap.size, 0, none⟩) 0 0) v4 v9 v10 v14 v15 w0 (w.alloc (.cells #[] 60)) := by
  refine ⟨h.low.alloc h.low.size _, fun _ _ => World.ownsRow_made (base := w0.heap.size) (e := 60) (size := 5) w #[] 0 h.low.size (Nat.zero_le _) rfl, fun e => (by cases e), fun e1 e2 => ?_, fun _ e1 _ i j hi hj => ?_, fun e => (by cases e), fun e => (by cases e), h.lst⟩
  · obtain ⟨j, h1, h2, h3⟩ := h.b9 e1 e2
    exact ⟨j, h1, h2, h3.later (below_alloc _ _)⟩
  · obtain ⟨j', h1, h2, h3⟩ := h.b9 e1 rfl
    rw [h1] at hj
    have e : j' = j := by simpa using hj
    subst e
    have := h3.lt
    have e2 : i = w.heap.size := (Option.some.inj hi).symm
    omega
theorem rjSt.one (h : rjSt p out x d0 d4 false false false d15 v0 v4 v9 v10 v14 v15 w0 w) : rjSt p out x d0 d4 true false false d15 v0 v4 (.slice (some ⟨w.heap.size, 0, none⟩) 1 1) v10 v14 v15 w0 (w.alloc (.cells #[.int .i64 x.cell, .int .i64 x.version, .int .i64 x.value, .bool x.write, .int .i64 x.new] 60)) := by
  refine ⟨h.low.alloc h.low.size _, fun e1 e2 => (h.r0 e1 e2).alloc _, fun e1 e2 => (h.r4 e1 e2).alloc _, fun _ _ => ⟨_, rfl, h.low.size, cells_new w _ _ _ rfl⟩, fun e1 _ e2 i j hi hj => ?_, fun e => (by cases e), fun e => (by cases e), h.lst⟩
  have := ((h.r0 e1 e2).lt i hi).2
  have e : w.heap.size = j := by simpa using hj
  omega
theorem rjSt.app1 (h : rjSt p out x true false d9 false false d15 v0 v4 v9 v10 v14 v15 w0 w) (hp : (out.take p).length = p) (hrow : w'.ownsRow w0.heap.size 60 5 v' ([] ++ out.take p).length (flat ([] ++ out.take p))) (hg : w.grownBy w' v0.ownBlock) : rjSt p out x true true d9 false false d15 v0 v' v9 v10 v14 v15 w0 w' := by
  rw [List.nil_append, hp] at hrow
  have ho := Only.of_grown hg
  refine ⟨Below.grown h.low hg h.low.size (fun k hk => ((h.r0 rfl rfl).lt k hk).1), fun _ e => (by cases e), fun _ _ => hrow, fun e1 e2 => ?_, fun _ _ e => (by cases e), fun e => (by cases e), fun e => (by cases e), h.lst⟩
  obtain ⟨j, h1, h2, h3⟩ := h.b9 e1 e2
  exact ⟨j, h1, h2, cells_only h3 ho fun e => h.ap rfl e1 rfl j j e.symm h1 rfl⟩
theorem rjSt.app2 (h : rjSt p out x d0 true true false false d15 v0 v4 v9 v10 v14 v15 w0 w) (hrow : w'.ownsRow w0.heap.size 60 5 v' (out.take p ++ [x]).length (flat (out.take p ++ [x]))) (hg : w.grownBy w' v4.ownBlock) : rjSt p out x d0 true true true false d15 v0 v4 v9 v' v14 v15 w0 w' :=
  ⟨Below.grown h.low hg h.low.size (fun k hk => ((h.r4 rfl rfl).lt k hk).1), fun _ e => (by cases e), fun _ e => (by cases e), fun _ e => (by cases e), fun _ _ e => (by cases e), fun _ _ => hrow, fun e => (by cases e), h.lst⟩
theorem rjSt.app3 (h : rjSt p out x d0 d4 d9 true false d15 v0 v4 v9 v10 v14 v15 w0 w) (hrow : w'.ownsRow w0.heap.size 60 5 v' (out.take p ++ [x] ++ out.drop p).length (flat (out.take p ++ [x] ++ out.drop p))) (hg : w.grownBy w' v10.ownBlock) (e15 : d15 = false) (e4 : d4 = true) : rjSt p out x d0 d4 d9 true true d15 v0 v4 v9 v10 v' v15 w0 w' :=
  ⟨Below.grown h.low hg h.low.size (fun k hk => ((h.r10 rfl rfl).lt k hk).1), fun _ e => (by rw [e4] at e; cases e), fun _ e => (by cases e), fun _ e => (by cases e), fun _ _ e => (by rw [e4] at e; cases e), fun _ e => (by cases e), fun _ => hrow, fun e => (by rw [e15] at e; cases e)⟩
theorem rjSt.last (h : rjSt p out x d0 d4 d9 d10 d14 d15 v0 v4 v9 v10 v14 v15 w0 w) : rjSt p out x d0 d4 d9 d10 d14 true v0 v4 v9 v10 v14 v14 w0 w := ⟨h.low, h.r0, h.r4, h.b9, h.ap, h.r10, h.r14, fun _ => rfl⟩
end
/-- One item more: it is there already. -/
theorem isJoin_skip {all L : List It} {x : It} (h : IsJoin all L) (hx : L.find? (fun y => y.cell == x.cell) ≠ none) : IsJoin (all ++ [x]) L := by
  refine ⟨h.rise, fun c => ?_⟩
  rw [h.first c, List.find?_append]
  by_cases hc : x.cell = c
  · subst hc
    rw [h.first] at hx
    cases hf : all.find? (fun y => y.cell == x.cell) with
    | none => exact absurd hf hx
    | some y => rfl
  · have : ([x] : List It).find? (fun y => y.cell == c) = none := by simpa using hc
    rw [this, Option.or_none]
/-- One item more: it is put at its place. -/
theorem isJoin_put {all L : List It} {x : It} {p : Nat} (h : IsJoin all L) (hx : L.find? (fun y => y.cell == x.cell) = none) (h1 : ∀ y ∈ L.take p, y.cell < x.cell) (h2 : ∀ y ∈ L.drop p, x.cell ≤ y.cell) : IsJoin (all ++ [x]) (L.take p ++ [x] ++ L.drop p) := by
  have hne : ∀ y ∈ L, y.cell ≠ x.cell := fun y hy e => by
    have := List.find?_eq_none.1 hx y hy
    simp [e] at this
  have h2' : ∀ y ∈ L.drop p, x.cell < y.cell := fun y hy => by
    have := h2 y hy
    have := hne y (List.mem_of_mem_drop hy)
    omega
  have hr : (L.take p ++ L.drop p).Pairwise fun x y => x.cell < y.cell := by rw [List.take_append_drop]; exact h.rise
  obtain ⟨r1, r2, r3⟩ := List.pairwise_append.1 hr
  refine ⟨?_, fun c => ?_⟩
  · rw [List.append_assoc]
    refine List.pairwise_append.2 ⟨r1, List.pairwise_append.2 ⟨List.pairwise_singleton _ _, r2, fun a ha b hb => ?_⟩, fun a ha b hb => ?_⟩
    · rw [List.mem_singleton.1 ha]; exact h2' b hb
    · rcases List.mem_append.1 hb with hb | hb
      · rw [List.mem_singleton.1 hb]; exact h1 a ha
      · exact r3 a ha b hb
  · rw [List.find?_append, List.find?_append, List.find?_append, ← h.first c]
    have e : L.find? (fun y => y.cell == c) = ((L.take p).find? (fun y => y.cell == c)).or ((L.drop p).find? (fun y => y.cell == c)) := by rw [← List.find?_append, List.take_append_drop]
    rw [e]
    by_cases hc : x.cell = c
    · subst hc
      rw [e] at hx
      have h3 : (L.take p).find? (fun y => y.cell == x.cell) = none := by
        cases hf : (L.take p).find? (fun y => y.cell == x.cell) with
        | none => rfl
        | some y => rw [hf] at hx; cases hx
      have h4 : (L.drop p).find? (fun y => y.cell == x.cell) = none := by rw [h3] at hx; simpa using hx
      rw [h3, h4]
      simp
    · have h5 : ([x] : List It).find? (fun y => y.cell == c) = none := by simpa using hc
      rw [h5]
      simp
theorem findI_none_iff (l : List It) (c : Int) : (findI l c < 0 → l.find? (fun x => x.cell == c) = none) ∧ (0 ≤ findI l c → l.find? (fun x => x.cell == c) ≠ none) := by
  unfold findI
  cases hf : l.findIdx? (fun x => x.cell == c) with
  | none =>
    refine ⟨fun _ => ?_, fun h => absurd h (by decide)⟩
    rw [List.find?_eq_none]
    intro x hx
    have := List.findIdx?_eq_none_iff.1 hf x hx
    simpa using this
  | some i =>
    refine ⟨fun h => absurd h (by simp), fun _ h => ?_⟩
    obtain ⟨hi, hp, _⟩ := List.findIdx?_eq_some_iff_getElem.1 hf
    have := List.find?_eq_none.1 h l[i] (List.getElem_mem hi)
    exact this hp
theorem own_some {w : World} {base n : Nat} {v : Value} {xs : List Value} (h : w.ownsRow base 60 5 v n xs) (hn : 0 < n) : ∃ g c, v = .slice (some ⟨g, 0, none⟩) n c := by
  rcases h.2 with ⟨_, h1⟩ | ⟨g, c, cur, h1, _⟩
  · omega
  · exact ⟨g, c, h1⟩
theorem row_items {w : World} {g : Nat} {l : List It} (h : Row w g l) : Items w (some ⟨g, 0, none⟩) l := fun k hk => ⟨g, 0, rfl, by rw [Nat.zero_add]; exact h.at_ hk⟩
theorem items_take {w : World} {A : Option Addr} {l : List It} (h : Items w A l) (p : Nat) : Items w A (l.take p) := fun k hk => by
  rw [List.length_take] at hk
  obtain ⟨b, off, e, hi⟩ := h k (by omega)
  exact ⟨b, off, e, by rw [List.getElem_take]; exact hi⟩
theorem items_drop {w : World} {g p : Nat} {l : List It} (h : Row w g l) : Items w (some ⟨g, p * 5, none⟩) (l.drop p) := fun k hk => by
  rw [List.length_drop] at hk
  exact ⟨g, p * 5, rfl, by rw [← Nat.add_mul, List.getElem_drop]; exact h.at_ (by omega)⟩
theorem rowUp {w wr w' : World} {v : Value} {n : Nat} {xs : List Value} (hb : Below w.heap.size w wr) (h : w'.ownsRow wr.heap.size 60 5 v n xs) : w'.ownsRow w.heap.size 60 5 v n xs := by
  refine ⟨h.1, ?_⟩
  rcases h.2 with hx | ⟨g, cap, cur, h1, h2, h3⟩
  · exact Or.inl hx
  · exact Or.inr ⟨g, cap, cur, h1, Nat.le_trans hb.size h2, h3⟩
def rjLss_t (g h p k M T co ca : Nat) (y z : Int) : Nat → Value → World → Prop
  | 0, v, _ => v = .int .i64 (p : Int)
  | 1, v, _ => v = .slice (some ⟨g, 0, none⟩) M co
  | 2, v, _ => v = .int .i64 (M : Int)
  | 3, v, _ => v = .bool true
  | 4, v, _ => v = .bool true
  | 5, v, _ => v = .slice (some ⟨g, 0, none⟩) M co
  | 6, v, _ => v = .int .i64 (p : Int)
  | 7, v, _ => v = .pointer (some ⟨g, p * 5, none⟩)
  | 8, v, _ => v = .pointer (some ⟨g, p * 5, none⟩)
  | 9, v, _ => v = .int .i64 y
  | 10, v, _ => v = .slice (some ⟨h, 0, none⟩) T ca
  | 11, v, _ => v = .int .i64 (k : Int)
  | 12, v, _ => v = .pointer (some ⟨h, k * 5, none⟩)
  | 13, v, _ => v = .pointer (some ⟨h, k * 5, none⟩)
  | 14, v, _ => v = .int .i64 z
  | 15, v, _ => v = .bool (decide (y < z))
  | 16, v, _ => v = .bool (decide (y < z))
  | _, _, _ => True
def rjLss_f (g p M co : Nat) : Nat → Value → World → Prop
  | 0, v, _ => v = .int .i64 (p : Int)
  | 1, v, _ => v = .slice (some ⟨g, 0, none⟩) M co
  | 2, v, _ => v = .int .i64 (M : Int)
  | 3, v, _ => v = .bool false
  | 4, v, _ => v = .bool false
  | 5, v, _ => v = undef
  | 6, v, _ => v = undef
  | 7, v, _ => v = undef
  | 8, v, _ => v = undef
  | 9, v, _ => v = undef
  | 10, v, _ => v = undef
  | 11, v, _ => v = undef
  | 12, v, _ => v = undef
  | 13, v, _ => v = undef
  | 14, v, _ => v = undef
  | 15, v, _ => v = undef
  | 16, v, _ => v = .bool false
  | _, _, _ => True
/-- Does the place go on? -/
def LssOut (p M : Nat) (out : List It) (x : It) (wo : World) (v : Value) (wx : World) : Prop := ∃ o : Bool, v = .bool o ∧ Below wo.heap.size wo wx ∧ (o = true → p < M ∧ ∀ y ∈ out.take (p + 1), y.cell < x.cell) ∧ (o = false → ∀ y ∈ out.drop p, x.cell ≤ y.cell)
set_option maxHeartbeats 3000000 in
theorem refJoin_any (A B : Option Addr) (la lb : List It) (ca cb : Nat) (w : World) (hA : Items w A la) (hB : Items w B lb) (hcA : A = none → ca = 0) (hcB : B = none → cb = 0) (hla : la.length ≤ 1000) (hlb : lb.length ≤ 1000) :
    Calls Try.prog 37 #[.slice A la.length ca, .slice B lb.length cb] w fun e w' => (∃ v L, e = .returned v ∧ IsJoin (la ++ lb) L ∧ L.length ≤ la.length + lb.length ∧ w'.ownsRow w.heap.size 60 5 v L.length (flat L)) ∧ Below w.heap.size w w' := by
  have HIA := Lib.hid hA
  have HIB := Lib.hid hB
  have HCA := Lib.hid (And.intro hcA hcB)
  obtain ⟨na, hna⟩ : ∃ n, la.length = n := ⟨_, rfl⟩
  obtain ⟨nb, hnb⟩ : ∃ n, lb.length = n := ⟨_, rfl⟩
  have HNA := Lib.hid (And.intro hna hnb)
  rw [hna] at hla ⊢
  rw [hnb] at hlb ⊢
  obtain ⟨wB, hwB⟩ : ∃ v, v = (w.alloc (.cells #[] 60)).alloc (.cells #[] 60) := ⟨_, rfl⟩
  have HBB : Hid (Below w.heap.size w wB) := Lib.hid (by rw [hwB]; exact Go.Joins.below_alloc2 _ _ _)
  have HOB : Hid (wB.ownsRow w.heap.size 60 5 (.slice (some ⟨w.heap.size, 0, none⟩) 0 0) 0 []) := Lib.hid (by
    rw [hwB]
    exact (World.ownsRow_made (base := w.heap.size) (e := 60) (size := 5) w #[] 0 (Nat.le_refl _) (Nat.zero_le _) rfl).alloc _)
  have HAB : Hid (wB.ownsRow w.heap.size 60 5 (.slice (some ⟨w.heap.size + 1, 0, none⟩) 0 0) 0 []) := Lib.hid (by
    rw [hwB]
    have h := World.ownsRow_made (base := w.heap.size) (e := 60) (size := 5) (w.alloc (.cells #[] 60)) #[] 0 (by rw [World.size_alloc]; omega) (Nat.zero_le _) rfl
    rw [World.size_alloc] at h
    exact h)
  clear hA hB hcA hcB hna hnb
  obtain ⟨v1, w1, hrun1, hrow1, hg1, hat1⟩ := run_append_items wB 49 w.heap.size _ [] la A ca HAB.out (HIA.out.later HBB.out) HCA.out.1 (by have := HNA.out; simp only [List.length_nil]; omega) HBB.out.size
  have hb1 := Below.grown HBB.out hg1 HBB.out.size (fun k hk => (HAB.out.lt k hk).1)
  have ho1 : w1.ownsRow w.heap.size 60 5 (.slice (some ⟨w.heap.size, 0, none⟩) 0 0) 0 [] := row_only HOB.out (Only.of_grown hg1) fun i hi e => by
    have e1 : w.heap.size = i := Option.some.inj hi
    have e2 : i = w.heap.size + 1 := Option.some.inj e
    omega
  obtain ⟨v2, w2, hrun2, hrow2, hg2, hat2⟩ := run_append_items w1 49 w.heap.size v1 ([] ++ la) lb B cb hrow1 (HIB.out.later hb1) HCA.out.2 (by have := HNA.out; simp only [List.nil_append]; omega) hb1.size
  have hb2 := Below.grown hb1 hg2 hb1.size (fun k hk => (hrow1.lt k hk).1)
  have hS : w.heap.size < wB.heap.size := (HOB.out.lt _ rfl).2
  have ho2 : w2.ownsRow w.heap.size 60 5 (.slice (some ⟨w.heap.size, 0, none⟩) 0 0) 0 [] := row_only ho1 (Only.of_grown hg2) fun i hi e => by
    have e1 : w.heap.size = i := Option.some.inj hi
    rcases hat1 with h | h
    · rw [h] at e
      have e2 : i = w.heap.size + 1 := Option.some.inj e
      omega
    · rw [h] at e
      have e2 := Option.some.inj e
      omega
  rw [HNA.out.1] at hrun1
  rw [HNA.out.2] at hrun2
  rw [List.nil_append] at hrow2
  obtain ⟨all, hall⟩ : ∃ a, la ++ lb = a := ⟨_, rfl⟩
  rw [hall] at hrow2
  have HTT : Hid (all.length = na + nb) := Lib.hid (by rw [← hall, List.length_append, HNA.out.1, HNA.out.2])
  rw [hall]
  obtain ⟨T, hT⟩ : ∃ T, all.length = T := ⟨_, rfl⟩
  have HT := Lib.hid hT
  have hT2 : T ≤ 2000 := by have := HTT.out; omega
  rw [hT] at hrow2
  obtain ⟨A2, n2, c2, hv2⟩ := own_slc hrow2
  have hn2 : n2 = T := by
    rcases hrow2.2 with ⟨h1, h3⟩ | ⟨g, c, cur, h1, _⟩
    · rw [hv2] at h1; simp only [Value.slice.injEq] at h1; omega
    · rw [hv2] at h1; simp only [Value.slice.injEq] at h1; omega
  subst hv2
  subst hn2
  have HRUN1 := Lib.hid hrun1
  have HRUN2 := Lib.hid hrun2
  have HOUT0 := Lib.hid ho2
  have HALL0 := Lib.hid hrow2
  have HBW0 := Lib.hid hb2
  clear hrun1 hrow1 hg1 hat1 hb1 ho1 hrun2 hrow2 hg2 hat2 hb2 hS ho2 hall hT HAB HOB HIA HIB HCA HNA
  go_enter Try.func37, Try.ntmps37
  go_wp2_with (at_builtin
               first
                 | (rw [← hwB]
                    refine Lib.wpList_append_run wB rfl (.tmp 10) (.tmp 11) 49 49 rfl (.slice (some ⟨w.heap.size + 1, 0, none⟩) 0 0) (.slice A na ca) rfl rfl _ _ HRUN1.out ?_)
                 | (refine Lib.wpList_append_run w1 rfl (.tmp 12) (.tmp 13) 49 49 rfl v1 (.slice B nb cb) rfl rfl _ _ HRUN2.out ?_))
  go_loopw [5, 7, 8] (fun vo i _ wr => ∃ (k : Nat) (out : List It), k ≤ n2 ∧ i = .int .i64 (k : Int) ∧ (∃ g c, vo = .slice (some ⟨g, 0, none⟩) out.length c) ∧ Hid (IsJoin (all.take k) out ∧ out.length ≤ k ∧ wr.ownsRow w.heap.size 60 5 vo out.length (flat out) ∧ wr.ownsRow w.heap.size 60 5 (.slice A2 n2 c2) n2 (flat all) ∧ Below w.heap.size w wr)) (fun _ i _ _ => n2 - (intOf i).toNat)
  case atStart => exact ⟨0, [], Nat.zero_le _, rfl, ⟨_, _, rfl⟩, Lib.hid ⟨⟨List.Pairwise.nil, fun _ => rfl⟩, Nat.le_refl _, HOUT0.out, HALL0.out, HBW0.out⟩⟩
  case round =>
    obtain ⟨k, out, hk, rfl, ⟨g, co, rfl⟩, HJ⟩ := hrel
    have HBO := Lib.hid HJ.out.2.2.2.2
    by_cases hlt : k < n2
    · obtain ⟨h, c3, hv3⟩ := own_some HALL0.out (by omega)
      simp only [Value.slice.injEq] at hv3
      obtain ⟨hA2, _, hc3⟩ := hv3
      subst hA2
      subst hc3
      have hka : k < all.length := by have := HT.out; omega
      obtain ⟨hrA, hcA, _⟩ := row_of_own HJ.out.2.2.2.1
      obtain ⟨hrO, hcO, _⟩ := row_of_own HJ.out.2.2.1
      obtain ⟨x, hx⟩ : ∃ x, all[k] = x := ⟨_, rfl⟩
      have HXI0 : Hid (ItAt wr h (k * 5) x) := Lib.hid (by rw [← hx]; exact hrA.at_ hka)
      have HTK : Hid (all.take (k + 1) = all.take k ++ [x]) := Lib.hid (by rw [List.take_succ_eq_append_getElem hka, hx])
      have HRO := Lib.hid hrO
      obtain ⟨M, hM⟩ : ∃ M, out.length = M := ⟨_, rfl⟩
      have HML := Lib.hid hM
      have hMk : M ≤ k := by have := HJ.out.2.1; omega
      rw [hM] at hcO
      have HFD := Lib.hid (refFind_any (some ⟨g, 0, none⟩) out co x.cell wr (row_items hrO) (by omega))
      rw [hM] at HFD ⊢
      obtain ⟨F, hF⟩ : ∃ F, findI out x.cell = F := ⟨_, rfl⟩
      have HF := Lib.hid (findI_none_iff out x.cell)
      rw [hF] at HF HFD
      have xc := HXI0.out.cell
      clear hrA hcA hx hrO hM hka hF
      go_wp2_with fail
      refine HFD.out.mono ?_
      rintro e wo ⟨rfl, rfl⟩
      by_cases hF0 : 0 ≤ F
      · have HSK := Lib.hid (isJoin_skip HJ.out.1 (HF.out.2 hF0))
        go_wp2_with fail
        go_roundw
        case rel => exact ⟨k + 1, out, by omega, by go_num, ⟨g, co, by rw [HML.out]⟩, Lib.hid ⟨by rw [HTK.out]; exact HSK.out, by have := HJ.out.2.1; omega, by have h5 := HJ.out.2.2.1; rw [HML.out] at h5 ⊢; exact h5, HJ.out.2.2.2.1, HBO.out⟩⟩
        case measure => simp [intOf]; omega
      · have HNF := Lib.hid (HF.out.1 (by omega))
        clear HF HFD xc
        obtain ⟨w0, hw0⟩ : ∃ w0, w0 = wr := ⟨_, rfl⟩
        subst hw0
        go_wp2_with fail
        go_loopw [8] (fun i wr => ∃ p : Nat, p ≤ M ∧ i = .int .i64 (p : Int) ∧ Hid (∀ y ∈ out.take p, y.cell < x.cell) ∧ Hid (Below w0.heap.size w0 wr)) (fun i _ => M - (intOf i).toNat)
        case atStart => exact ⟨0, Nat.zero_le _, rfl, Lib.hid (fun y hy => by simp at hy), Lib.hid (Below.refl _ _)⟩
        case round =>
          obtain ⟨p, hp, rfl, HLE, HBB⟩ := hrel
          have HRO2 := Lib.hid (HRO.out.later HBB.out)
          have HXI2 := Lib.hid (HXI0.out.later HBB.out)
          have HPM0 : Hid (¬ (p < M) ∨ p < M) := Lib.hid (Classical.em _ |>.symm)
          obtain ⟨z, hz⟩ : ∃ z, x.cell = z := ⟨_, rfl⟩
          have HZC : Hid (∀ wi, Below wr.heap.size wr wi → wi.cell? ⟨h, k * 5, none⟩ = some (.int .i64 z)) := Lib.hid (fun wi hb => by rw [← hz]; exact (HXI2.out.later hb).cell)
          have HKT : Hid (k < n2) := Lib.hid hlt
          go_upto_region 8 with (fail)
          go_cut [45] from 29 to 45 (LssOut p M out x wr)
          case first =>
            by_cases hpm : p < M
            · have hpo : p < out.length := by have := HML.out; omega
              obtain ⟨y, hy⟩ : ∃ y, out[p].cell = y := ⟨_, rfl⟩
              have HYC : Hid (∀ wi, Below wr.heap.size wr wi → wi.cell? ⟨g, p * 5, none⟩ = some (.int .i64 y)) := Lib.hid (fun wi hb => by rw [← hy]; exact ((HRO2.out.later hb).at_ hpo).cell)
              have HPM : Hid (p < M) := Lib.hid hpm
              have HEND : Hid ((y < z → ∀ y ∈ out.take (p + 1), y.cell < x.cell) ∧ (¬ y < z → ∀ y ∈ out.drop p, x.cell ≤ y.cell)) := Lib.hid (by
                refine ⟨fun hlt y' hy' => ?_, fun hnlt y' hy' => ?_⟩
                · rw [List.take_succ_eq_append_getElem hpo] at hy'
                  rcases List.mem_append.1 hy' with h1 | h1
                  · exact HLE.out y' h1
                  · rw [List.mem_singleton.1 h1, hy, hz]; exact hlt
                · have hr := HJ.out.1.rise
                  rw [← List.take_append_drop p out, List.drop_eq_getElem_cons hpo] at hr
                  rw [List.drop_eq_getElem_cons hpo] at hy'
                  have h2 := (List.pairwise_cons.1 (List.pairwise_append.1 hr).2.1).1
                  rcases List.mem_cons.1 hy' with rfl | h1
                  · rw [hy, hz]; omega
                  · have := h2 y' h1
                    rw [hy] at this
                    omega)
              clear hy hpo hz
              go_wp2_with fail
              refine Reg.region_heavy (by kernel_rfl) 16 [16] (rjLss_t g h p k M n2 co c2 y z) (fun a => Below wr.heap.size wr a) (fun a => Below wr.heap.size wr a) (fun V => [(some 29, V 0), (some 30, V 1), (some 31, V 2), (some 32, V 3), (some 33, V 4), (some 34, V 5), (some 35, V 6), (some 36, V 7), (some 37, V 8), (some 38, V 9), (some 39, V 10), (some 40, V 11), (some 41, V 12), (some 42, V 13), (some 43, V 14), (some 44, V 15), (some 45, V 16)]) (by kernel_rfl) (by kernel_rfl) (by kernel_rfl) (fun V => rfl) ?_ ?_ ?_
              · exact (Below.refl _ _).drew
              · intro i o ho
                have hi : i < 17 := (Array.getElem?_eq_some_iff.1 ho).1
                rcases i with _ | _ | _ | _ | _ | _ | _ | _ | _ | _ | _ | _ | _ | _ | _ | _ | _ | i
                rotate_right
                · omega
                all_goals obtain rfl := Option.some.inj ho
                all_goals intro ρ wi hE hI hs hd
                all_goals try dsimp only at hI
                · have e8 : ρ (.tmp 8) = .int .i64 (p : Int) := hs 8; exact Reg.gw hI
                · have e5 : ρ (.tmp 5) = .slice (some ⟨g, 0, none⟩) M co := hs 5; exact Reg.gw hI
                · obtain ⟨_, rfl, e30⟩ := hd 1 30; exact Reg.gw hI
                · obtain ⟨_, rfl, e29⟩ := hd 0 29; obtain ⟨_, rfl, e31⟩ := hd 2 31; have hx := HPM.out; exact Reg.gw hI
                · obtain ⟨_, rfl, e32⟩ := hd 3 32; exact Reg.gw hI
                · have e5 : ρ (.tmp 5) = .slice (some ⟨g, 0, none⟩) M co := hs 5
                  refine Reg.yes ?_
                  exact Reg.gw hI
                · have e8 : ρ (.tmp 8) = .int .i64 (p : Int) := hs 8
                  refine Reg.yes ?_
                  exact Reg.gw hI
                · obtain ⟨_, rfl, e34⟩ := hd 5 34; obtain ⟨_, rfl, e35⟩ := hd 6 35
                  refine Reg.yes ?_
                  have hx := HPM.out; exact Reg.gw hI
                · obtain ⟨_, rfl, e36⟩ := hd 7 36
                  refine Reg.yes ?_
                  exact Reg.gw hI
                · obtain ⟨_, rfl, e37⟩ := hd 8 37
                  refine Reg.yes ?_
                  have hx := HYC.out wi hI; exact Reg.gw hI
                · have e6 : ρ (.tmp 6) = .slice (some ⟨h, 0, none⟩) n2 c2 := hs 6
                  refine Reg.yes ?_
                  exact Reg.gw hI
                · have e7 : ρ (.tmp 7) = .int .i64 (k : Int) := hs 7
                  refine Reg.yes ?_
                  exact Reg.gw hI
                · obtain ⟨_, rfl, e39⟩ := hd 10 39; obtain ⟨_, rfl, e40⟩ := hd 11 40
                  refine Reg.yes ?_
                  have hx := HKT.out; exact Reg.gw hI
                · obtain ⟨_, rfl, e41⟩ := hd 12 41
                  refine Reg.yes ?_
                  exact Reg.gw hI
                · obtain ⟨_, rfl, e42⟩ := hd 13 42
                  refine Reg.yes ?_
                  have hx := HZC.out wi hI; exact Reg.gw hI
                · obtain ⟨_, rfl, e38⟩ := hd 9 38; obtain ⟨_, rfl, e43⟩ := hd 14 43
                  refine Reg.yes ?_
                  exact Reg.gw hI
                · obtain ⟨_, rfl, e33⟩ := hd 4 33; obtain ⟨_, rfl, e44⟩ := hd 15 44; have hc := hE.const; exact Reg.gw hI
              · intro V w1 hV hI
                have hV16 : V 16 = .bool (decide (y < z)) := hV 16 (by decide) rfl
                simp only [Reg.putsO, List.foldl_cons, List.foldl_nil, Act.put, List.setIfInBounds_toArray, List.set_cons_succ, List.set_cons_zero, hV16]
                replace hI : (fun a => Below wr.heap.size wr a) w1 := hI
                clear hV hV16
                go_wp2_with fail
                go_meet
                exact ⟨decide (y < z), rfl, hI, fun h1 => ⟨HPM.out, HEND.out.1 (of_decide_eq_true h1)⟩, fun h1 => HEND.out.2 (by have := of_decide_eq_false h1; omega)⟩
            · have HPM2 : Hid (∀ y ∈ out.drop p, x.cell ≤ y.cell) := Lib.hid (fun y hy => by rw [List.drop_of_length_le (by have := HML.out; omega)] at hy; cases hy)
              have HPM0 : Hid (¬ (p < M)) := Lib.hid hpm
              clear hz
              go_wp2_with fail
              refine Reg.region_heavy (by kernel_rfl) 16 [16] (rjLss_f g p M co) (fun a => Below wr.heap.size wr a) (fun a => Below wr.heap.size wr a) (fun V => [(some 29, V 0), (some 30, V 1), (some 31, V 2), (some 32, V 3), (some 33, V 4), (some 34, V 5), (some 35, V 6), (some 36, V 7), (some 37, V 8), (some 38, V 9), (some 39, V 10), (some 40, V 11), (some 41, V 12), (some 42, V 13), (some 43, V 14), (some 44, V 15), (some 45, V 16)]) (by kernel_rfl) (by kernel_rfl) (by kernel_rfl) (fun V => rfl) ?_ ?_ ?_
              · exact (Below.refl _ _).drew
              · intro i o ho
                have hi : i < 17 := (Array.getElem?_eq_some_iff.1 ho).1
                rcases i with _ | _ | _ | _ | _ | _ | _ | _ | _ | _ | _ | _ | _ | _ | _ | _ | _ | i
                rotate_right
                · omega
                all_goals obtain rfl := Option.some.inj ho
                all_goals intro ρ wi hE hI hs hd
                all_goals try dsimp only at hI
                · have e8 : ρ (.tmp 8) = .int .i64 (p : Int) := hs 8; exact Reg.gw hI
                · have e5 : ρ (.tmp 5) = .slice (some ⟨g, 0, none⟩) M co := hs 5; exact Reg.gw hI
                · obtain ⟨_, rfl, e30⟩ := hd 1 30; exact Reg.gw hI
                · obtain ⟨_, rfl, e29⟩ := hd 0 29; obtain ⟨_, rfl, e31⟩ := hd 2 31; have hx := HPM0.out; exact Reg.gw hI
                · obtain ⟨_, rfl, e32⟩ := hd 3 32; exact Reg.gw hI
                · exact Reg.no hI
                · exact Reg.no hI
                · exact Reg.no hI
                · exact Reg.no hI
                · exact Reg.no hI
                · exact Reg.no hI
                · exact Reg.no hI
                · exact Reg.no hI
                · exact Reg.no hI
                · exact Reg.no hI
                · exact Reg.no hI
                · obtain ⟨_, rfl, e33⟩ := hd 4 33; obtain ⟨_, rfl, e44⟩ := hd 15 44; have hc := hE.const; exact Reg.gw hI
              · intro V w1 hV hI
                have hV16 : V 16 = .bool false := hV 16 (by decide) rfl
                simp only [Reg.putsO, List.foldl_cons, List.foldl_nil, Act.put, List.setIfInBounds_toArray, List.set_cons_succ, List.set_cons_zero, hV16]
                replace hI : (fun a => Below wr.heap.size wr a) w1 := hI
                clear hV hV16
                go_wp2_with fail
                go_meet
                exact ⟨false, rfl, hI, fun h1 => (by cases h1), fun _ => HPM2.out⟩
          case rest =>
            obtain ⟨o, rfl, hbo, hyes, hno⟩ := hcut
            have HBC : Hid (Below w0.heap.size w0 wc) := Lib.hid (HBB.out.trans (hbo.mono HBB.out.size))
            have HRC : Hid (∀ wi, Below wc.heap.size wc wi → Row wi g out) := Lib.hid (fun wi hb => (HRO2.out.later hbo).later hb)
            have HXI : Hid (∀ wi, Below wc.heap.size wc wi → ItAt wi h (k * 5) x) := Lib.hid (fun wi hb => (HXI2.out.later hbo).later hb)
            clear hbo HZC HPM0
            cases o with
            | true =>
              obtain ⟨hpm, hle⟩ := hyes rfl
              have HLE2 := Lib.hid hle
              clear hyes hno hle
              go_wp2_with fail
              go_roundw
              case rel => exact ⟨p + 1, hpm, by go_num, HLE2, HBC⟩
              case measure => simp [intOf]; omega
            | false =>
              have HGE := Lib.hid (hno rfl)
              clear hyes hno
              have HPM : Hid (p ≤ M) := Lib.hid hp
              have HMC : Hid (M ≤ co) := Lib.hid hcO
              have HTI : Hid (∀ wi, Below wc.heap.size wc wi → Items wi (some ⟨g, 0, none⟩) (out.take p)) := Lib.hid (fun wi hb => items_take (row_items (HRC.out wi hb)) p)
              have HPL : Hid ((out.take p).length = p) := Lib.hid (by rw [List.length_take, HML.out]; omega)
              have HDL : Hid ((out.drop p).length = M - p) := Lib.hid (by rw [List.length_drop, HML.out])
              have HSM : Hid ((out.take p).length ≤ 2000 ∧ p ≤ 2000 ∧ out.length ≤ 2000) := Lib.hid (by rw [HPL.out, HML.out]; omega)
              have HI : Hid (∀ V : Nat → Value, rjSt p out x false false false false false false (V 0) (V 4) (V 9) (V 10) (V 14) (V 15) wc wc.drew) := Lib.hid (fun V => ⟨(Below.refl _ _).drew, fun e => (by cases e), fun e => (by cases e), fun e => (by cases e), fun e => (by cases e), fun e => (by cases e), fun e => (by cases e), fun e => (by cases e)⟩)
              have HAL : Hid (wc.ownsRow w.heap.size 60 5 (.slice (some ⟨h, 0, none⟩) n2 c2) n2 (flat all)) := Lib.hid (row_only HJ.out.2.2.2.1 (Only.of_below HBC.out) (fun _ _ hh => hh))
              have HBW : Hid (Below w.heap.size w wc) := Lib.hid (HBO.out.trans (HBC.out.mono HBO.out.size))
              have HKK : Hid (out.length ≤ k) := Lib.hid HJ.out.2.1
              have HJN : Hid (IsJoin (all.take (k + 1)) (out.take p ++ [x] ++ out.drop p)) := Lib.hid (by rw [HTK.out]; exact isJoin_put HJ.out.1 HNF.out HLE.out HGE.out)
              by_cases hpc : p = co
              · have HPC : Hid (p = co) := Lib.hid hpc
                have HDI : Hid (∀ wi, Below wc.heap.size wc wi → Items wi (some ⟨g, 0, none⟩) (out.drop p)) := Lib.hid (fun wi hb j hj => by rw [HDL.out] at hj; omega)
                clear HJ HBO HRO HXI0 HTK HNF HLE HGE HRO2 HXI2 HRC HBC HBB hcO
                go_wp2_with fail
                refine Reg.region_inv (by kernel_rfl) (fun i => ([none, some (.slice (some ⟨g, 0, none⟩) M co), some (.int .i64 (p : Int)), some (.slice (some ⟨g, 0, none⟩) p co), none, some (.slice (some ⟨h, 0, none⟩) n2 c2), some (.int .i64 (k : Int)), some (.pointer (some ⟨h, k * 5, none⟩)), some (.agg #[.int .i64 x.cell, .int .i64 x.version, .int .i64 x.value, .bool x.write, .int .i64 x.new]), none, none, some (.slice (some ⟨g, 0, none⟩) M co), some (.int .i64 (p : Int)), some (.slice (some ⟨g, 0, none⟩) (M - p) (co - p)), none, none] : List (Option Value)).getD i none) (fun D V W => rjSt p out x (D 0) (D 4) (D 9) (D 10) (D 14) (D 15) (V 0) (V 4) (V 9) (V 10) (V 14) (V 15) wc W) (fun V => [(some 48, V 0), (some 49, V 1), (some 50, V 2), (some 51, V 3), (some 52, V 4), (some 53, V 5), (some 54, V 6), (some 55, V 7), (some 56, V 8), (some 57, V 9), (some 58, V 10), (some 59, V 11), (some 60, V 12), (some 61, V 13), (some 62, V 14), (some 5, V 15)]) (by kernel_rfl) (by kernel_rfl) (fun V => rfl) ?_ ?_ ?_
                · intro V
                  exact HI.out V
                · intro i o ho
                  have hi : i < 16 := (Array.getElem?_eq_some_iff.1 ho).1
                  rcases i with _ | _ | _ | _ | _ | _ | _ | _ | _ | _ | _ | _ | _ | _ | _ | _ | i
                  rotate_right
                  · omega
                  all_goals obtain rfl := Option.some.inj ho
                  all_goals intro D V ρ wi hE hI hDi hT hF hs hd hk
                  · have hD0 : D 0 = false := hDi; have hD4 : D 4 = false := hF 1 4; have hD10 : D 10 = false := hF 2 10; have hD14 : D 14 = false := hF 3 14; clear hT hF
                    rw [hD0, hD4, hD10, hD14] at hI
                    exact Reg.Gives.value (v := .slice (some ⟨wi.heap.size, 0, none⟩) 0 0) (w' := wi.alloc (.cells #[] 60)) (by go_simp) ⟨fun x h => (by cases h), by show rjSt p out x true (D 4) (D 9) (D 10) (D 14) (D 15) (.slice (some ⟨wi.heap.size, 0, none⟩) 0 0) (V 4) (V 9) (V 10) (V 14) (V 15) wc _; rw [hD4, hD10, hD14]; exact hI.make⟩
                  · have e5 : ρ (.tmp 5) = .slice (some ⟨g, 0, none⟩) M co := hs 5; clear hT hF hk
                    exact Reg.Gives.value (v := .slice (some ⟨g, 0, none⟩) M co) (w' := wi) (by go_simp) ⟨fun x h => Option.some.inj h, hI⟩
                  · have e8 : ρ (.tmp 8) = .int .i64 (p : Int) := hs 8; clear hT hF hk
                    exact Reg.Gives.value (v := .int .i64 (p : Int)) (w' := wi) (by go_simp) ⟨fun x h => Option.some.inj h, hI⟩
                  · have e49 : ρ (.tmp 49) = .slice (some ⟨g, 0, none⟩) M co := (hd 1 49).trans (hk 1 _ rfl); have e50 : ρ (.tmp 50) = .int .i64 (p : Int) := (hd 2 50).trans (hk 2 _ rfl); clear hT hF hk; have hx := HPM.out; have hx2 := HMC.out; have hx3 : p ≤ co := Nat.le_trans hx hx2
                    have hx4 : ¬ co < p := by omega
                    exact Reg.Gives.value (v := .slice (some ⟨g, 0, none⟩) p co) (w' := wi) (by go_simp) ⟨fun x h => Option.some.inj h, hI⟩
                  · have e48 : ρ (.tmp 48) = V 0 := hd 0 48; have e51 : ρ (.tmp 51) = .slice (some ⟨g, 0, none⟩) p co := (hd 3 51).trans (hk 3 _ rfl); have hD0 : D 0 = true := hT 1 0; have hD4 : D 4 = false := hDi; have hD10 : D 10 = false := hF 1 10; have hD14 : D 14 = false := hF 2 14; clear hT hF
                    rw [hD0, hD4, hD10, hD14] at hI
                    obtain ⟨v', w'', hrun, hrow, hgr, hat⟩ := run_append_items wi _ wc.heap.size (V 0) [] (out.take p) (some ⟨g, 0, none⟩) co (hI.r0 rfl rfl) (HTI.out wi hI.low) (fun e => by cases e) (by have := HSM.out; simp only [List.length_nil]; omega) hI.low.size
                    rw [HPL.out] at hrun
                    exact Reg.Gives.value (v := v') (w' := w'') (Reg.exec_append rfl e48 e51 hrun) ⟨fun x h => (by cases h), by show rjSt p out x (D 0) true (D 9) (D 10) (D 14) (D 15) (V 0) v' (V 9) (V 10) (V 14) (V 15) wc w''; rw [hD0, hD10, hD14]; exact hI.app1 HPL.out hrow hgr⟩
                  · have e6 : ρ (.tmp 6) = .slice (some ⟨h, 0, none⟩) n2 c2 := hs 6; clear hT hF hk
                    exact Reg.Gives.value (v := .slice (some ⟨h, 0, none⟩) n2 c2) (w' := wi) (by go_simp) ⟨fun x h => Option.some.inj h, hI⟩
                  · have e7 : ρ (.tmp 7) = .int .i64 (k : Int) := hs 7; clear hT hF hk
                    exact Reg.Gives.value (v := .int .i64 (k : Int)) (w' := wi) (by go_simp) ⟨fun x h => Option.some.inj h, hI⟩
                  · have e53 : ρ (.tmp 53) = .slice (some ⟨h, 0, none⟩) n2 c2 := (hd 5 53).trans (hk 5 _ rfl); have e54 : ρ (.tmp 54) = .int .i64 (k : Int) := (hd 6 54).trans (hk 6 _ rfl); clear hT hF hk; have hx := HKT.out
                    exact Reg.Gives.value (v := .pointer (some ⟨h, k * 5, none⟩)) (w' := wi) (by go_simp) ⟨fun x h => Option.some.inj h, hI⟩
                  · have e55 : ρ (.tmp 55) = .pointer (some ⟨h, k * 5, none⟩) := (hd 7 55).trans (hk 7 _ rfl); clear hT hF hk; have hit := HXI.out wi hI.low; have c0 := hit.cell; have c1 := hit.version; have c2 := hit.value; have c3 := hit.write; have c4 := hit.new
                    exact Reg.Gives.value (v := .agg #[.int .i64 x.cell, .int .i64 x.version, .int .i64 x.value, .bool x.write, .int .i64 x.new]) (w' := wi) (by go_simp) ⟨fun x h => Option.some.inj h, hI⟩
                  · have e56 : ρ (.tmp 56) = .agg #[.int .i64 x.cell, .int .i64 x.version, .int .i64 x.value, .bool x.write, .int .i64 x.new] := (hd 8 56).trans (hk 8 _ rfl); have hD9 : D 9 = false := hDi; have hD10 : D 10 = false := hF 1 10; have hD14 : D 14 = false := hF 2 14; clear hT hF
                    rw [hD9, hD10, hD14] at hI
                    exact Reg.Gives.value (v := .slice (some ⟨wi.heap.size, 0, none⟩) 1 1) (w' := wi.alloc (.cells #[.int .i64 x.cell, .int .i64 x.version, .int .i64 x.value, .bool x.write, .int .i64 x.new] 60)) (by go_simp) ⟨fun x h => (by cases h), by show rjSt p out x (D 0) (D 4) true (D 10) (D 14) (D 15) (V 0) (V 4) (.slice (some ⟨wi.heap.size, 0, none⟩) 1 1) (V 10) (V 14) (V 15) wc _; rw [hD10, hD14]; exact hI.one⟩
                  · have e52 : ρ (.tmp 52) = V 4 := hd 4 52; have e57 : ρ (.tmp 57) = V 9 := hd 9 57; have hD4 : D 4 = true := hT 1 4; have hD9 : D 9 = true := hT 1 9; have hD10 : D 10 = false := hDi; have hD14 : D 14 = false := hF 1 14; clear hT hF
                    rw [hD4, hD9, hD10, hD14] at hI
                    obtain ⟨j, hv, hj0, hcj⟩ := hI.b9 rfl rfl
                    rw [hv] at e57
                    obtain ⟨v', w'', hrun, hrow, hgr, hat⟩ := run_append_items wi _ wc.heap.size (V 4) (out.take p) [x] (some ⟨j, 0, none⟩) 1 (by rw [HPL.out]; exact hI.r4 rfl rfl) (one_item hcj) (fun e => by cases e) (by rw [HPL.out]; have := HSM.out; simp only [List.length_singleton]; omega) hI.low.size
                    exact Reg.Gives.value (v := v') (w' := w'') (Reg.exec_append rfl e52 e57 hrun) ⟨fun x h => (by cases h), by show rjSt p out x (D 0) (D 4) (D 9) true (D 14) (D 15) (V 0) (V 4) (V 9) v' (V 14) (V 15) wc w''; rw [hD4, hD9, hD14]; exact hI.app2 hrow hgr⟩
                  · have e5 : ρ (.tmp 5) = .slice (some ⟨g, 0, none⟩) M co := hs 5; clear hT hF hk
                    exact Reg.Gives.value (v := .slice (some ⟨g, 0, none⟩) M co) (w' := wi) (by go_simp) ⟨fun x h => Option.some.inj h, hI⟩
                  · have e8 : ρ (.tmp 8) = .int .i64 (p : Int) := hs 8; clear hT hF hk
                    exact Reg.Gives.value (v := .int .i64 (p : Int)) (w' := wi) (by go_simp) ⟨fun x h => Option.some.inj h, hI⟩
                  · have e59 : ρ (.tmp 59) = .slice (some ⟨g, 0, none⟩) M co := (hd 11 59).trans (hk 11 _ rfl); have e60 : ρ (.tmp 60) = .int .i64 (p : Int) := (hd 12 60).trans (hk 12 _ rfl); clear hT hF hk; have hx := HPM.out; have hx2 := HMC.out; have hx3 := HPC.out
                    have hx4 : ¬ co < M := by omega
                    have hx5 : ¬ M < p := by omega
                    have hx6 : ¬ M < co := by omega
                    exact Reg.Gives.value (v := .slice (some ⟨g, 0, none⟩) (M - p) (co - p)) (w' := wi) (by go_simp) ⟨fun x h => Option.some.inj h, hI⟩
                  · have e58 : ρ (.tmp 58) = V 10 := hd 10 58; have e61 : ρ (.tmp 61) = .slice (some ⟨g, 0, none⟩) (M - p) (co - p) := (hd 13 61).trans (hk 13 _ rfl); have hD4 : D 4 = true := hT 2 4; have hD10 : D 10 = true := hT 1 10; have hD14 : D 14 = false := hDi; have hD15 : D 15 = false := hF 1 15; clear hT hF
                    rw [hD10, hD14] at hI
                    obtain ⟨v', w'', hrun, hrow, hgr, hat⟩ := run_append_items wi _ wc.heap.size (V 10) (out.take p ++ [x]) (out.drop p) (some ⟨g, 0, none⟩) (co - p) (hI.r10 rfl rfl) (HDI.out wi hI.low) (fun e => by cases e) (by have := HSM.out; simp only [List.length_append, List.length_take, List.length_drop, List.length_singleton]; omega) hI.low.size
                    rw [HDL.out] at hrun
                    exact Reg.Gives.value (v := v') (w' := w'') (Reg.exec_append rfl e58 e61 hrun) ⟨fun x h => (by cases h), by show rjSt p out x (D 0) (D 4) (D 9) (D 10) true (D 15) (V 0) (V 4) (V 9) (V 10) v' (V 15) wc w''; rw [hD10]; exact hI.app3 hrow hgr hD15 hD4⟩
                  · have e62 : ρ (.tmp 62) = V 14 := hd 14 62; clear hT hF
                    exact Reg.Gives.value (v := V 14) (w' := wi) (by go_simp) ⟨fun x h => (by cases h), by show rjSt p out x (D 0) (D 4) (D 9) (D 10) (D 14) true (V 0) (V 4) (V 9) (V 10) (V 14) (V 14) wc wi; exact hI.last⟩
                · intro V w1 hk hI
                  simp only [Reg.putsO, List.foldl_cons, List.foldl_nil, Act.put, List.setIfInBounds_toArray, List.set_cons_succ, List.set_cons_zero]
                  replace hI : rjSt p out x true true true true true true (V 0) (V 4) (V 9) (V 10) (V 14) (V 15) wc w1 := hI
                  clear hk
                  have hrow := hI.r14 rfl
                  rw [← hI.lst rfl] at hrow
                  have HROW2 := Lib.hid hrow
                  have HLOW := Lib.hid hI.low
                  clear hI hrow
                  obtain ⟨g2, co2, hv2⟩ := own_some HROW2.out (by simp only [List.length_append, List.length_singleton]; omega)
                  rw [hv2] at HROW2 ⊢
                  clear hv2
                  go_wp2_with fail
                  go_roundw
                  case rel => exact ⟨k + 1, out.take p ++ [x] ++ out.drop p, hlt, by go_num, ⟨_, _, rfl⟩, Lib.hid ⟨HJN.out, by have := HKK.out; have := HPL.out; have := HDL.out; have := HML.out; simp only [List.length_append, List.length_singleton]; omega, rowUp HBW.out HROW2.out, row_only HAL.out (Only.of_below HLOW.out) (fun _ _ hh => hh), HBW.out.trans (HLOW.out.mono HBW.out.size)⟩⟩
                  case measure => simp [intOf]; omega
              · have HPC : Hid (¬ p = co) := Lib.hid hpc
                have HDI : Hid (∀ wi, Below wc.heap.size wc wi → Items wi (some ⟨g, p * 5, none⟩) (out.drop p)) := Lib.hid (fun wi hb => items_drop (HRC.out wi hb))
                clear HJ HBO HRO HXI0 HTK HNF HLE HGE HRO2 HXI2 HRC HBC HBB hcO
                go_wp2_with fail
                refine Reg.region_inv (by kernel_rfl) (fun i => ([none, some (.slice (some ⟨g, 0, none⟩) M co), some (.int .i64 (p : Int)), some (.slice (some ⟨g, 0, none⟩) p co), none, some (.slice (some ⟨h, 0, none⟩) n2 c2), some (.int .i64 (k : Int)), some (.pointer (some ⟨h, k * 5, none⟩)), some (.agg #[.int .i64 x.cell, .int .i64 x.version, .int .i64 x.value, .bool x.write, .int .i64 x.new]), none, none, some (.slice (some ⟨g, 0, none⟩) M co), some (.int .i64 (p : Int)), some (.slice (some ⟨g, p * 5, none⟩) (M - p) (co - p)), none, none] : List (Option Value)).getD i none) (fun D V W => rjSt p out x (D 0) (D 4) (D 9) (D 10) (D 14) (D 15) (V 0) (V 4) (V 9) (V 10) (V 14) (V 15) wc W) (fun V => [(some 48, V 0), (some 49, V 1), (some 50, V 2), (some 51, V 3), (some 52, V 4), (some 53, V 5), (some 54, V 6), (some 55, V 7), (some 56, V 8), (some 57, V 9), (some 58, V 10), (some 59, V 11), (some 60, V 12), (some 61, V 13), (some 62, V 14), (some 5, V 15)]) (by kernel_rfl) (by kernel_rfl) (fun V => rfl) ?_ ?_ ?_
                · intro V
                  exact HI.out V
                · intro i o ho
                  have hi : i < 16 := (Array.getElem?_eq_some_iff.1 ho).1
                  rcases i with _ | _ | _ | _ | _ | _ | _ | _ | _ | _ | _ | _ | _ | _ | _ | _ | i
                  rotate_right
                  · omega
                  all_goals obtain rfl := Option.some.inj ho
                  all_goals intro D V ρ wi hE hI hDi hT hF hs hd hk
                  · have hD0 : D 0 = false := hDi; have hD4 : D 4 = false := hF 1 4; have hD10 : D 10 = false := hF 2 10; have hD14 : D 14 = false := hF 3 14; clear hT hF
                    rw [hD0, hD4, hD10, hD14] at hI
                    exact Reg.Gives.value (v := .slice (some ⟨wi.heap.size, 0, none⟩) 0 0) (w' := wi.alloc (.cells #[] 60)) (by go_simp) ⟨fun x h => (by cases h), by show rjSt p out x true (D 4) (D 9) (D 10) (D 14) (D 15) (.slice (some ⟨wi.heap.size, 0, none⟩) 0 0) (V 4) (V 9) (V 10) (V 14) (V 15) wc _; rw [hD4, hD10, hD14]; exact hI.make⟩
                  · have e5 : ρ (.tmp 5) = .slice (some ⟨g, 0, none⟩) M co := hs 5; clear hT hF hk
                    exact Reg.Gives.value (v := .slice (some ⟨g, 0, none⟩) M co) (w' := wi) (by go_simp) ⟨fun x h => Option.some.inj h, hI⟩
                  · have e8 : ρ (.tmp 8) = .int .i64 (p : Int) := hs 8; clear hT hF hk
                    exact Reg.Gives.value (v := .int .i64 (p : Int)) (w' := wi) (by go_simp) ⟨fun x h => Option.some.inj h, hI⟩
                  · have e49 : ρ (.tmp 49) = .slice (some ⟨g, 0, none⟩) M co := (hd 1 49).trans (hk 1 _ rfl); have e50 : ρ (.tmp 50) = .int .i64 (p : Int) := (hd 2 50).trans (hk 2 _ rfl); clear hT hF hk; have hx := HPM.out; have hx2 := HMC.out; have hx3 : p ≤ co := Nat.le_trans hx hx2
                    have hx4 : ¬ co < p := by omega
                    exact Reg.Gives.value (v := .slice (some ⟨g, 0, none⟩) p co) (w' := wi) (by go_simp) ⟨fun x h => Option.some.inj h, hI⟩
                  · have e48 : ρ (.tmp 48) = V 0 := hd 0 48; have e51 : ρ (.tmp 51) = .slice (some ⟨g, 0, none⟩) p co := (hd 3 51).trans (hk 3 _ rfl); have hD0 : D 0 = true := hT 1 0; have hD4 : D 4 = false := hDi; have hD10 : D 10 = false := hF 1 10; have hD14 : D 14 = false := hF 2 14; clear hT hF
                    rw [hD0, hD4, hD10, hD14] at hI
                    obtain ⟨v', w'', hrun, hrow, hgr, hat⟩ := run_append_items wi _ wc.heap.size (V 0) [] (out.take p) (some ⟨g, 0, none⟩) co (hI.r0 rfl rfl) (HTI.out wi hI.low) (fun e => by cases e) (by have := HSM.out; simp only [List.length_nil]; omega) hI.low.size
                    rw [HPL.out] at hrun
                    exact Reg.Gives.value (v := v') (w' := w'') (Reg.exec_append rfl e48 e51 hrun) ⟨fun x h => (by cases h), by show rjSt p out x (D 0) true (D 9) (D 10) (D 14) (D 15) (V 0) v' (V 9) (V 10) (V 14) (V 15) wc w''; rw [hD0, hD10, hD14]; exact hI.app1 HPL.out hrow hgr⟩
                  · have e6 : ρ (.tmp 6) = .slice (some ⟨h, 0, none⟩) n2 c2 := hs 6; clear hT hF hk
                    exact Reg.Gives.value (v := .slice (some ⟨h, 0, none⟩) n2 c2) (w' := wi) (by go_simp) ⟨fun x h => Option.some.inj h, hI⟩
                  · have e7 : ρ (.tmp 7) = .int .i64 (k : Int) := hs 7; clear hT hF hk
                    exact Reg.Gives.value (v := .int .i64 (k : Int)) (w' := wi) (by go_simp) ⟨fun x h => Option.some.inj h, hI⟩
                  · have e53 : ρ (.tmp 53) = .slice (some ⟨h, 0, none⟩) n2 c2 := (hd 5 53).trans (hk 5 _ rfl); have e54 : ρ (.tmp 54) = .int .i64 (k : Int) := (hd 6 54).trans (hk 6 _ rfl); clear hT hF hk; have hx := HKT.out
                    exact Reg.Gives.value (v := .pointer (some ⟨h, k * 5, none⟩)) (w' := wi) (by go_simp) ⟨fun x h => Option.some.inj h, hI⟩
                  · have e55 : ρ (.tmp 55) = .pointer (some ⟨h, k * 5, none⟩) := (hd 7 55).trans (hk 7 _ rfl); clear hT hF hk; have hit := HXI.out wi hI.low; have c0 := hit.cell; have c1 := hit.version; have c2 := hit.value; have c3 := hit.write; have c4 := hit.new
                    exact Reg.Gives.value (v := .agg #[.int .i64 x.cell, .int .i64 x.version, .int .i64 x.value, .bool x.write, .int .i64 x.new]) (w' := wi) (by go_simp) ⟨fun x h => Option.some.inj h, hI⟩
                  · have e56 : ρ (.tmp 56) = .agg #[.int .i64 x.cell, .int .i64 x.version, .int .i64 x.value, .bool x.write, .int .i64 x.new] := (hd 8 56).trans (hk 8 _ rfl); have hD9 : D 9 = false := hDi; have hD10 : D 10 = false := hF 1 10; have hD14 : D 14 = false := hF 2 14; clear hT hF
                    rw [hD9, hD10, hD14] at hI
                    exact Reg.Gives.value (v := .slice (some ⟨wi.heap.size, 0, none⟩) 1 1) (w' := wi.alloc (.cells #[.int .i64 x.cell, .int .i64 x.version, .int .i64 x.value, .bool x.write, .int .i64 x.new] 60)) (by go_simp) ⟨fun x h => (by cases h), by show rjSt p out x (D 0) (D 4) true (D 10) (D 14) (D 15) (V 0) (V 4) (.slice (some ⟨wi.heap.size, 0, none⟩) 1 1) (V 10) (V 14) (V 15) wc _; rw [hD10, hD14]; exact hI.one⟩
                  · have e52 : ρ (.tmp 52) = V 4 := hd 4 52; have e57 : ρ (.tmp 57) = V 9 := hd 9 57; have hD4 : D 4 = true := hT 1 4; have hD9 : D 9 = true := hT 1 9; have hD10 : D 10 = false := hDi; have hD14 : D 14 = false := hF 1 14; clear hT hF
                    rw [hD4, hD9, hD10, hD14] at hI
                    obtain ⟨j, hv, hj0, hcj⟩ := hI.b9 rfl rfl
                    rw [hv] at e57
                    obtain ⟨v', w'', hrun, hrow, hgr, hat⟩ := run_append_items wi _ wc.heap.size (V 4) (out.take p) [x] (some ⟨j, 0, none⟩) 1 (by rw [HPL.out]; exact hI.r4 rfl rfl) (one_item hcj) (fun e => by cases e) (by rw [HPL.out]; have := HSM.out; simp only [List.length_singleton]; omega) hI.low.size
                    exact Reg.Gives.value (v := v') (w' := w'') (Reg.exec_append rfl e52 e57 hrun) ⟨fun x h => (by cases h), by show rjSt p out x (D 0) (D 4) (D 9) true (D 14) (D 15) (V 0) (V 4) (V 9) v' (V 14) (V 15) wc w''; rw [hD4, hD9, hD14]; exact hI.app2 hrow hgr⟩
                  · have e5 : ρ (.tmp 5) = .slice (some ⟨g, 0, none⟩) M co := hs 5; clear hT hF hk
                    exact Reg.Gives.value (v := .slice (some ⟨g, 0, none⟩) M co) (w' := wi) (by go_simp) ⟨fun x h => Option.some.inj h, hI⟩
                  · have e8 : ρ (.tmp 8) = .int .i64 (p : Int) := hs 8; clear hT hF hk
                    exact Reg.Gives.value (v := .int .i64 (p : Int)) (w' := wi) (by go_simp) ⟨fun x h => Option.some.inj h, hI⟩
                  · have e59 : ρ (.tmp 59) = .slice (some ⟨g, 0, none⟩) M co := (hd 11 59).trans (hk 11 _ rfl); have e60 : ρ (.tmp 60) = .int .i64 (p : Int) := (hd 12 60).trans (hk 12 _ rfl); clear hT hF hk; have hx := HPM.out; have hx2 := HMC.out; have hx3 := HPC.out
                    have hx4 : ¬ co < M := by omega
                    have hx5 : ¬ M < p := by omega
                    have hx6 : ¬ co = p := fun e => hx3 e.symm
                    exact Reg.Gives.value (v := .slice (some ⟨g, p * 5, none⟩) (M - p) (co - p)) (w' := wi) (by go_simp) ⟨fun x h => Option.some.inj h, hI⟩
                  · have e58 : ρ (.tmp 58) = V 10 := hd 10 58; have e61 : ρ (.tmp 61) = .slice (some ⟨g, p * 5, none⟩) (M - p) (co - p) := (hd 13 61).trans (hk 13 _ rfl); have hD4 : D 4 = true := hT 2 4; have hD10 : D 10 = true := hT 1 10; have hD14 : D 14 = false := hDi; have hD15 : D 15 = false := hF 1 15; clear hT hF
                    rw [hD10, hD14] at hI
                    obtain ⟨v', w'', hrun, hrow, hgr, hat⟩ := run_append_items wi _ wc.heap.size (V 10) (out.take p ++ [x]) (out.drop p) (some ⟨g, p * 5, none⟩) (co - p) (hI.r10 rfl rfl) (HDI.out wi hI.low) (fun e => by cases e) (by have := HSM.out; simp only [List.length_append, List.length_take, List.length_drop, List.length_singleton]; omega) hI.low.size
                    rw [HDL.out] at hrun
                    exact Reg.Gives.value (v := v') (w' := w'') (Reg.exec_append rfl e58 e61 hrun) ⟨fun x h => (by cases h), by show rjSt p out x (D 0) (D 4) (D 9) (D 10) true (D 15) (V 0) (V 4) (V 9) (V 10) v' (V 15) wc w''; rw [hD10]; exact hI.app3 hrow hgr hD15 hD4⟩
                  · have e62 : ρ (.tmp 62) = V 14 := hd 14 62; clear hT hF
                    exact Reg.Gives.value (v := V 14) (w' := wi) (by go_simp) ⟨fun x h => (by cases h), by show rjSt p out x (D 0) (D 4) (D 9) (D 10) (D 14) true (V 0) (V 4) (V 9) (V 10) (V 14) (V 14) wc wi; exact hI.last⟩
                · intro V w1 hk hI
                  simp only [Reg.putsO, List.foldl_cons, List.foldl_nil, Act.put, List.setIfInBounds_toArray, List.set_cons_succ, List.set_cons_zero]
                  replace hI : rjSt p out x true true true true true true (V 0) (V 4) (V 9) (V 10) (V 14) (V 15) wc w1 := hI
                  clear hk
                  have hrow := hI.r14 rfl
                  rw [← hI.lst rfl] at hrow
                  have HROW2 := Lib.hid hrow
                  have HLOW := Lib.hid hI.low
                  clear hI hrow
                  obtain ⟨g2, co2, hv2⟩ := own_some HROW2.out (by simp only [List.length_append, List.length_singleton]; omega)
                  rw [hv2] at HROW2 ⊢
                  clear hv2
                  go_wp2_with fail
                  go_roundw
                  case rel => exact ⟨k + 1, out.take p ++ [x] ++ out.drop p, hlt, by go_num, ⟨_, _, rfl⟩, Lib.hid ⟨HJN.out, by have := HKK.out; have := HPL.out; have := HDL.out; have := HML.out; simp only [List.length_append, List.length_singleton]; omega, rowUp HBW.out HROW2.out, row_only HAL.out (Only.of_below HLOW.out) (fun _ _ hh => hh), HBW.out.trans (HLOW.out.mono HBW.out.size)⟩⟩
                  case measure => simp [intOf]; omega
    · have hkn : k = n2 := by omega
      have HJ2 : Hid (IsJoin all out ∧ wr.ownsRow w.heap.size 60 5 (.slice (some ⟨g, 0, none⟩) out.length co) out.length (flat out)) := Lib.hid ⟨by have := HJ.out.1; rw [List.take_of_length_le (by have := HT.out; omega)] at this; exact this, HJ.out.2.2.1⟩
      have HLL := Lib.hid HJ.out.2.1
      clear HJ
      go_wp2
      go_returns
      exact ⟨⟨_, out, rfl, HJ2.out.1, by have := HLL.out; have := HTT.out; have := HT.out; omega, HJ2.out.2⟩, HBO.out⟩
end Go.Proofs.Ytjeogeablbkhgaa.Item
