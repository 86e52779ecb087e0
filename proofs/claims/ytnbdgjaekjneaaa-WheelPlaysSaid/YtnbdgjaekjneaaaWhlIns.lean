/-
  Layer 12: the library's Insert at timers: its walk. Conditions: none.
-/
import Derived.Test.YtnbdgjaekjneaaaWhlRef
import Derived.Test.YtnbdgjaekjneaaaCopyK
namespace Go.Proofs.Ytnbdgjaekjneaaa.Whl
set_option maxRecDepth 100000
open Go.RowKit Go.Deep Go.Proofs.Ytnbdgjaekjneaaa.Mem

theorem el_ctm : Elem 61 67 (.agg #[.int .i64 0, .int .i64 0, .int .i64 0, .int .i64 0, .int .i64 0, .int .i64 0, .int .i64 0]) 7 56 := ⟨Try.underlying61, by kernel_rfl, rfl, by decide, by decide⟩
set_option maxHeartbeats 2000000 in
/-- There is room, and the place is not the end. -/
theorem ins_tm_room (g c i : Nat) (vs : List (List Value)) (x : List Value) (gx : Nat) (base : Nat) (w : World) (hf : Fit 7 vs) (hx : x.length = 7) (hx1 : ∀ u ∈ x, u.oneCell' = true) (hi : i < vs.length)
    (ho : w.ownsRow base 67 7 (.slice (some ⟨g, 0, none⟩) vs.length c) vs.length vs.flatten) (hc : vs.length + 1 ≤ c) (hgx0 : w.heap[gx]? = some (.cells x.toArray 67 (0, 0))) (hne : gx ≠ g) (hl : vs.length ≤ 100000) :
    Calls Try.prog 25 #[.slice (some ⟨g, 0, none⟩) vs.length c, .int .i64 (i : Int), .slice (some ⟨gx, 0, none⟩) 1 1] w fun e w' =>
      ∃ v', e = .returned v' ∧ w'.ownsRow base 67 7 v' (vs.take i ++ x :: vs.drop i).length (vs.take i ++ x :: vs.drop i).flatten ∧ Only (fun k => k = g) w w' ∧ v'.ownBlock = some g := by
  have hgx : Cells w gx 67 x := ⟨_, 0, 0, hgx0, fun j u hu => by simpa using hu, fun j _ hj => by omega⟩
  obtain ⟨cur, hgb, hg, hcm, hcs, hct⟩ : ∃ cur, base ≤ g ∧ w.heap[g]? = some (.cells cur 67 (0, 0)) ∧ c ≤ maxLen ∧ cur.size = c * 7 ∧ cur.toList.take (vs.length * 7) = vs.flatten := by
    rcases ho.2 with ⟨h1, _⟩ | ⟨g', cap, cur, h1, h2, h3, h4, h5, h6, h7⟩
    · cases h1
    · simp only [Value.slice.injEq, Option.some.injEq, Addr.mk.injEq] at h1
      obtain ⟨⟨rfl, _, _⟩, _, rfl⟩ := h1
      exact ⟨cur, h2, h3, h5, h6, h7⟩
  obtain ⟨n, hn⟩ : ∃ n, vs.length = n := ⟨_, rfl⟩
  have hd := flatten_len (vs := vs.drop i) (sz := 7) fun v hv => hf.len v (List.mem_of_mem_drop hv)
  rw [List.length_drop] at hd
  have hct' : cur.toList.take (i * 7) = (vs.take i).flatten := by
    rw [← flat_take hf.len i (Nat.le_of_lt hi), ← hct, List.take_take, Nat.min_eq_left (Nat.mul_le_mul_right _ (Nat.le_of_lt hi))]
  have hcl : cur.toList.length = c * 7 := by simpa using hcs
  obtain ⟨hS1, hS2⟩ := ins_shift (cur := cur.toList) hf.len hx hi (by rw [hcl]; exact Nat.mul_le_mul_right _ hc) hct'
  have hsrc : ∀ j v, (vs.drop i).flatten[j]? = some v → w.cell? ⟨g, i * 7 + j, none⟩ = some v := fun j v hj => by
    rw [← flat_drop hf.len i (Nat.le_of_lt hi), List.getElem?_drop, ← hct, List.getElem?_take] at hj
    split at hj
    · rw [cell_of_row _ _ _ _ _ _ hg]; simpa using hj
    · cases hj
  have h1 : ∀ dc sc ty W, Only (fun _ => False) w W → ∃ v' w', (Builtin.copy_ #[61, 61] ty #[.slice (some ⟨g, (i + 1) * 7, none⟩) (n + 1 - (i + 1)) dc, .slice (some ⟨g, i * 7, none⟩) (n + 1 - i) sc]).run Try.prog W = .ok v' w' ∧
      w'.heap[g]? = some (.cells (over cur.toList ((i + 1) * 7) (vs.drop i).flatten).toArray 67 (0, 0)) ∧ Only (fun k => k = g) w w' := fun dc sc ty W hW => by
    have hgl := lt_of_block hg
    obtain ⟨v', w', a1, a2, a3⟩ := run_copy_k (P := Try.prog) W 61 61 ty 67 g ((i + 1) * 7) (n + 1 - (i + 1)) dc ⟨g, i * 7, none⟩ (n + 1 - i) sc 7 cur 67 (vs.drop i).flatten Try.underlying61 (by kernel_rfl) ((hW.block g hgl (fun e => e)).trans hg)
      (by rw [hd, hn]; congr 1; simp only [Nat.min_def]; split <;> omega)
      (fun j v hj => by
        rw [Addr.add_lit, World.cell?_of_block (w := w) (hW.block g hgl (fun e => e))]
        exact hsrc j v hj)
      (by rw [hd, hcs, hn]; have : (i + 1) * 7 + (n - i) * 7 = (n + 1) * 7 := by rw [← Nat.add_mul]; congr 1; omega
          rw [this]; exact Nat.mul_le_mul_right _ (by omega))
      (fun v hv => flatten_one ⟨fun u hu => hf.len u (List.mem_of_mem_drop hu), fun u hu => hf.one u (List.mem_of_mem_drop hu)⟩ v hv)
    exact ⟨v', w', a1, a2, (hW.mono fun _ _ e => e.elim).trans a3 fun _ _ e => e⟩
  have h2 : ∀ ty dc W, W.heap[g]? = some (.cells (over cur.toList ((i + 1) * 7) (vs.drop i).flatten).toArray 67 (0, 0)) → Only (fun k => k = g) w W → ∃ v' w', (Builtin.copy_ #[61, 61] ty #[.slice (some ⟨g, i * 7, none⟩) (n + 1 - i) dc, .slice (some ⟨gx, 0, none⟩) 1 1]).run Try.prog W = .ok v' w' ∧
      w'.ownsRow base 67 7 (.slice (some ⟨g, 0, none⟩) (n + 1) c) (vs.take i ++ x :: vs.drop i).length (vs.take i ++ x :: vs.drop i).flatten ∧ Only (fun k => k = g) w w' := fun ty dc W hg1 hW => by
    have hgx' := cells_only hgx hW (fun e => hne e)
    obtain ⟨v', w', a1, a2, a3⟩ := run_copy_k (P := Try.prog) W 61 61 ty 67 g (i * 7) (n + 1 - i) dc ⟨gx, 0, none⟩ 1 1 7 _ 67 x Try.underlying61 (by kernel_rfl) hg1
      (by rw [hx]; simp only [Nat.min_def]; split <;> omega)
      (fun j v hj => by rw [Addr.add_lit, Nat.zero_add]; exact hgx'.cell hj)
      (by rw [hx, List.size_toArray, over_len (by rw [hd, hcl]; have : (i + 1) * 7 + (vs.length - i) * 7 = (vs.length + 1) * 7 := by rw [← Nat.add_mul]; congr 1; omega
                                                  rw [this]; exact Nat.mul_le_mul_right _ hc), hcl, ← Nat.succ_mul]; exact Nat.mul_le_mul_right _ (by omega)) hx1
    have hle : (vs.take i ++ x :: vs.drop i).length = n + 1 := by simp; omega
    refine ⟨v', w', a1, ?_, hW.trans a3 fun _ _ e => e⟩
    rw [hle]
    refine ⟨?_, Or.inr ⟨g, c, _, rfl, hgb, a2, by omega, hcm, ?_, ?_⟩⟩
    · rw [← hS1, List.length_take, hS2, hcl, hn]
      exact Nat.min_eq_left (Nat.mul_le_mul_right _ (by omega))
    · show (over _ _ _).toArray.size = _
      rw [List.size_toArray]
      exact hS2.trans hcl
    · show (over _ _ _).take _ = _
      rw [← hn]
      exact hS1
  have hov : ∀ lb cb, (callFunc 31 #[.slice (some ⟨gx, 0, none⟩) 1 1, .slice (some ⟨g, (i + 1) * 7, none⟩) lb cb]).run Try.prog w = .ok (.value (.bool false)) w := fun lb cb => by
    rw [run_callFunc_extern Try.func31 (by kernel_rfl) (by kernel_rfl) (by kernel_rfl) (e := Extern.SlicesOverlaps.overlaps #[61, 61] #[4]) (by kernel_rfl),
      Lib.run_overlaps_apart w 61 4 67 Try.underlying61 7 (fun w => by go_simp) ⟨gx, 0, none⟩ ⟨g, (i + 1) * 7, none⟩ 1 1 lb cb hne 67 67 x.length cur.size (by simp [World.shape?, hgx0]) (by simp [World.shape?, hg]) (by omega) (hgx.frozen (by omega)) (by simp [World.frozen?, hgx0])]
    rfl
  obtain ⟨c1, w1, r1, g1, o1⟩ := h1 (c - (i + 1)) (c - i) 3 w.drew (Only.of_below (Below.refl _ _).drew)
  obtain ⟨c2, w2, r2, row2, o2⟩ := h2 3 (c - i) w1 g1 o1
  have HR1 := Lib.hid r1
  have HR2 := Lib.hid r2
  have HROW := Lib.hid row2
  have HO := Lib.hid o2
  have HOV := Lib.hid hov
  clear h1 h2 hov hS1 hS2 hsrc hct' hct hcs hcl hd hgx hgx0 hx1 hf hgb hg ho r1 g1 o1 r2 row2 o2
  rw [hn] at hc hi hl ⊢
  have HN := Lib.hid hn
  clear hn
  have hz1 : ¬ ((1 : Int) = 0) := by omega
  have hz2 : ¬ ((i : Int) = (n : Int)) := by omega
  have hc63 : c ≤ 9223372036854775807 := by unfold maxLen at hcm; omega
  go_enter Try.func25, Try.ntmps25
  go_wp2_with (simp only [HOV.out])
  have mixed : Try.prog.follows .mixedOrders = true := by kernel_rfl
  have hw1 : IntKind.i64.wrap ((i : Int) + 1) = (i : Int) + 1 := by rw [IntKind.wrap_i64]; omega
  have hb1 : (0 : Int) ≤ (i : Int) + 1 := by omega
  have hin : i ≤ n := by omega
  have htn : ((i : Int) + 1).toNat = i + 1 := by omega
  have hb2 : ¬ (c = i + 1) := by omega
  have hb3 : (i : Int) ≤ (n : Int) + 1 := by omega
  have hb5 : (i : Int) ≤ (n : Int) := by omega
  have hb4 : ¬ (c = i) := by omega
  go_region_law_o (refine step_copy_runI rfl _ _ 61 61 rfl _ _ (by simp [Act.eval, Act.put]) (by simp [Act.eval, Act.put]) HR1.out ?_)
  go_wp2_with (simp only [HR2.out])
  go_returns
  exact ⟨_, rfl, HROW.out, HO.out, rfl⟩

set_option maxHeartbeats 2000000 in
/-- There is no room, and the place is not the end. -/
theorem ins_tm_grow (g c i : Nat) (vs : List (List Value)) (x : List Value) (gx : Nat) (base : Nat) (w : World) (hbw : base ≤ w.heap.size) (hf : Fit 7 vs) (hx : x.length = 7) (hx1 : ∀ u ∈ x, u.oneCell' = true) (hi : i < vs.length)
    (ho : w.ownsRow base 67 7 (.slice (some ⟨g, 0, none⟩) vs.length c) vs.length vs.flatten) (hc : c < vs.length + 1) (hgx0 : w.heap[gx]? = some (.cells x.toArray 67 (0, 0))) (hl : vs.length ≤ 100000) :
    Calls Try.prog 25 #[.slice (some ⟨g, 0, none⟩) vs.length c, .int .i64 (i : Int), .slice (some ⟨gx, 0, none⟩) 1 1] w fun e w' =>
      ∃ v', e = .returned v' ∧ w'.ownsRow base 67 7 v' (vs.take i ++ x :: vs.drop i).length (vs.take i ++ x :: vs.drop i).flatten ∧ Below w.heap.size w w' ∧ v'.ownBlock = some w.heap.size := by
  have hgx : Cells w gx 67 x := ⟨_, 0, 0, hgx0, fun j u hu => by simpa using hu, fun j _ hj => by omega⟩
  obtain ⟨cur, hgb, hg, hcm, hnc, hcs, hct⟩ : ∃ cur, base ≤ g ∧ w.heap[g]? = some (.cells cur 67 (0, 0)) ∧ c ≤ maxLen ∧ vs.length ≤ c ∧ cur.size = c * 7 ∧ cur.toList.take (vs.length * 7) = vs.flatten := by
    rcases ho.2 with ⟨h1, _⟩ | ⟨g', cap, cur, h1, h2, h3, h4, h5, h6, h7⟩
    · cases h1
    · simp only [Value.slice.injEq, Option.some.injEq, Addr.mk.injEq] at h1
      obtain ⟨⟨rfl, _, _⟩, _, rfl⟩ := h1
      exact ⟨cur, h2, h3, h5, h4, h6, h7⟩
  obtain ⟨n, hn⟩ : ∃ n, vs.length = n := ⟨_, rfl⟩
  have hd := flatten_len (vs := vs.drop i) (sz := 7) fun v hv => hf.len v (List.mem_of_mem_drop hv)
  rw [List.length_drop] at hd
  have htl := flatten_len (vs := vs.take i) (sz := 7) fun v hv => hf.len v (List.mem_of_mem_take hv)
  rw [List.length_take, Nat.min_eq_left (Nat.le_of_lt hi)] at htl
  have hgl := lt_of_block hg
  have hat : ∀ j v, vs.flatten[j]? = some v → w.cell? ⟨g, j, none⟩ = some v := fun j v hj => by
    rw [← hct, List.getElem?_take] at hj
    split at hj
    · rw [cell_of_row _ _ _ _ _ _ hg]; simpa using hj
    · cases hj
  have hsrc : ∀ j v, (vs.drop i).flatten[j]? = some v → w.cell? ⟨g, i * 7 + j, none⟩ = some v := fun j v hj => by
    rw [← flat_drop hf.len i (Nat.le_of_lt hi), List.getElem?_drop] at hj
    exact hat _ v hj
  obtain ⟨i0, hi0, hz0, hz1, hz2⟩ := info_parts (el_ctm).info
  have hold : (Builtin.firstCells i0.size i (.slice (some ⟨g, 0, none⟩) i c)).run Try.prog w.drew = .ok (vs.take i).flatten.toArray w.drew := by
    rw [hz1]
    exact run_firstCells_some w.drew 7 i ⟨g, 0, none⟩ i c (vs.take i).flatten htl (fun j v hj => by
      rw [Addr.add_lit, Nat.zero_add]
      rw [← flat_take hf.len i (Nat.le_of_lt hi), List.getElem?_take] at hj
      split at hj
      · exact hat j v hj
      · cases hj)
  have hroom : c < n + 1 := by omega
  have hik : i + (n + 1 - i) = n + 1 := by omega
  have hkk : (n : Int) + 1 - (i : Int) = ((n + 1 - i : Nat) : Int) := by omega
  obtain ⟨G, hG⟩ : ∃ G, G = grownCap w (n + 1) c 67 := ⟨_, rfl⟩
  have hG1 : n + 1 ≤ G := by rw [hG]; exact grownCap_ge w _ _ _
  have hG2 : G ≤ maxLen := by rw [hG]; exact grownCap_le_maxLen w (n + 1) c 67 (by unfold maxLen; omega)
  have hrz : ∀ ty, (Builtin.append_ #[61, 3] ty #[.slice (some ⟨g, 0, none⟩) i c, .int .i64 ((n : Int) + 1 - (i : Int))]).run Try.prog w =
      .ok (.slice (some ⟨w.heap.size, 0, none⟩) (n + 1) G) (w.drew.alloc (.cells ((vs.take i).flatten.toArray ++ Builtin.zeroCells (.agg #[.int .i64 0, .int .i64 0, .int .i64 0, .int .i64 0, .int .i64 0, .int .i64 0, .int .i64 0] : Value).cells (n + 1 - i) ++ Builtin.zeroCells (.agg #[.int .i64 0, .int .i64 0, .int .i64 0, .int .i64 0, .int .i64 0, .int .i64 0, .int .i64 0] : Value).cells (G - (n + 1))) 67)) := fun ty => by
    have h := Lib.run_append_grow_zeros (P := Try.prog) w 61 3 ty 67 i0 _ .i64 .i64 Try.underlying61 Try.underlying3 hi0 hz0 (some ⟨g, 0, none⟩) i c (vs.take i).flatten hold (n + 1 - i) (by omega) (by omega) (by omega) (by omega) (by rw [hz2]; omega) (by rw [hz2, hik]; exact growslice_fits hroom (by omega))
    rw [hik, ← hG] at h
    rw [hkk]
    exact h
  obtain ⟨ROW, hROW⟩ : ∃ ROW : Array Value, ROW = (vs.take i).flatten.toArray ++ Builtin.zeroCells (.agg #[.int .i64 0, .int .i64 0, .int .i64 0, .int .i64 0, .int .i64 0, .int .i64 0, .int .i64 0] : Value).cells (n + 1 - i) ++ Builtin.zeroCells (.agg #[.int .i64 0, .int .i64 0, .int .i64 0, .int .i64 0, .int .i64 0, .int .i64 0, .int .i64 0] : Value).cells (G - (n + 1)) := ⟨_, rfl⟩
  have hRs : ROW.size = G * 7 := by
    rw [hROW, Array.size_append, Array.size_append, size_zeroCells, size_zeroCells, List.size_toArray, htl]
    show i * 7 + (n + 1 - i) * 7 + (G - (n + 1)) * 7 = _
    rw [← Nat.add_mul, ← Nat.add_mul]
    congr 1
    omega
  have hRt : ROW.toList.take (i * 7) = (vs.take i).flatten := by
    rw [hROW]
    simp only [Array.toList_append, List.append_assoc]
    rw [List.take_append_of_le_length (by omega), List.take_of_length_le (by omega)]
  rw [← hROW] at hrz
  clear hROW hG hold
  obtain ⟨w1, hw1⟩ : ∃ w1, w1 = w.drew.alloc (.cells ROW 67) := ⟨_, rfl⟩
  rw [← hw1] at hrz
  have hB1 : Below w.heap.size w w1 := by rw [hw1]; exact (Below.refl _ _).drew.alloc (Nat.le_refl _) _
  have hg1 : w1.heap[w.heap.size]? = some (.cells ROW 67 (0, 0)) := by rw [hw1]; show (w.heap.push _)[w.heap.size]? = _; exact Array.getElem?_push_size
  clear hw1
  have hxl := hgx.lt
  have hRl : ROW.toList.length = G * 7 := by simpa using hRs
  obtain ⟨c2, w2, r2, g2, o2⟩ := run_copy_k (P := Try.prog) w1 61 61 3 67 w.heap.size (i * 7) (n + 1 - i) (G - i) ⟨gx, 0, none⟩ 1 1 7 _ 67 x Try.underlying61 (by kernel_rfl) hg1
    (by rw [hx]; simp only [Nat.min_def]; split <;> omega) (fun j v hj => by rw [Addr.add_lit, Nat.zero_add]; exact (hgx.later hB1).cell hj)
    (by rw [hx, hRs, ← Nat.succ_mul]; exact Nat.mul_le_mul_right _ (by omega)) hx1
  have hB2 : Below w.heap.size w w2 := hB1.trans (o2.below hB1.size fun k e => by rw [e]; exact Nat.le_refl _)
  have hLx : (over ROW.toList (i * 7) x).length = G * 7 := by rw [over_len (by rw [hx, hRl, ← Nat.succ_mul]; exact Nat.mul_le_mul_right _ (by omega)), hRl]
  obtain ⟨c3, w3, r3, g3, o3⟩ := run_copy_k (P := Try.prog) w2.drew 61 61 3 67 w.heap.size ((i + 1) * 7) (n + 1 - (i + 1)) (G - (i + 1)) ⟨g, i * 7, none⟩ (n - i) (c - i) 7 _ 67 (vs.drop i).flatten Try.underlying61 (by kernel_rfl) g2
    (by rw [hd, hn]; congr 1; simp only [Nat.min_def]; split <;> omega)
    (fun j v hj => by
      rw [Addr.add_lit, World.cell?_of_block (w := w) (hB2.block g hgl)]
      exact hsrc j v hj)
    (by show _ ≤ (over _ _ _).toArray.size
        rw [List.size_toArray, hLx, hd, hn]
        have : (i + 1) * 7 + (n - i) * 7 = (n + 1) * 7 := by rw [← Nat.add_mul]; congr 1; omega
        rw [this]; exact Nat.mul_le_mul_right _ hG1)
    (fun v hv => flatten_one ⟨fun u hu => hf.len u (List.mem_of_mem_drop hu), fun u hu => hf.one u (List.mem_of_mem_drop hu)⟩ v hv)
  have hB3 : Below w.heap.size w w3 := hB2.trans ((Below.refl _ _).drew.trans (o3.below hB2.size fun k e => by rw [e]; exact Nat.le_refl _))
  obtain ⟨hS1, hS2⟩ := ins_grow (cur := ROW.toList) hf.len hx hi (by rw [hRl, hn]; exact Nat.mul_le_mul_right _ hG1) hRt
  have hle : (vs.take i ++ x :: vs.drop i).length = n + 1 := by simp; omega
  have hrow : w3.ownsRow base 67 7 (.slice (some ⟨w.heap.size, 0, none⟩) (n + 1) G) (vs.take i ++ x :: vs.drop i).length (vs.take i ++ x :: vs.drop i).flatten := by
    rw [hle]
    refine ⟨?_, Or.inr ⟨w.heap.size, G, _, rfl, hbw, g3, hG1, hG2, ?_, ?_⟩⟩
    · rw [← hS1, List.length_take, hS2, hRl, hn]
      exact Nat.min_eq_left (Nat.mul_le_mul_right _ hG1)
    · show (over (over _ _ _) _ _).toArray.size = _
      rw [List.size_toArray]
      exact hS2.trans hRl
    · show (over (over _ _ _) _ _).take _ = _
      rw [← hn]
      exact hS1
  have HRZ := Lib.hid hrz
  have HR2 := Lib.hid r2
  have HR3 := Lib.hid r3
  have HROW := Lib.hid hrow
  have HB := Lib.hid hB3
  have HN := Lib.hid hn
  clear hS1 hS2 hrow hB3 hB2 hB1 hLx hRl hRt hRs hrz r2 r3 g2 g3 o2 o3 hg1 hsrc hat htl hd hi0 hz0 hz1 hz2 hct hcs hgx hgx0 hx1 hf hgb hg ho hgl hxl hkk hik
  rw [hn] at hc hnc hi hl ⊢
  clear hn
  have hz1 : ¬ ((1 : Int) = 0) := by omega
  have hz2 : ¬ ((i : Int) = (n : Int)) := by omega
  have hz3 : (c : Int) < (n : Int) + 1 := by omega
  have hc63 : c ≤ 9223372036854775807 := by unfold maxLen at hcm; omega
  have hG63 : G ≤ 9223372036854775807 := by unfold maxLen at hG2; omega
  have mixed : Try.prog.follows .mixedOrders = true := by kernel_rfl
  have hw1 : IntKind.i64.wrap ((i : Int) + 1) = (i : Int) + 1 := by rw [IntKind.wrap_i64]; omega
  have hb1 : (0 : Int) ≤ (i : Int) + 1 := by omega
  have hin : i ≤ n := by omega
  have htn : ((i : Int) + 1).toNat = i + 1 := by omega
  have hb2 : ¬ (G = i + 1) := by omega
  have hb3 : (i : Int) ≤ (n : Int) + 1 := by omega
  have hb5 : (i : Int) ≤ (n : Int) := by omega
  have hb4 : ¬ (c = i) := by omega
  have hb6 : ¬ (G = i) := by omega
  go_enter Try.func25, Try.ntmps25
  go_wp2_with (first
    | (at_builtin; refine Lib.wpList_append_run _ rfl _ _ _ _ rfl _ _ rfl rfl _ _ (HRZ.out _) ?_)
    | simp only [HR2.out])
  go_region_law_o (refine step_copy_runI rfl _ _ 61 61 rfl _ _ (by simp [Act.eval, Act.put]) (by simp [Act.eval, Act.put]) HR3.out ?_)
  go_wp2
  go_returns
  exact ⟨_, rfl, HROW.out, HB.out, rfl⟩

/-- At whatever place. -/
theorem ins_tm (v : Value) (i : Nat) (vs : List (List Value)) (x : List Value) (gx : Nat) (base : Nat) (w : World) (hbw : base ≤ w.heap.size) (hf : Fit 7 vs) (hx : x.length = 7) (hx1 : ∀ u ∈ x, u.oneCell' = true) (hi : i ≤ vs.length)
    (ho : w.ownsRow base 67 7 v vs.length vs.flatten) (hgx0 : w.heap[gx]? = some (.cells x.toArray 67 (0, 0))) (hne : v.ownBlock ≠ some gx) (hl : vs.length ≤ 100000) :
    Calls Try.prog 25 #[v, .int .i64 (i : Int), .slice (some ⟨gx, 0, none⟩) 1 1] w fun e w' =>
      ∃ v', e = .returned v' ∧ w'.ownsRow base 67 7 v' (vs.take i ++ x :: vs.drop i).length (vs.take i ++ x :: vs.drop i).flatten ∧ Only (fun k => some k = v.ownBlock) w w' ∧ (v'.ownBlock = v.ownBlock ∨ v'.ownBlock = some w.heap.size) := by
  by_cases he : i = vs.length
  · have hgx : Cells w gx 67 x := ⟨_, 0, 0, hgx0, fun j u hu => by simpa using hu, fun j _ hj => by omega⟩
    have hfx : Fit 7 [x] := ⟨fun u hu => by rw [List.mem_singleton.1 hu]; exact hx, fun u hu => by rw [List.mem_singleton.1 hu]; exact hx1⟩
    obtain ⟨v', w', hrun, hrow, hgr, hnew⟩ := run_append_rows el_ctm w 61 base v vs [x] (some ⟨gx, 0, none⟩) 1 hf hfx ho (cells_sl (by simpa using hgx) hfx.len) (fun e => by cases e) (by simp only [List.length_singleton]; omega) hbw
    have e1 : vs.take i ++ x :: vs.drop i = vs ++ [x] := by rw [he]; simp
    rw [e1]
    obtain ⟨L, hL⟩ : ∃ L, vs ++ [x] = L := ⟨_, rfl⟩
    rw [hL] at hrow ⊢
    clear hL
    obtain ⟨n, hn⟩ : ∃ n, vs.length = n := ⟨_, rfl⟩
    obtain ⟨A, cA, hv, _, _⟩ := own_sl ho hf.len
    rw [hn] at he hv hi hl
    have HRUN : Hid ((Builtin.append_ #[61, 61] 61 #[.slice A n cA, .slice (some ⟨gx, 0, none⟩) 1 1]).run Try.prog w = .ok v' w') := Lib.hid (by rw [← hv]; exact hrun)
    have HROW := Lib.hid hrow
    have HO : Hid (Only (fun k => some k = v.ownBlock) w w') := Lib.hid (Only.of_grown hgr)
    have HNEW := Lib.hid hnew
    obtain ⟨o, hob⟩ : ∃ o, v.ownBlock = o := ⟨_, rfl⟩
    rw [hob] at HO HNEW ⊢
    clear hob hne hgx0 ho hf hx hx1 hfx hgx hrun hrow hgr hnew
    subst hv
    subst he
    clear e1 hn
    go_enter Try.func25, Try.ntmps25
    go_wp2_with (at_builtin
                 refine Lib.wpList_append_run w rfl _ _ 61 61 rfl _ _ rfl rfl _ _ HRUN.out ?_)
    all_goals
      go_returns
      exact ⟨_, rfl, HROW.out, HO.out, HNEW.out⟩
  · have hi' : i < vs.length := by omega
    rcases ho.2 with ⟨_, h2⟩ | ⟨g, cap, cur, h1, h2, h3, h4, h5, h6, h7⟩
    · omega
    · subst h1
      by_cases hr : vs.length + 1 ≤ cap
      · refine (ins_tm_room g cap i vs x gx base w hf hx hx1 hi' ho hr hgx0 (fun e => hne (by rw [e]; rfl)) hl).mono ?_
        rintro e w' ⟨v', rfl, k1, k2, k3⟩
        exact ⟨v', rfl, k1, k2.mono fun k _ e => by rw [e]; rfl, Or.inl k3⟩
      · refine (ins_tm_grow g cap i vs x gx base w hbw hf hx hx1 hi' ho (by omega) hgx0 hl).mono ?_
        rintro e w' ⟨v', rfl, k1, k2, k3⟩
        exact ⟨v', rfl, k1, Only.of_below k2, Or.inr k3⟩
end Go.Proofs.Ytnbdgjaekjneaaa.Whl
