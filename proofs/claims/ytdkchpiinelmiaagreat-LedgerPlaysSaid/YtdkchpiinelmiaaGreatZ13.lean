/- Part 13 of the proof. Conditions: none. -/
import Derived.Test.YtdkchpiinelmiaaGreatZ12
namespace Go.Proofs.YtdkchpiinelmiaaGreat.Led
set_option maxRecDepth 100000
open Go.RowKit Go.Deep Mem fN Rec
set_option maxHeartbeats 2000000 in
theorem uI (g c i : Nat) (vs : List (List Value)) (x : List Value) (gx : Nat) (base : Nat) (w : World) (hf : Fit 5 vs) (hx : x.length = 5) (hx1 : ∀ u ∈ x, u.oneCell' = true) (hi : i < vs.length)
    (ho : w.ownsRow base 78 5 (.slice (some ⟨g, 0, none⟩) vs.length c) vs.length vs.flatten) (hc : vs.length + 1 <= c) (iy : w.heap[gx]? = some (.cells x.toArray 78 (0, 0))) (hne : gx ≠ g) (hl : vs.length <= 100000) :
    Calls Tryz.prog 111 #[.slice (some ⟨g, 0, none⟩) vs.length c, iv (i : Int), .slice (some ⟨gx, 0, none⟩) 1 1] w fun e w' =>
      ∃ v', e = .returned v' /\ w'.ownsRow base 78 5 v' (vs.take i ++ x :: vs.drop i).length (vs.take i ++ x :: vs.drop i).flatten /\ Only (fun k => k = g) w w' /\ v'.ownBlock = some g := by
  have hgx : Cells w gx 78 x := ⟨_, 0, 0, iy, fun j u hu => by simpa using hu, fun j _ hj => by omega⟩; obtain ⟨cur, hgb, hg, hcm, hcs, hct⟩ : ∃ cur, base <= g /\ w.heap[g]? = some (.cells cur 78 (0, 0)) /\ c <= maxLen /\ cur.size = c * 5 /\ cur.toList.take (vs.length * 5) = vs.flatten := by
    rcases ho.2 with ⟨h1, _⟩ | ⟨g', cap, cur, h1, h2, h3, h4, h5, h6, h7⟩
    · cases h1
    simp only [Value.slice.injEq, Option.some.injEq, Addr.mk.injEq] at h1
    obtain ⟨⟨rfl, _, _⟩, _, rfl⟩ := h1; exact ⟨cur, h2, h3, h5, h6, h7⟩
  obtain ⟨n, hn⟩ := ah vs.length; have hd := aW (vs := vs.drop i) (sz := 5) fun v hv => hf.len v (List.mem_of_mem_drop hv)
  rw [List.length_drop] at hd; have Gl : cur.toList.take (i * 5) = (vs.take i).flatten := by
    rw [<- jJ hf.len i (Nat.le_of_lt hi), <- hct, List.take_take, Nat.min_eq_left (Nat.mul_le_mul_right _ (Nat.le_of_lt hi))]
  have hcl : cur.toList.length = c * 5 := by simpa using hcs
  obtain ⟨hS1, zx⟩ := u6 (cur := cur.toList) hf.len hx hi (by rw [hcl]; exact Nat.mul_le_mul_right _ hc) Gl; have hsrc : ∀ j v, (vs.drop i).flatten[j]? = some v -> w.cell? ⟨g, i * 5 + j, none⟩ = some v := fun j v hj => by
    rw [<- cN hf.len i (Nat.le_of_lt hi), List.getElem?_drop, <- hct, List.getElem?_take] at hj
    split at hj
    · rw [cell_of_row _ _ _ _ _ _ hg]; simpa using hj
    cases hj
  have h1 : ∀ dc sc ty W, Only (fun _ => False) w W -> ∃ v' w', (Builtin.copy_ #[28, 28] ty #[.slice (some ⟨g, (i + 1) * 5, none⟩) (n + 1 - (i + 1)) dc, .slice (some ⟨g, i * 5, none⟩) (n + 1 - i) sc]).run Tryz.prog W = .ok v' w' /\
      w'.heap[g]? = some (.cells (over cur.toList ((i + 1) * 5) (vs.drop i).flatten).toArray 78 (0, 0)) /\ Only (fun k => k = g) w w' := fun dc sc ty W hW => by
    have hgl := lt_of_block hg; obtain ⟨v', w', a1, a2, a3⟩ := fy (P := Tryz.prog) W 28 28 ty 78 g ((i + 1) * 5) (n + 1 - (i + 1)) dc ⟨g, i * 5, none⟩ (n + 1 - i) sc 5 cur 78 (vs.drop i).flatten Tryz.underlying28 (by kernel_rfl) ((hW.block g hgl (fun e => e)).trans hg)
      (by rw [hd, hn]; congr 1; simp only [Nat.min_def]; split <;> omega)
      (fun j v hj => by
        rw [Addr.add_lit, World.cell?_of_block (w := w) (hW.block g hgl (fun e => e))]; exact hsrc j v hj)
      (by rw [hd, hcs, hn]; have : (i + 1) * 5 + (n - i) * 5 = (n + 1) * 5 := by rw [<- Nat.add_mul]; congr 1; omega
          rw [this]; exact Nat.mul_le_mul_right _ (by omega))
      (fun v hv => iq ⟨fun u hu => hf.len u (List.mem_of_mem_drop hu), fun u hu => hf.one u (List.mem_of_mem_drop hu)⟩ v hv)
    exact ⟨v', w', a1, a2, (hW.mono fun _ _ e => e.elim).trans a3 fun _ _ e => e⟩
  have h2 : ∀ ty dc W, W.heap[g]? = some (.cells (over cur.toList ((i + 1) * 5) (vs.drop i).flatten).toArray 78 (0, 0)) -> Only (fun k => k = g) w W -> ∃ v' w', (Builtin.copy_ #[28, 28] ty #[.slice (some ⟨g, i * 5, none⟩) (n + 1 - i) dc, .slice (some ⟨gx, 0, none⟩) 1 1]).run Tryz.prog W = .ok v' w' /\
      w'.ownsRow base 78 5 (.slice (some ⟨g, 0, none⟩) (n + 1) c) (vs.take i ++ x :: vs.drop i).length (vs.take i ++ x :: vs.drop i).flatten /\ Only (fun k => k = g) w w' := fun ty dc W hg1 hW => by
    have SL := aJ hgx hW (fun e => hne e); obtain ⟨v', w', a1, a2, a3⟩ := fy (P := Tryz.prog) W 28 28 ty 78 g (i * 5) (n + 1 - i) dc ⟨gx, 0, none⟩ 1 1 5 _ 78 x Tryz.underlying28 (by kernel_rfl) hg1
      (by rw [hx]; simp only [Nat.min_def]; split <;> omega)
      (fun j v hj => by rw [Addr.add_lit, Nat.zero_add]; exact SL.cell hj)
      (by rw [hx, List.size_toArray, dR (by rw [hd, hcl]; have : (i + 1) * 5 + (vs.length - i) * 5 = (vs.length + 1) * 5 := by rw [<- Nat.add_mul]; congr 1; omega
                                            rw [this]; exact Nat.mul_le_mul_right _ hc), hcl, <- Nat.succ_mul]; exact Nat.mul_le_mul_right _ (by omega)) hx1
    have hle : (vs.take i ++ x :: vs.drop i).length = n + 1 := by simp; omega
    refine ⟨v', w', a1, ?_, hW.trans a3 fun _ _ e => e⟩; rw [hle]; refine ⟨?_, Or.inr ⟨g, c, _, rfl, hgb, a2, by omega, hcm, ?_, ?_⟩⟩
    · rw [<- hS1, List.length_take, zx, hcl, hn]
      exact Nat.min_eq_left (Nat.mul_le_mul_right _ (by omega))
    · show (over _ _ _).toArray.size = _
      rw [List.size_toArray]; exact zx.trans hcl
    show (over _ _ _).take _ = _
    rw [<- hn]; exact hS1
  have hov : ∀ lb cb, (callFunc 117 #[.slice (some ⟨gx, 0, none⟩) 1 1, .slice (some ⟨g, (i + 1) * 5, none⟩) lb cb]).run Tryz.prog w = .ok (.value (.bool false)) w := fun lb cb => by
    rw [run_callFunc_extern Tryz.func117 (by kernel_rfl) (by kernel_rfl) (by kernel_rfl) (e := Extern.SlicesOverlaps.overlaps #[28, 28] #[4]) (by kernel_rfl),
      Lib.run_overlaps_apart w 28 4 78 Tryz.underlying28 5 (fun w => by go_simp) ⟨gx, 0, none⟩ ⟨g, (i + 1) * 5, none⟩ 1 1 lb cb hne 78 78 x.length cur.size (by simp [World.shape?, iy]) (by simp [World.shape?, hg]) (by omega) (hgx.frozen (by omega)) (by simp [World.frozen?, iy])]
    rfl
  obtain ⟨c1, w1, r1, g1, o1⟩ := h1 (c - (i + 1)) (c - i) 3 w.drew (Only.of_below (Below.refl _ _).drew); obtain ⟨c2, w2, r2, Gi, o2⟩ := h2 3 (c - i) w1 g1 o1; have jt := ak r1; have vH := ak r2; have dW := ak Gi; have HO := ak o2; have cj := ak hov; clear h1 h2 hov hS1 zx hsrc Gl hct hcs hcl hd hgx iy hx1 hf hgb hg ho r1 g1 o1 r2 Gi o2; rw [hn] at hc hi hl ⊢; have HN := ak hn; clear hn; have hz1 : ¬ ((1 : Int) = 0) := by omega
  have hz2 : ¬ ((i : Int) = (n : Int)) := by omega
  have SQ : c <= 9223372036854775807 := by unfold maxLen at hcm; omega
  go_enter Tryz.func111, Tryz.ntmps111
  go_wp2_with (simp only [cj.o])
  have mixed : Tryz.prog.follows .mixedOrders = true := by kernel_rfl
  have hw1 : IntKind.i64.wrap ((i : Int) + 1) = (i : Int) + 1 := by rw [IntKind.wrap_i64]; omega
  have hb1 : (0 : Int) <= (i : Int) + 1 := by omega
  have hin : i <= n := by omega
  have htn : ((i : Int) + 1).toNat = i + 1 := by omega
  have hb2 : ¬ (c = i + 1) := by omega
  have hb3 : (i : Int) <= (n : Int) + 1 := by omega
  have wJ : (i : Int) <= (n : Int) := by omega
  have hb4 : ¬ (c = i) := by omega
  go_region_law_o (refine step_copy_runI rfl _ _ 28 28 rfl _ _ (by simp [Act.eval, Act.put]) (by simp [Act.eval, Act.put]) jt.o ?_)
  go_wp2_with (simp only [vH.o])
  go_returns
  exact ⟨_, rfl, dW.o, HO.o, rfl⟩
set_option maxHeartbeats 2000000 in
theorem uJ (g c i : Nat) (vs : List (List Value)) (x : List Value) (gx : Nat) (base : Nat) (w : World) (kV : base <= w.heap.size) (hf : Fit 5 vs) (hx : x.length = 5) (hx1 : ∀ u ∈ x, u.oneCell' = true) (hi : i < vs.length)
    (ho : w.ownsRow base 78 5 (.slice (some ⟨g, 0, none⟩) vs.length c) vs.length vs.flatten) (hc : c < vs.length + 1) (iy : w.heap[gx]? = some (.cells x.toArray 78 (0, 0))) (hl : vs.length <= 100000) :
    Calls Tryz.prog 111 #[.slice (some ⟨g, 0, none⟩) vs.length c, iv (i : Int), .slice (some ⟨gx, 0, none⟩) 1 1] w fun e w' =>
      ∃ v', e = .returned v' /\ w'.ownsRow base 78 5 v' (vs.take i ++ x :: vs.drop i).length (vs.take i ++ x :: vs.drop i).flatten /\ Below w.heap.size w w' /\ v'.ownBlock = some w.heap.size := by
  have hgx : Cells w gx 78 x := ⟨_, 0, 0, iy, fun j u hu => by simpa using hu, fun j _ hj => by omega⟩; obtain ⟨cur, hgb, hg, hcm, hnc, hcs, hct⟩ : ∃ cur, base <= g /\ w.heap[g]? = some (.cells cur 78 (0, 0)) /\ c <= maxLen /\ vs.length <= c /\ cur.size = c * 5 /\ cur.toList.take (vs.length * 5) = vs.flatten := by
    rcases ho.2 with ⟨h1, _⟩ | ⟨g', cap, cur, h1, h2, h3, h4, h5, h6, h7⟩
    · cases h1
    simp only [Value.slice.injEq, Option.some.injEq, Addr.mk.injEq] at h1
    obtain ⟨⟨rfl, _, _⟩, _, rfl⟩ := h1; exact ⟨cur, h2, h3, h5, h4, h6, h7⟩
  obtain ⟨n, hn⟩ := ah vs.length; have hd := aW (vs := vs.drop i) (sz := 5) fun v hv => hf.len v (List.mem_of_mem_drop hv)
  rw [List.length_drop] at hd; have htl := aW (vs := vs.take i) (sz := 5) fun v hv => hf.len v (List.mem_of_mem_take hv)
  rw [List.length_take, Nat.min_eq_left (Nat.le_of_lt hi)] at htl; have hgl := lt_of_block hg; have hat : ∀ j v, vs.flatten[j]? = some v -> w.cell? ⟨g, j, none⟩ = some v := fun j v hj => by
    rw [<- hct, List.getElem?_take] at hj
    split at hj
    · rw [cell_of_row _ _ _ _ _ _ hg]; simpa using hj
    cases hj
  have hsrc : ∀ j v, (vs.drop i).flatten[j]? = some v -> w.cell? ⟨g, i * 5 + j, none⟩ = some v := fun j v hj => by
    rw [<- cN hf.len i (Nat.le_of_lt hi), List.getElem?_drop] at hj; exact hat _ v hj
  obtain ⟨i0, hi0, hz0, hz1, hz2⟩ := info_parts (mA).info; have hold : (Builtin.firstCells i0.size i (.slice (some ⟨g, 0, none⟩) i c)).run Tryz.prog w.drew = .ok (vs.take i).flatten.toArray w.drew := by
    rw [hz1]; exact run_firstCells_some w.drew 5 i ⟨g, 0, none⟩ i c (vs.take i).flatten htl (fun j v hj => by
      rw [Addr.add_lit, Nat.zero_add]; rw [<- jJ hf.len i (Nat.le_of_lt hi), List.getElem?_take] at hj
      split at hj
      · exact hat j v hj
      cases hj)
  have hroom : c < n + 1 := by omega
  have hik : i + (n + 1 - i) = n + 1 := by omega
  have hkk : (n : Int) + 1 - (i : Int) = ((n + 1 - i : Nat) : Int) := by omega
  obtain ⟨G, hG⟩ := aj (grownCap w (n + 1) c 78); have Jd : n + 1 <= G := by rw [hG]; exact grownCap_ge w _ _ _
  have uf : G <= maxLen := by rw [hG]; exact grownCap_le_maxLen w (n + 1) c 78 (by unfold maxLen; omega)
  have Jb : ∀ ty, (Builtin.append_ #[28, 3] ty #[.slice (some ⟨g, 0, none⟩) i c, iv ((n : Int) + 1 - (i : Int))]).run Tryz.prog w =
      .ok (.slice (some ⟨w.heap.size, 0, none⟩) (n + 1) G) (w.drew.alloc (.cells ((vs.take i).flatten.toArray ++ Builtin.zeroCells (.agg #[iv 0, iv 0, iv 0, .slice none 0 0, .slice none 0 0] : Value).cells (n + 1 - i) ++ Builtin.zeroCells (.agg #[iv 0, iv 0, iv 0, .slice none 0 0, .slice none 0 0] : Value).cells (G - (n + 1))) 78)) := fun ty => by
    have h := Lib.run_append_grow_zeros (P := Tryz.prog) w 28 3 ty 78 i0 _ .i64 .i64 Tryz.underlying28 Tryz.underlying3 hi0 hz0 (some ⟨g, 0, none⟩) i c (vs.take i).flatten hold (n + 1 - i) (by omega) (by omega) (by omega) (by omega) (by rw [hz2]; omega) (by rw [hz2, hik]; exact growslice_fits hroom (by omega)); rw [hik, <- hG] at h; rw [hkk]; exact h
  obtain ⟨ROW, vJ⟩ : ∃ ROW : Array Value, ROW = (vs.take i).flatten.toArray ++ Builtin.zeroCells (.agg #[iv 0, iv 0, iv 0, .slice none 0 0, .slice none 0 0] : Value).cells (n + 1 - i) ++ Builtin.zeroCells (.agg #[iv 0, iv 0, iv 0, .slice none 0 0, .slice none 0 0] : Value).cells (G - (n + 1)) := ⟨_, rfl⟩; have K6 : ROW.size = G * 5 := by
    rw [vJ, Array.size_append, Array.size_append, size_zeroCells, size_zeroCells, List.size_toArray, htl]; show i * 5 + (n + 1 - i) * 5 + (G - (n + 1)) * 5 = _
    rw [<- Nat.add_mul, <- Nat.add_mul]
    congr 1
    omega
  have UZ : ROW.toList.take (i * 5) = (vs.take i).flatten := by
    rw [vJ]; simp only [Array.toList_append, List.append_assoc]; rw [List.take_append_of_le_length (by omega), List.take_of_length_le (by omega)]
  rw [<- vJ] at Jb; clear vJ hG hold; obtain ⟨w1, hw1⟩ := aj (w.drew.alloc (.cells ROW 78)); rw [<- hw1] at Jb; have Jg : Below w.heap.size w w1 := by rw [hw1]; exact (Below.refl _ _).drew.alloc (Nat.le_refl _) _
  have hg1 : w1.heap[w.heap.size]? = some (.cells ROW 78 (0, 0)) := by rw [hw1]; show (w.heap.push _)[w.heap.size]? = _; exact Array.getElem?_push_size
  clear hw1; have hxl := hgx.lt; have DG : ROW.toList.length = G * 5 := by simpa using K6
  obtain ⟨c2, w2, r2, g2, o2⟩ := fy (P := Tryz.prog) w1 28 28 3 78 w.heap.size (i * 5) (n + 1 - i) (G - i) ⟨gx, 0, none⟩ 1 1 5 _ 78 x Tryz.underlying28 (by kernel_rfl) hg1
    (by rw [hx]; simp only [Nat.min_def]; split <;> omega) (fun j v hj => by rw [Addr.add_lit, Nat.zero_add]; exact (hgx.later Jg).cell hj)
    (by rw [hx, K6, <- Nat.succ_mul]; exact Nat.mul_le_mul_right _ (by omega)) hx1
  have Jf : Below w.heap.size w w2 := Jg.trans (o2.below Jg.size fun k e => by rw [e]; exact Nat.le_refl _); have U0 : (over ROW.toList (i * 5) x).length = G * 5 := by rw [dR (by rw [hx, DG, <- Nat.succ_mul]; exact Nat.mul_le_mul_right _ (by omega)), DG]
  obtain ⟨c3, w3, r3, g3, o3⟩ := fy (P := Tryz.prog) w2.drew 28 28 3 78 w.heap.size ((i + 1) * 5) (n + 1 - (i + 1)) (G - (i + 1)) ⟨g, i * 5, none⟩ (n - i) (c - i) 5 _ 78 (vs.drop i).flatten Tryz.underlying28 (by kernel_rfl) g2
    (by rw [hd, hn]; congr 1; simp only [Nat.min_def]; split <;> omega)
    (fun j v hj => by
      rw [Addr.add_lit, World.cell?_of_block (w := w) (Jf.block g hgl)]; exact hsrc j v hj)
    (by show _ <= (over _ _ _).toArray.size
        rw [List.size_toArray, U0, hd, hn]; have : (i + 1) * 5 + (n - i) * 5 = (n + 1) * 5 := by rw [<- Nat.add_mul]; congr 1; omega
        rw [this]; exact Nat.mul_le_mul_right _ Jd)
    (fun v hv => iq ⟨fun u hu => hf.len u (List.mem_of_mem_drop hu), fun u hu => hf.one u (List.mem_of_mem_drop hu)⟩ v hv)
  have U3 : Below w.heap.size w w3 := Jf.trans ((Below.refl _ _).drew.trans (o3.below Jf.size fun k e => by rw [e]; exact Nat.le_refl _)); obtain ⟨hS1, zx⟩ := xQ (cur := ROW.toList) hf.len hx hi (by rw [DG, hn]; exact Nat.mul_le_mul_right _ Jd) UZ; have hle : (vs.take i ++ x :: vs.drop i).length = n + 1 := by simp; omega
  have hrow : w3.ownsRow base 78 5 (.slice (some ⟨w.heap.size, 0, none⟩) (n + 1) G) (vs.take i ++ x :: vs.drop i).length (vs.take i ++ x :: vs.drop i).flatten := by
    rw [hle]; refine ⟨?_, Or.inr ⟨w.heap.size, G, _, rfl, kV, g3, Jd, uf, ?_, ?_⟩⟩
    · rw [<- hS1, List.length_take, zx, DG, hn]
      exact Nat.min_eq_left (Nat.mul_le_mul_right _ Jd)
    · show (over (over _ _ _) _ _).toArray.size = _
      rw [List.size_toArray]; exact zx.trans DG
    show (over (over _ _ _) _ _).take _ = _
    rw [<- hn]; exact hS1
  have YE := ak Jb; have vH := ak r2; have YG := ak r3; have dW := ak hrow; have HB := ak U3; have HN := ak hn; clear hS1 zx hrow U3 Jf Jg U0 DG UZ K6 Jb r2 r3 g2 g3 o2 o3 hg1 hsrc hat htl hd hi0 hz0 hz1 hz2 hct hcs hgx iy hx1 hf hgb hg ho hgl hxl hkk hik; rw [hn] at hc hnc hi hl ⊢; clear hn; have hz1 : ¬ ((1 : Int) = 0) := by omega
  have hz2 : ¬ ((i : Int) = (n : Int)) := by omega
  have hz3 : (c : Int) < (n : Int) + 1 := by omega
  have SQ : c <= 9223372036854775807 := by unfold maxLen at hcm; omega
  have Zn : G <= 9223372036854775807 := by unfold maxLen at uf; omega
  have mixed : Tryz.prog.follows .mixedOrders = true := by kernel_rfl
  have hw1 : IntKind.i64.wrap ((i : Int) + 1) = (i : Int) + 1 := by rw [IntKind.wrap_i64]; omega
  have hb1 : (0 : Int) <= (i : Int) + 1 := by omega
  have hin : i <= n := by omega
  have htn : ((i : Int) + 1).toNat = i + 1 := by omega
  have hb2 : ¬ (G = i + 1) := by omega
  have hb3 : (i : Int) <= (n : Int) + 1 := by omega
  have wJ : (i : Int) <= (n : Int) := by omega
  have hb4 : ¬ (c = i) := by omega
  have rI : ¬ (G = i) := by omega
  go_enter Tryz.func111, Tryz.ntmps111
  go_wp2_with (first
    | (at_builtin; refine Lib.wpList_append_run _ rfl _ _ _ _ rfl _ _ rfl rfl _ _ (YE.o _) ?_)
    | simp only [vH.o])
  go_region_law_o (refine step_copy_runI rfl _ _ 28 28 rfl _ _ (by simp [Act.eval, Act.put]) (by simp [Act.eval, Act.put]) YG.o ?_)
  go_wp2
  go_returns
  exact ⟨_, rfl, dW.o, HB.o, rfl⟩
theorem Io (v : Value) (i : Nat) (vs : List (List Value)) (x : List Value) (gx : Nat) (base : Nat) (w : World) (kV : base <= w.heap.size) (hf : Fit 5 vs) (hx : x.length = 5) (hx1 : ∀ u ∈ x, u.oneCell' = true) (hi : i <= vs.length)
    (ho : w.ownsRow base 78 5 v vs.length vs.flatten) (iy : w.heap[gx]? = some (.cells x.toArray 78 (0, 0))) (hne : v.ownBlock ≠ some gx) (hl : vs.length <= 100000) :
    Calls Tryz.prog 111 #[v, iv (i : Int), .slice (some ⟨gx, 0, none⟩) 1 1] w fun e w' =>
      ∃ v', e = .returned v' /\ w'.ownsRow base 78 5 v' (vs.take i ++ x :: vs.drop i).length (vs.take i ++ x :: vs.drop i).flatten /\ Only (fun k => some k = v.ownBlock) w w' /\ (v'.ownBlock = v.ownBlock \/ v'.ownBlock = some w.heap.size) := by
  by_cases he : i = vs.length
  · have hgx : Cells w gx 78 x := ⟨_, 0, 0, iy, fun j u hu => by simpa using hu, fun j _ hj => by omega⟩
    have hfx : Fit 5 [x] := ⟨fun u hu => by rw [List.mem_singleton.1 hu]; exact hx, fun u hu => by rw [List.mem_singleton.1 hu]; exact hx1⟩; obtain ⟨v', w', hrun, hrow, hgr, hnew⟩ := aZ mA w 28 base v vs [x] (some ⟨gx, 0, none⟩) 1 hf hfx ho (cW (by simpa using hgx) hfx.len) (fun e => by cases e) (by simp only [List.length_singleton]; omega) kV; have e1 : vs.take i ++ x :: vs.drop i = vs ++ [x] := by rw [he]; simp
    rw [e1]; obtain ⟨L, hL⟩ := ah (vs ++ [x]); rw [hL] at hrow ⊢; clear hL; obtain ⟨n, hn⟩ := ah vs.length; obtain ⟨A, cA, hv, _, _⟩ := f_ ho hf.len; rw [hn] at he hv hi hl; have dQ : Hid ((Builtin.append_ #[28, 28] 28 #[.slice A n cA, .slice (some ⟨gx, 0, none⟩) 1 1]).run Tryz.prog w = .ok v' w') := ak (by rw [<- hv]; exact hrun); have dW := ak hrow; have HO : Hid (Only (fun k => some k = v.ownBlock) w w') := ak (Only.fP hgr); have Gy := ak hnew; obtain ⟨o, FM⟩ := ah v.ownBlock; rw [FM] at HO Gy ⊢; clear FM hne iy ho hf hx hx1 hfx hgx hrun hrow hgr hnew; subst hv; subst he; clear e1 hn
    go_enter Tryz.func111, Tryz.ntmps111
    go_wp2_with (at_builtin
                 refine Lib.wpList_append_run w rfl _ _ 28 28 rfl _ _ rfl rfl _ _ dQ.o ?_)
    all_goals
      go_returns
      exact ⟨_, rfl, dW.o, HO.o, Gy.o⟩
  have hi' : i < vs.length := by omega
  rcases ho.2 with ⟨_, h2⟩ | ⟨g, cap, cur, h1, h2, h3, h4, h5, h6, h7⟩
  · omega
  subst h1
  by_cases hr : vs.length + 1 <= cap
  · refine (uI g cap i vs x gx base w hf hx hx1 hi' ho hr iy (fun e => hne (by rw [e]; rfl)) hl).mono ?_
    rintro e w' ⟨v', rfl, k1, k2, k3⟩; exact ⟨v', rfl, k1, k2.mono fun k _ e => by rw [e]; rfl, Or.inl k3⟩
  refine (uJ g cap i vs x gx base w kV hf hx hx1 hi' ho (by omega) iy hl).mono ?_
  rintro e w' ⟨v', rfl, k1, k2, k3⟩; exact ⟨v', rfl, k1, Only.of_below k2, Or.inr k3⟩
set_option maxHeartbeats 2000000 in
theorem wA (g c i : Nat) (vs : List (List Value)) (x : List Value) (gx : Nat) (base : Nat) (w : World) (hf : Fit 4 vs) (hx : x.length = 4) (hx1 : ∀ u ∈ x, u.oneCell' = true) (hi : i < vs.length)
    (ho : w.ownsRow base 79 4 (.slice (some ⟨g, 0, none⟩) vs.length c) vs.length vs.flatten) (hc : vs.length + 1 <= c) (iy : w.heap[gx]? = some (.cells x.toArray 79 (0, 0))) (hne : gx ≠ g) (hl : vs.length <= 100000) :
    Calls Tryz.prog 121 #[.slice (some ⟨g, 0, none⟩) vs.length c, iv (i : Int), .slice (some ⟨gx, 0, none⟩) 1 1] w fun e w' =>
      ∃ v', e = .returned v' /\ w'.ownsRow base 79 4 v' (vs.take i ++ x :: vs.drop i).length (vs.take i ++ x :: vs.drop i).flatten /\ Only (fun k => k = g) w w' /\ v'.ownBlock = some g := by
  have hgx : Cells w gx 79 x := ⟨_, 0, 0, iy, fun j u hu => by simpa using hu, fun j _ hj => by omega⟩; obtain ⟨cur, hgb, hg, hcm, hcs, hct⟩ : ∃ cur, base <= g /\ w.heap[g]? = some (.cells cur 79 (0, 0)) /\ c <= maxLen /\ cur.size = c * 4 /\ cur.toList.take (vs.length * 4) = vs.flatten := by
    rcases ho.2 with ⟨h1, _⟩ | ⟨g', cap, cur, h1, h2, h3, h4, h5, h6, h7⟩
    · cases h1
    simp only [Value.slice.injEq, Option.some.injEq, Addr.mk.injEq] at h1
    obtain ⟨⟨rfl, _, _⟩, _, rfl⟩ := h1; exact ⟨cur, h2, h3, h5, h6, h7⟩
  obtain ⟨n, hn⟩ := ah vs.length; have hd := aW (vs := vs.drop i) (sz := 4) fun v hv => hf.len v (List.mem_of_mem_drop hv)
  rw [List.length_drop] at hd; have Gl : cur.toList.take (i * 4) = (vs.take i).flatten := by
    rw [<- jJ hf.len i (Nat.le_of_lt hi), <- hct, List.take_take, Nat.min_eq_left (Nat.mul_le_mul_right _ (Nat.le_of_lt hi))]
  have hcl : cur.toList.length = c * 4 := by simpa using hcs
  obtain ⟨hS1, zx⟩ := u6 (cur := cur.toList) hf.len hx hi (by rw [hcl]; exact Nat.mul_le_mul_right _ hc) Gl; have hsrc : ∀ j v, (vs.drop i).flatten[j]? = some v -> w.cell? ⟨g, i * 4 + j, none⟩ = some v := fun j v hj => by
    rw [<- cN hf.len i (Nat.le_of_lt hi), List.getElem?_drop, <- hct, List.getElem?_take] at hj
    split at hj
    · rw [cell_of_row _ _ _ _ _ _ hg]; simpa using hj
    cases hj
  have h1 : ∀ dc sc ty W, Only (fun _ => False) w W -> ∃ v' w', (Builtin.copy_ #[29, 29] ty #[.slice (some ⟨g, (i + 1) * 4, none⟩) (n + 1 - (i + 1)) dc, .slice (some ⟨g, i * 4, none⟩) (n + 1 - i) sc]).run Tryz.prog W = .ok v' w' /\
      w'.heap[g]? = some (.cells (over cur.toList ((i + 1) * 4) (vs.drop i).flatten).toArray 79 (0, 0)) /\ Only (fun k => k = g) w w' := fun dc sc ty W hW => by
    have hgl := lt_of_block hg; obtain ⟨v', w', a1, a2, a3⟩ := fy (P := Tryz.prog) W 29 29 ty 79 g ((i + 1) * 4) (n + 1 - (i + 1)) dc ⟨g, i * 4, none⟩ (n + 1 - i) sc 4 cur 79 (vs.drop i).flatten Tryz.underlying29 (by kernel_rfl) ((hW.block g hgl (fun e => e)).trans hg)
      (by rw [hd, hn]; congr 1; simp only [Nat.min_def]; split <;> omega)
      (fun j v hj => by
        rw [Addr.add_lit, World.cell?_of_block (w := w) (hW.block g hgl (fun e => e))]; exact hsrc j v hj)
      (by rw [hd, hcs, hn]; have : (i + 1) * 4 + (n - i) * 4 = (n + 1) * 4 := by rw [<- Nat.add_mul]; congr 1; omega
          rw [this]; exact Nat.mul_le_mul_right _ (by omega))
      (fun v hv => iq ⟨fun u hu => hf.len u (List.mem_of_mem_drop hu), fun u hu => hf.one u (List.mem_of_mem_drop hu)⟩ v hv)
    exact ⟨v', w', a1, a2, (hW.mono fun _ _ e => e.elim).trans a3 fun _ _ e => e⟩
  have h2 : ∀ ty dc W, W.heap[g]? = some (.cells (over cur.toList ((i + 1) * 4) (vs.drop i).flatten).toArray 79 (0, 0)) -> Only (fun k => k = g) w W -> ∃ v' w', (Builtin.copy_ #[29, 29] ty #[.slice (some ⟨g, i * 4, none⟩) (n + 1 - i) dc, .slice (some ⟨gx, 0, none⟩) 1 1]).run Tryz.prog W = .ok v' w' /\
      w'.ownsRow base 79 4 (.slice (some ⟨g, 0, none⟩) (n + 1) c) (vs.take i ++ x :: vs.drop i).length (vs.take i ++ x :: vs.drop i).flatten /\ Only (fun k => k = g) w w' := fun ty dc W hg1 hW => by
    have SL := aJ hgx hW (fun e => hne e); obtain ⟨v', w', a1, a2, a3⟩ := fy (P := Tryz.prog) W 29 29 ty 79 g (i * 4) (n + 1 - i) dc ⟨gx, 0, none⟩ 1 1 4 _ 79 x Tryz.underlying29 (by kernel_rfl) hg1
      (by rw [hx]; simp only [Nat.min_def]; split <;> omega)
      (fun j v hj => by rw [Addr.add_lit, Nat.zero_add]; exact SL.cell hj)
      (by rw [hx, List.size_toArray, dR (by rw [hd, hcl]; have : (i + 1) * 4 + (vs.length - i) * 4 = (vs.length + 1) * 4 := by rw [<- Nat.add_mul]; congr 1; omega
                                            rw [this]; exact Nat.mul_le_mul_right _ hc), hcl, <- Nat.succ_mul]; exact Nat.mul_le_mul_right _ (by omega)) hx1
    have hle : (vs.take i ++ x :: vs.drop i).length = n + 1 := by simp; omega
    refine ⟨v', w', a1, ?_, hW.trans a3 fun _ _ e => e⟩; rw [hle]; refine ⟨?_, Or.inr ⟨g, c, _, rfl, hgb, a2, by omega, hcm, ?_, ?_⟩⟩
    · rw [<- hS1, List.length_take, zx, hcl, hn]
      exact Nat.min_eq_left (Nat.mul_le_mul_right _ (by omega))
    · show (over _ _ _).toArray.size = _
      rw [List.size_toArray]; exact zx.trans hcl
    show (over _ _ _).take _ = _
    rw [<- hn]; exact hS1
  have hov : ∀ lb cb, (callFunc 124 #[.slice (some ⟨gx, 0, none⟩) 1 1, .slice (some ⟨g, (i + 1) * 4, none⟩) lb cb]).run Tryz.prog w = .ok (.value (.bool false)) w := fun lb cb => by
    rw [run_callFunc_extern Tryz.func124 (by kernel_rfl) (by kernel_rfl) (by kernel_rfl) (e := Extern.SlicesOverlaps.overlaps #[29, 29] #[4]) (by kernel_rfl),
      Lib.run_overlaps_apart w 29 4 79 Tryz.underlying29 4 (fun w => by go_simp) ⟨gx, 0, none⟩ ⟨g, (i + 1) * 4, none⟩ 1 1 lb cb hne 79 79 x.length cur.size (by simp [World.shape?, iy]) (by simp [World.shape?, hg]) (by omega) (hgx.frozen (by omega)) (by simp [World.frozen?, iy])]
    rfl
  obtain ⟨c1, w1, r1, g1, o1⟩ := h1 (c - (i + 1)) (c - i) 3 w.drew (Only.of_below (Below.refl _ _).drew); obtain ⟨c2, w2, r2, Gi, o2⟩ := h2 3 (c - i) w1 g1 o1; have jt := ak r1; have vH := ak r2; have dW := ak Gi; have HO := ak o2; have cj := ak hov; clear h1 h2 hov hS1 zx hsrc Gl hct hcs hcl hd hgx iy hx1 hf hgb hg ho r1 g1 o1 r2 Gi o2; rw [hn] at hc hi hl ⊢; have HN := ak hn; clear hn; have hz1 : ¬ ((1 : Int) = 0) := by omega
  have hz2 : ¬ ((i : Int) = (n : Int)) := by omega
  have SQ : c <= 9223372036854775807 := by unfold maxLen at hcm; omega
  go_enter Tryz.func121, Tryz.ntmps121
  go_wp2_with (simp only [cj.o])
  have mixed : Tryz.prog.follows .mixedOrders = true := by kernel_rfl
  have hw1 : IntKind.i64.wrap ((i : Int) + 1) = (i : Int) + 1 := by rw [IntKind.wrap_i64]; omega
  have hb1 : (0 : Int) <= (i : Int) + 1 := by omega
  have hin : i <= n := by omega
  have htn : ((i : Int) + 1).toNat = i + 1 := by omega
  have hb2 : ¬ (c = i + 1) := by omega
  have hb3 : (i : Int) <= (n : Int) + 1 := by omega
  have wJ : (i : Int) <= (n : Int) := by omega
  have hb4 : ¬ (c = i) := by omega
  go_region_law_o (refine step_copy_runI rfl _ _ 29 29 rfl _ _ (by simp [Act.eval, Act.put]) (by simp [Act.eval, Act.put]) jt.o ?_)
  go_wp2_with (simp only [vH.o])
  go_returns
  exact ⟨_, rfl, dW.o, HO.o, rfl⟩
set_option maxHeartbeats 2000000 in
theorem wB (g c i : Nat) (vs : List (List Value)) (x : List Value) (gx : Nat) (base : Nat) (w : World) (kV : base <= w.heap.size) (hf : Fit 4 vs) (hx : x.length = 4) (hx1 : ∀ u ∈ x, u.oneCell' = true) (hi : i < vs.length)
    (ho : w.ownsRow base 79 4 (.slice (some ⟨g, 0, none⟩) vs.length c) vs.length vs.flatten) (hc : c < vs.length + 1) (iy : w.heap[gx]? = some (.cells x.toArray 79 (0, 0))) (hl : vs.length <= 100000) :
    Calls Tryz.prog 121 #[.slice (some ⟨g, 0, none⟩) vs.length c, iv (i : Int), .slice (some ⟨gx, 0, none⟩) 1 1] w fun e w' =>
      ∃ v', e = .returned v' /\ w'.ownsRow base 79 4 v' (vs.take i ++ x :: vs.drop i).length (vs.take i ++ x :: vs.drop i).flatten /\ Below w.heap.size w w' /\ v'.ownBlock = some w.heap.size := by
  have hgx : Cells w gx 79 x := ⟨_, 0, 0, iy, fun j u hu => by simpa using hu, fun j _ hj => by omega⟩; obtain ⟨cur, hgb, hg, hcm, hnc, hcs, hct⟩ : ∃ cur, base <= g /\ w.heap[g]? = some (.cells cur 79 (0, 0)) /\ c <= maxLen /\ vs.length <= c /\ cur.size = c * 4 /\ cur.toList.take (vs.length * 4) = vs.flatten := by
    rcases ho.2 with ⟨h1, _⟩ | ⟨g', cap, cur, h1, h2, h3, h4, h5, h6, h7⟩
    · cases h1
    simp only [Value.slice.injEq, Option.some.injEq, Addr.mk.injEq] at h1
    obtain ⟨⟨rfl, _, _⟩, _, rfl⟩ := h1; exact ⟨cur, h2, h3, h5, h4, h6, h7⟩
  obtain ⟨n, hn⟩ := ah vs.length; have hd := aW (vs := vs.drop i) (sz := 4) fun v hv => hf.len v (List.mem_of_mem_drop hv)
  rw [List.length_drop] at hd; have htl := aW (vs := vs.take i) (sz := 4) fun v hv => hf.len v (List.mem_of_mem_take hv)
  rw [List.length_take, Nat.min_eq_left (Nat.le_of_lt hi)] at htl; have hgl := lt_of_block hg; have hat : ∀ j v, vs.flatten[j]? = some v -> w.cell? ⟨g, j, none⟩ = some v := fun j v hj => by
    rw [<- hct, List.getElem?_take] at hj
    split at hj
    · rw [cell_of_row _ _ _ _ _ _ hg]; simpa using hj
    cases hj
  have hsrc : ∀ j v, (vs.drop i).flatten[j]? = some v -> w.cell? ⟨g, i * 4 + j, none⟩ = some v := fun j v hj => by
    rw [<- cN hf.len i (Nat.le_of_lt hi), List.getElem?_drop] at hj; exact hat _ v hj
  obtain ⟨i0, hi0, hz0, hz1, hz2⟩ := info_parts (zZ).info; have hold : (Builtin.firstCells i0.size i (.slice (some ⟨g, 0, none⟩) i c)).run Tryz.prog w.drew = .ok (vs.take i).flatten.toArray w.drew := by
    rw [hz1]; exact run_firstCells_some w.drew 4 i ⟨g, 0, none⟩ i c (vs.take i).flatten htl (fun j v hj => by
      rw [Addr.add_lit, Nat.zero_add]; rw [<- jJ hf.len i (Nat.le_of_lt hi), List.getElem?_take] at hj
      split at hj
      · exact hat j v hj
      cases hj)
  have hroom : c < n + 1 := by omega
  have hik : i + (n + 1 - i) = n + 1 := by omega
  have hkk : (n : Int) + 1 - (i : Int) = ((n + 1 - i : Nat) : Int) := by omega
  obtain ⟨G, hG⟩ := aj (grownCap w (n + 1) c 79); have Jd : n + 1 <= G := by rw [hG]; exact grownCap_ge w _ _ _
  have uf : G <= maxLen := by rw [hG]; exact grownCap_le_maxLen w (n + 1) c 79 (by unfold maxLen; omega)
  have Jb : ∀ ty, (Builtin.append_ #[29, 3] ty #[.slice (some ⟨g, 0, none⟩) i c, iv ((n : Int) + 1 - (i : Int))]).run Tryz.prog w =
      .ok (.slice (some ⟨w.heap.size, 0, none⟩) (n + 1) G) (w.drew.alloc (.cells ((vs.take i).flatten.toArray ++ Builtin.zeroCells (.agg #[iv 0, iv 0, iv 0, .bool false] : Value).cells (n + 1 - i) ++ Builtin.zeroCells (.agg #[iv 0, iv 0, iv 0, .bool false] : Value).cells (G - (n + 1))) 79)) := fun ty => by
    have h := Lib.run_append_grow_zeros (P := Tryz.prog) w 29 3 ty 79 i0 _ .i64 .i64 Tryz.underlying29 Tryz.underlying3 hi0 hz0 (some ⟨g, 0, none⟩) i c (vs.take i).flatten hold (n + 1 - i) (by omega) (by omega) (by omega) (by omega) (by rw [hz2]; omega) (by rw [hz2, hik]; exact growslice_fits hroom (by omega)); rw [hik, <- hG] at h; rw [hkk]; exact h
  obtain ⟨ROW, vJ⟩ : ∃ ROW : Array Value, ROW = (vs.take i).flatten.toArray ++ Builtin.zeroCells (.agg #[iv 0, iv 0, iv 0, .bool false] : Value).cells (n + 1 - i) ++ Builtin.zeroCells (.agg #[iv 0, iv 0, iv 0, .bool false] : Value).cells (G - (n + 1)) := ⟨_, rfl⟩; have K6 : ROW.size = G * 4 := by
    rw [vJ, Array.size_append, Array.size_append, size_zeroCells, size_zeroCells, List.size_toArray, htl]; show i * 4 + (n + 1 - i) * 4 + (G - (n + 1)) * 4 = _
    rw [<- Nat.add_mul, <- Nat.add_mul]
    congr 1
    omega
  have UZ : ROW.toList.take (i * 4) = (vs.take i).flatten := by
    rw [vJ]; simp only [Array.toList_append, List.append_assoc]; rw [List.take_append_of_le_length (by omega), List.take_of_length_le (by omega)]
  rw [<- vJ] at Jb; clear vJ hG hold; obtain ⟨w1, hw1⟩ := aj (w.drew.alloc (.cells ROW 79)); rw [<- hw1] at Jb; have Jg : Below w.heap.size w w1 := by rw [hw1]; exact (Below.refl _ _).drew.alloc (Nat.le_refl _) _
  have hg1 : w1.heap[w.heap.size]? = some (.cells ROW 79 (0, 0)) := by rw [hw1]; show (w.heap.push _)[w.heap.size]? = _; exact Array.getElem?_push_size
  clear hw1; have hxl := hgx.lt; have DG : ROW.toList.length = G * 4 := by simpa using K6
  obtain ⟨c2, w2, r2, g2, o2⟩ := fy (P := Tryz.prog) w1 29 29 3 79 w.heap.size (i * 4) (n + 1 - i) (G - i) ⟨gx, 0, none⟩ 1 1 4 _ 79 x Tryz.underlying29 (by kernel_rfl) hg1
    (by rw [hx]; simp only [Nat.min_def]; split <;> omega) (fun j v hj => by rw [Addr.add_lit, Nat.zero_add]; exact (hgx.later Jg).cell hj)
    (by rw [hx, K6, <- Nat.succ_mul]; exact Nat.mul_le_mul_right _ (by omega)) hx1
  have Jf : Below w.heap.size w w2 := Jg.trans (o2.below Jg.size fun k e => by rw [e]; exact Nat.le_refl _); have U0 : (over ROW.toList (i * 4) x).length = G * 4 := by rw [dR (by rw [hx, DG, <- Nat.succ_mul]; exact Nat.mul_le_mul_right _ (by omega)), DG]
  obtain ⟨c3, w3, r3, g3, o3⟩ := fy (P := Tryz.prog) w2.drew 29 29 3 79 w.heap.size ((i + 1) * 4) (n + 1 - (i + 1)) (G - (i + 1)) ⟨g, i * 4, none⟩ (n - i) (c - i) 4 _ 79 (vs.drop i).flatten Tryz.underlying29 (by kernel_rfl) g2
    (by rw [hd, hn]; congr 1; simp only [Nat.min_def]; split <;> omega)
    (fun j v hj => by
      rw [Addr.add_lit, World.cell?_of_block (w := w) (Jf.block g hgl)]; exact hsrc j v hj)
    (by show _ <= (over _ _ _).toArray.size
        rw [List.size_toArray, U0, hd, hn]; have : (i + 1) * 4 + (n - i) * 4 = (n + 1) * 4 := by rw [<- Nat.add_mul]; congr 1; omega
        rw [this]; exact Nat.mul_le_mul_right _ Jd)
    (fun v hv => iq ⟨fun u hu => hf.len u (List.mem_of_mem_drop hu), fun u hu => hf.one u (List.mem_of_mem_drop hu)⟩ v hv)
  have U3 : Below w.heap.size w w3 := Jf.trans ((Below.refl _ _).drew.trans (o3.below Jf.size fun k e => by rw [e]; exact Nat.le_refl _)); obtain ⟨hS1, zx⟩ := xQ (cur := ROW.toList) hf.len hx hi (by rw [DG, hn]; exact Nat.mul_le_mul_right _ Jd) UZ; have hle : (vs.take i ++ x :: vs.drop i).length = n + 1 := by simp; omega
  have hrow : w3.ownsRow base 79 4 (.slice (some ⟨w.heap.size, 0, none⟩) (n + 1) G) (vs.take i ++ x :: vs.drop i).length (vs.take i ++ x :: vs.drop i).flatten := by
    rw [hle]; refine ⟨?_, Or.inr ⟨w.heap.size, G, _, rfl, kV, g3, Jd, uf, ?_, ?_⟩⟩
    · rw [<- hS1, List.length_take, zx, DG, hn]
      exact Nat.min_eq_left (Nat.mul_le_mul_right _ Jd)
    · show (over (over _ _ _) _ _).toArray.size = _
      rw [List.size_toArray]; exact zx.trans DG
    show (over (over _ _ _) _ _).take _ = _
    rw [<- hn]; exact hS1
  have YE := ak Jb; have vH := ak r2; have YG := ak r3; have dW := ak hrow; have HB := ak U3; have HN := ak hn; clear hS1 zx hrow U3 Jf Jg U0 DG UZ K6 Jb r2 r3 g2 g3 o2 o3 hg1 hsrc hat htl hd hi0 hz0 hz1 hz2 hct hcs hgx iy hx1 hf hgb hg ho hgl hxl hkk hik; rw [hn] at hc hnc hi hl ⊢; clear hn; have hz1 : ¬ ((1 : Int) = 0) := by omega
  have hz2 : ¬ ((i : Int) = (n : Int)) := by omega
  have hz3 : (c : Int) < (n : Int) + 1 := by omega
  have SQ : c <= 9223372036854775807 := by unfold maxLen at hcm; omega
  have Zn : G <= 9223372036854775807 := by unfold maxLen at uf; omega
  have mixed : Tryz.prog.follows .mixedOrders = true := by kernel_rfl
  have hw1 : IntKind.i64.wrap ((i : Int) + 1) = (i : Int) + 1 := by rw [IntKind.wrap_i64]; omega
  have hb1 : (0 : Int) <= (i : Int) + 1 := by omega
  have hin : i <= n := by omega
  have htn : ((i : Int) + 1).toNat = i + 1 := by omega
  have hb2 : ¬ (G = i + 1) := by omega
  have hb3 : (i : Int) <= (n : Int) + 1 := by omega
  have wJ : (i : Int) <= (n : Int) := by omega
  have hb4 : ¬ (c = i) := by omega
  have rI : ¬ (G = i) := by omega
  go_enter Tryz.func121, Tryz.ntmps121
  go_wp2_with (first
    | (at_builtin; refine Lib.wpList_append_run _ rfl _ _ _ _ rfl _ _ rfl rfl _ _ (YE.o _) ?_)
    | simp only [vH.o])
  go_region_law_o (refine step_copy_runI rfl _ _ 29 29 rfl _ _ (by simp [Act.eval, Act.put]) (by simp [Act.eval, Act.put]) YG.o ?_)
  go_wp2
  go_returns
  exact ⟨_, rfl, dW.o, HB.o, rfl⟩
theorem Kf (v : Value) (i : Nat) (vs : List (List Value)) (x : List Value) (gx : Nat) (base : Nat) (w : World) (kV : base <= w.heap.size) (hf : Fit 4 vs) (hx : x.length = 4) (hx1 : ∀ u ∈ x, u.oneCell' = true) (hi : i <= vs.length)
    (ho : w.ownsRow base 79 4 v vs.length vs.flatten) (iy : w.heap[gx]? = some (.cells x.toArray 79 (0, 0))) (hne : v.ownBlock ≠ some gx) (hl : vs.length <= 100000) :
    Calls Tryz.prog 121 #[v, iv (i : Int), .slice (some ⟨gx, 0, none⟩) 1 1] w fun e w' =>
      ∃ v', e = .returned v' /\ w'.ownsRow base 79 4 v' (vs.take i ++ x :: vs.drop i).length (vs.take i ++ x :: vs.drop i).flatten /\ Only (fun k => some k = v.ownBlock) w w' /\ (v'.ownBlock = v.ownBlock \/ v'.ownBlock = some w.heap.size) := by
  by_cases he : i = vs.length
  · have hgx : Cells w gx 79 x := ⟨_, 0, 0, iy, fun j u hu => by simpa using hu, fun j _ hj => by omega⟩
    have hfx : Fit 4 [x] := ⟨fun u hu => by rw [List.mem_singleton.1 hu]; exact hx, fun u hu => by rw [List.mem_singleton.1 hu]; exact hx1⟩; obtain ⟨v', w', hrun, hrow, hgr, hnew⟩ := aZ zZ w 29 base v vs [x] (some ⟨gx, 0, none⟩) 1 hf hfx ho (cW (by simpa using hgx) hfx.len) (fun e => by cases e) (by simp only [List.length_singleton]; omega) kV; have e1 : vs.take i ++ x :: vs.drop i = vs ++ [x] := by rw [he]; simp
    rw [e1]; obtain ⟨L, hL⟩ := ah (vs ++ [x]); rw [hL] at hrow ⊢; clear hL; obtain ⟨n, hn⟩ := ah vs.length; obtain ⟨A, cA, hv, _, _⟩ := f_ ho hf.len; rw [hn] at he hv hi hl; have dQ : Hid ((Builtin.append_ #[29, 29] 29 #[.slice A n cA, .slice (some ⟨gx, 0, none⟩) 1 1]).run Tryz.prog w = .ok v' w') := ak (by rw [<- hv]; exact hrun); have dW := ak hrow; have HO : Hid (Only (fun k => some k = v.ownBlock) w w') := ak (Only.fP hgr); have Gy := ak hnew; obtain ⟨o, FM⟩ := ah v.ownBlock; rw [FM] at HO Gy ⊢; clear FM hne iy ho hf hx hx1 hfx hgx hrun hrow hgr hnew; subst hv; subst he; clear e1 hn
    go_enter Tryz.func121, Tryz.ntmps121
    go_wp2_with (at_builtin
                 refine Lib.wpList_append_run w rfl _ _ 29 29 rfl _ _ rfl rfl _ _ dQ.o ?_)
    all_goals
      go_returns
      exact ⟨_, rfl, dW.o, HO.o, Gy.o⟩
  have hi' : i < vs.length := by omega
  rcases ho.2 with ⟨_, h2⟩ | ⟨g, cap, cur, h1, h2, h3, h4, h5, h6, h7⟩
  · omega
  subst h1
  by_cases hr : vs.length + 1 <= cap
  · refine (wA g cap i vs x gx base w hf hx hx1 hi' ho hr iy (fun e => hne (by rw [e]; rfl)) hl).mono ?_
    rintro e w' ⟨v', rfl, k1, k2, k3⟩; exact ⟨v', rfl, k1, k2.mono fun k _ e => by rw [e]; rfl, Or.inl k3⟩
  refine (wB g cap i vs x gx base w kV hf hx hx1 hi' ho (by omega) iy hl).mono ?_
  rintro e w' ⟨v', rfl, k1, k2, k3⟩; exact ⟨v', rfl, k1, Only.of_below k2, Or.inr k3⟩
