/-
  Layer 16: Find, New; the document's New, Want, Find. Conditions: none.
-/
import Derived.Test.YteieehlllfnmcaaArr1
namespace Go.Proofs.Yteieehlllfnmcaa.Arr
set_option maxRecDepth 100000
open Go.RowKit Go.Deep Go.Proofs.Yteieehlllfnmcaa.Mem Go.Proofs.Yteieehlllfnmcaa.Spn

/-- Neighbours, as the program's list and as the document says. -/
theorem near_edge (n x m : Int) : decide (x ∈ (nearI n m).map fun k : Nat => (k : Int)) = edgeI n x m := by
  unfold nearI
  cases hb : hasB n m with
  | false =>
    rw [if_neg Bool.false_ne_true]
    have h := of_decide_eq_false hb
    unfold edgeI
    have h2 : decide (x ∈ List.map (fun k : Nat => (k : Int)) []) = false := by simp
    rw [h2]
    symm
    rw [Bool.and_eq_false_iff]
    exact Or.inl (decide_eq_false (by omega))
  | true =>
    rw [if_pos rfl]
    obtain ⟨a, b, rfl, rfl, h1, h2, h3⟩ := has_nat hb
    rw [Int.toNat_natCast, Int.toNat_natCast, (near_eq (by omega) h3 h1 h2).1]
    unfold edgeI
    by_cases hx : 1 ≤ x ∧ x ≤ b
    · obtain ⟨k, rfl⟩ : ∃ k : Nat, x = (k : Int) := ⟨x.toNat, by omega⟩
      have e1 : ((k : Int) ∈ List.map (fun k : Nat => (k : Int)) (R16.filter fun x => edgeB a x && decide (x ≤ b))) ↔ edgeB a k = true := by
        rw [List.mem_map]
        constructor
        · rintro ⟨q, hq, e⟩
          obtain rfl : q = k := by omega
          have := (List.mem_filter.1 hq).2
          rw [Bool.and_eq_true] at this
          exact this.1
        · intro e
          exact ⟨k, List.mem_filter.2 ⟨mem16 (by omega) (by omega), by rw [e, Bool.true_and]; exact decide_eq_true (by omega)⟩, rfl⟩
      rw [show decide ((k : Int) ∈ List.map (fun k : Nat => (k : Int)) (R16.filter fun x => edgeB a x && decide (x ≤ b))) = decide (edgeB a k = true) from decide_eq_decide.2 e1]
      simp only [Int.toNat_natCast]
      rw [show decide (1 ≤ (a : Int) ∧ 1 ≤ (k : Int) ∧ (a : Int) ≤ b ∧ (k : Int) ≤ b ∧ (b : Int) ≤ 16) = true from decide_eq_true (by omega), Bool.true_and, Bool.decide_eq_true]
    · rw [decide_eq_false (fun e => hx (by
        obtain ⟨q, hq, e⟩ := List.mem_map.1 e
        have h4 := (List.mem_filter.1 hq)
        have h5 := h4.2
        rw [Bool.and_eq_true, decide_eq_true_eq] at h5
        have h6 : 1 ≤ q := (List.mem_range'_1.1 h4.1).1
        omega))]
      symm
      rw [Bool.and_eq_false_iff]
      exact Or.inl (decide_eq_false (by omega))
def arFind (gz oz : Nat) (nd nn xz : Int) (bz : Bool) (lz : List Int) : Nat → Value → World → Prop
  | 0, v, _ => v = .pointer (some ⟨gz, oz, none⟩)
  | 1, v, _ => v = .bool false
  | 2, v, _ => v = .bool false
  | 3, v, _ => v = .pointer (some ⟨gz, oz, none⟩)
  | 4, v, _ => v = .pointer (some ⟨gz, oz, none⟩)
  | 5, v, _ => v = .pointer (some ⟨gz, oz, none⟩)
  | 6, v, _ => v = .int .i64 nd
  | 7, v, _ => v = .pointer (some ⟨gz, oz, none⟩)
  | 8, v, _ => v = .pointer (some ⟨gz, oz, none⟩)
  | 9, v, _ => v = .pointer (some ⟨gz, oz + 1, none⟩)
  | 10, v, _ => v = .int .i64 nn
  | 11, v, w => ∃ V0 c0, v = Value.slice V0 lz.length c0 ∧ IRow w V0 lz
  | 12, v, _ => v = .int .i64 xz
  | 13, v, _ => v = .bool bz
  | 14, v, _ => v = .bool (!bz)
  | 15, v, _ => v = .bool (!bz)
  | _, _, _ => True
theorem arFind_later {gz oz : Nat} {nd nn xz : Int} {bz : Bool} {lz : List Int} {j : Nat} {v : Value} {w w' : World} (hb : Below w.heap.size w w') (h : arFind gz oz nd nn xz bz lz j v w) : arFind gz oz nd nn xz bz lz j v w' := by
  match j, h with
  | 0, h | 1, h | 2, h | 3, h | 4, h | 5, h | 6, h | 7, h | 8, h | 9, h | 10, h | 12, h | 13, h | 14, h | 15, h => exact h
  | 11, h =>
    obtain ⟨V0, c0, h1, h2⟩ := h
    exact ⟨V0, c0, h1, h2.later hb⟩
  | _ + 16, _ => exact trivial
theorem Find_any {w : World} {gz oz : Nat} {nd nn tt : Int} (hc : CellsO w gz oz (Ar.vals ⟨nd, nn, tt⟩)) (xz : Int) : Calls Try.prog 18 #[.pointer (some ⟨gz, oz, none⟩), .int .i64 xz] w fun e w' =>
    (edgeI nd xz nn = true ∧ e = .returned (.tuple #[.int .i64 (onI ⟨nd, nn, tt⟩), .bool (homeB ⟨nd, nn, tt⟩), .int .i64 0]) ∧ ∃ w1, Below w.heap.size w w1 ∧ w' = w1.setCell ⟨gz, oz + 2, none⟩ (.int .i64 xz)) ∨
    (edgeI nd xz nn = false ∧ e = .returned (.tuple #[.int .i64 0, .bool false, .int .i64 1]) ∧ Below w.heap.size w w') := by
  have HC := Lib.hid hc
  obtain ⟨lz, hlz⟩ : ∃ l, (nearI nd nn).map (fun k : Nat => (k : Int)) = l := ⟨_, rfl⟩
  have hed := near_edge nd xz nn
  rw [hlz] at hed
  obtain ⟨bz, hbz⟩ : ∃ b, edgeI nd xz nn = b := ⟨_, rfl⟩
  rw [hbz] at hed ⊢
  have hll : lz.length ≤ 1000 := by
    rw [← hlz, List.length_map]
    unfold nearI
    split
    · unfold nearL
      rw [List.length_append]
      have := childL_len nd.toNat nn.toNat
      split <;> simp <;> omega
    · simp
  have HNB : Hid (∀ wi : World, Calls Try.prog 27 #[.int .i64 nd, .int .i64 nn] wi fun e w'' => ∃ V0 c0, e = .returned (.slice V0 lz.length c0) ∧ IRow w'' V0 lz ∧ Below wi.heap.size wi w'') := Lib.hid fun wi => by
    refine (Neighbours_any nd nn wi).mono ?_
    rintro e w'' ⟨v, rfl, hrow, hb⟩
    obtain ⟨A, c, rfl, hir, _, _⟩ := hrow.islice
    rw [hlz] at hir
    exact ⟨A, c, by rw [← hlz, List.length_map], hir, hb⟩
  have HCT : Hid (∀ (wi : World) (V1 : Option Addr) (c1 : Nat), IRow wi V1 lz → Calls Try.prog 26 #[.slice V1 lz.length c1, .int .i64 xz] wi fun e w'' => e = .returned (.bool bz) ∧ w'' = wi) := Lib.hid fun wi V1 c1 h => by
    rw [← hed]
    exact contains_any V1 lz c1 xz wi h hll
  have HTN : Hid (∀ wi : World, Below w.heap.size w wi → Calls Try.prog 25 #[.pointer (some ⟨gz, oz, none⟩), .int .i64 xz] wi fun e w' => e = .returned (.tuple #[.int .i64 (onI ⟨nd, nn, tt⟩), .bool (!homeB ⟨nd, nn, tt⟩)]) ∧ ∃ m, w' = (wi.drewN m).setCell ⟨gz, oz + 2, none⟩ (.int .i64 xz)) := Lib.hid fun wi h => turn_any (hc.later h) xz
  obtain ⟨hh, hhh⟩ : ∃ h, homeB ⟨nd, nn, tt⟩ = h := ⟨_, rfl⟩
  obtain ⟨on, hon⟩ : ∃ h, onI ⟨nd, nn, tt⟩ = h := ⟨_, rfl⟩
  rw [hhh, hon] at HTN
  rw [hhh, hon]
  clear hc hlz hed hbz hll hhh hon
  go_enter Try.func18, Try.ntmps18
  go_upto_region 1 with (fail)
  refine Reg.region_heavy (by kernel_rfl) 15 [15] (arFind gz oz nd nn xz bz lz) (fun a => Below w.heap.size w a) (fun a => Below w.heap.size w a) (fun V => [(some 9, V 0), (some 10, V 1), (some 11, V 2), (some 12, V 3), (some 13, V 4), (some 14, V 5), (some 15, V 6), (some 16, V 7), (some 17, V 8), (some 18, V 9), (some 19, V 10), (some 20, V 11), (some 21, V 12), (some 22, V 13), (some 23, V 14), (some 24, V 15)]) (by kernel_rfl) (by kernel_rfl) (by kernel_rfl) (fun V => rfl) ?_ ?_ ?_
  · exact (Below.refl _ _).drew
  · intro i o ho
    have hi : i < 16 := (Array.getElem?_eq_some_iff.1 ho).1
    rcases i with _ | _ | _ | _ | _ | _ | _ | _ | _ | _ | _ | _ | _ | _ | _ | _ | i
    rotate_right
    · omega
    all_goals obtain rfl := Option.some.inj ho
    all_goals intro ρ wi hE hI hs hd
    all_goals try dsimp only at hI
    · have e0 : ρ (.tmp 0) = .pointer (some ⟨gz, oz, none⟩) := hs 0; exact Reg.gw hI
    · obtain ⟨_, rfl, e9⟩ := hd 0 9; have hc := hE.const; exact Reg.gw hI
    · obtain ⟨_, rfl, e10⟩ := hd 1 10; exact Reg.gw hI
    · have e0 : ρ (.tmp 0) = .pointer (some ⟨gz, oz, none⟩) := hs 0
      refine Reg.yes ?_
      exact Reg.gw hI
    · obtain ⟨_, rfl, e12⟩ := hd 3 12
      refine Reg.yes ?_
      exact Reg.gw hI
    · obtain ⟨_, rfl, e13⟩ := hd 4 13
      refine Reg.yes ?_
      exact Reg.gw hI
    · obtain ⟨_, rfl, e14⟩ := hd 5 14
      refine Reg.yes ?_
      have x0 : wi.cell? ⟨gz, oz, none⟩ = _ := (HC.out.later hI).cell (j := 0) rfl; exact Reg.gw hI
    · have e0 : ρ (.tmp 0) = .pointer (some ⟨gz, oz, none⟩) := hs 0
      refine Reg.yes ?_
      exact Reg.gw hI
    · obtain ⟨_, rfl, e16⟩ := hd 7 16
      refine Reg.yes ?_
      exact Reg.gw hI
    · obtain ⟨_, rfl, e17⟩ := hd 8 17
      refine Reg.yes ?_
      exact Reg.gw hI
    · obtain ⟨_, rfl, e18⟩ := hd 9 18
      refine Reg.yes ?_
      have x0 : wi.cell? ⟨gz, oz + 1, none⟩ = _ := (HC.out.later hI).cell (j := 1) rfl; exact Reg.gw hI
    · obtain ⟨_, rfl, e15⟩ := hd 6 15; obtain ⟨_, rfl, e19⟩ := hd 10 19; have hf := hE.func
      refine Reg.yes ?_
      refine Reg.Gives.call (f := 27) (args := #[.int .i64 nd, .int .i64 nn]) (w' := wi) (by go_simp) ?_
      refine (HNB.out wi).mono ?_
      rintro e w'' ⟨V0, c0, rfl, hp, hb⟩
      exact ⟨_, rfl, ⟨⟨V0, c0, rfl, hp⟩, hI.trans (hb.mono hI.size), fun j u _ _ h => arFind_later hb h⟩⟩
    · have e1 : ρ (.tmp 1) = .int .i64 xz := hs 1
      refine Reg.yes ?_
      exact Reg.gw hI
    · obtain ⟨u20, g20, e20⟩ := hd 11 20; obtain ⟨_, rfl, e21⟩ := hd 12 21; have hf := hE.func
      refine Reg.yes ?_
      obtain ⟨V1, c1, rfl, hp1⟩ := g20
      refine Reg.Gives.call (f := 26) (args := #[.slice V1 lz.length c1, .int .i64 xz]) (w' := wi) (by go_simp) ?_
      refine (HCT.out wi V1 c1 hp1).mono ?_
      rintro e w'' ⟨rfl, rfl⟩
      exact ⟨_, rfl, Reg.OwedH.same hI rfl⟩
    · obtain ⟨_, rfl, e22⟩ := hd 13 22
      refine Reg.yes ?_
      exact Reg.gw hI
    · obtain ⟨_, rfl, e11⟩ := hd 2 11; obtain ⟨_, rfl, e23⟩ := hd 14 23; have hc := hE.const; exact Reg.gw hI
  · intro V wb hV hI
    have hV15 : V 15 = .bool (!bz) := hV 15 (by decide) rfl
    simp only [Reg.putsO, List.foldl_cons, List.foldl_nil, Act.put, List.setIfInBounds_toArray, List.set_cons_succ, List.set_cons_zero, hV15]
    replace hI : (fun a => Below w.heap.size w a) wb := hI
    clear hV hV15
    have HB := Lib.hid hI
    clear hI
    cases bz with
    | true =>
      simp only [Bool.not_true]
      go_wp2_with fail
      refine (HTN.out wb HB.out).mono ?_
      rintro e w2 ⟨rfl, m, rfl⟩
      go_wp2_with fail
      go_returns
      exact ⟨rfl, _, below_drewN HB.out m, rfl⟩
    | false =>
      simp only [Bool.not_false]
      go_wp2_with fail
      go_returns
      exact ⟨rfl, HB.out⟩
/-- What New answers: the arrow, if there is one. -/
def newAr (n m o : Int) : Option Ar := if towI n (pathI n o m) = 0 then none else some ⟨n, m, towI n (pathI n o m)⟩
def arV : Option Ar → Value
  | none => .agg #[.int .i64 0, .int .i64 0, .int .i64 0]
  | some a => .agg #[.int .i64 a.node, .int .i64 a.nodes, .int .i64 a.tgt]
theorem New_any (n m o : Int) (w : World) : Calls Try.prog 21 #[.int .i64 n, .int .i64 m, .int .i64 o] w fun e w' => e = .returned (.tuple #[arV (newAr n m o), .int .i64 (if (newAr n m o).isNone then 1 else 0)]) ∧ Below w.heap.size w w' := by
  unfold newAr
  have HT : Hid (∀ wi, Calls Try.prog 28 #[.int .i64 n, .int .i64 o, .int .i64 m] wi fun e w' => e = .returned (.int .i64 (towI n (pathI n o m))) ∧ Below wi.heap.size wi w') := Lib.hid fun wi => Toward_any n o m wi
  obtain ⟨t, ht⟩ : ∃ t, towI n (pathI n o m) = t := ⟨_, rfl⟩
  rw [ht] at HT ⊢
  clear ht
  obtain ⟨r, hr⟩ : ∃ r, (if t = 0 then none else some (⟨n, m, t⟩ : Ar)) = r := ⟨_, rfl⟩
  rw [hr]
  have HR := Lib.hid hr
  clear hr
  obtain ⟨w0, hw0⟩ : ∃ W, W = w.alloc (.cells #[.int .i64 0, .int .i64 0, .int .i64 0] 51) := ⟨_, rfl⟩
  have hb0 : Below w.heap.size w w0 := by rw [hw0]; exact below_alloc _ _
  have hc0 : Cells w0 w.heap.size 51 [.int .i64 0, .int .i64 0, .int .i64 0] := by rw [hw0]; exact cells_new _ _ _ _ rfl
  go_enter Try.func21, Try.ntmps21
  go_upto_region 1 with (fail)
  rw [← hw0]
  clear hw0
  have HB0 := Lib.hid hb0
  have HC0 := Lib.hid hc0
  clear hb0 hc0
  go_wp2_with fail
  refine (HT.out w0).mono ?_
  rintro e w1 ⟨rfl, hb⟩
  have HB := Lib.hid (HB0.out.trans (hb.mono HB0.out.size))
  have hc1 := HC0.out.later hb
  have HC1 := Lib.hid hc1
  have c0 := hc1.cell (j := 0) rfl
  have c1 := hc1.cell (j := 1) rfl
  have c2 := hc1.cell (j := 2) rfl
  have f0 := hc1.frozen (j := 0) (by simp)
  have f1 := hc1.frozen (j := 1) (by simp)
  have f2 := hc1.frozen (j := 2) (by simp)
  clear hb hc1 HT HB0 HC0
  by_cases h0 : t = 0
  · subst h0
    obtain rfl : r = none := HR.out.symm.trans (if_pos rfl)
    have HF := ((HC1.out.set_ 0 (.int .i64 0)).set_ 1 (.int .i64 0)).set_ 2 (.int .i64 0)
    go_wp2_with fail
    refine bodyPost_ret (v := .tuple #[.agg #[.int .i64 0, .int .i64 0, .int .i64 0], .int .i64 1]) ?_ rfl ?_
    · exact (ret_cell_tmp (p := 6) (q := 7) (ty := 51) (by rfl) _ HF _ (by rfl) Try.underlying51 rfl (by kernel_rfl)).trans (by rfl)
    · exact ⟨rfl, ((HB.out.setCell (Nat.le_refl _) _).setCell (Nat.le_refl _) _).setCell (Nat.le_refl _) _⟩
  · obtain rfl : r = some ⟨n, m, t⟩ := HR.out.symm.trans (if_neg h0)
    have e1 : (t == 0) = false := by simpa using h0
    clear h0
    have HF := ((HC1.out.set_ 0 (.int .i64 n)).set_ 1 (.int .i64 m)).set_ 2 (.int .i64 t)
    go_wp2_with fail
    refine bodyPost_ret (v := .tuple #[.agg #[.int .i64 n, .int .i64 m, .int .i64 t], .int .i64 0]) ?_ rfl ?_
    · exact (ret_cell_tmp (p := 6) (q := 7) (ty := 51) (by rfl) _ HF _ (by rfl) Try.underlying51 rfl (by kernel_rfl)).trans (by rfl)
    · exact ⟨rfl, ((HB.out.setCell (Nat.le_refl _) _).setCell (Nat.le_refl _) _).setCell (Nat.le_refl _) _⟩
theorem path_pos {n o m : Int} {l : List Nat} (h : pathI n o m = l) : (l ≠ [] → 1 ≤ n) ∧ ∀ x ∈ l, 1 ≤ x := by
  unfold pathI at h
  split at h
  · rename_i h1
    rw [Bool.and_eq_true] at h1
    obtain ⟨a, b, rfl, rfl, k1, k2, k3⟩ := has_nat h1.1
    obtain ⟨c, d, rfl, hd, q1, q2, q3⟩ := has_nat h1.2
    rw [Int.toNat_natCast, Int.toNat_natCast] at h
    refine ⟨fun _ => by omega, fun x hx => ?_⟩
    rw [← h] at hx
    exact ((AB.of k1 (by omega) q1 (by omega)).mem x hx).1
  · subst h
    exact ⟨fun e => absurd rfl e, fun x hx => by cases hx⟩
theorem RNew_any (n m o : Int) (w : World) : Calls Try.prog 9 #[.int .i64 n, .int .i64 m, .int .i64 o] w fun e w' => e = .returned (.tuple #[arV (newAr n m o), .bool (newAr n m o).isSome]) ∧ Below w.heap.size w w' := by
  unfold newAr
  have HP : Hid (∀ wi, Calls Try.prog 22 #[.int .i64 n, .int .i64 o, .int .i64 m] wi fun e w' => ∃ v, e = .returned v ∧ NR wi.heap.size w' v (pathI n o m) ∧ Below wi.heap.size wi w') := Lib.hid fun wi => RPath_any n o m wi
  obtain ⟨l, hl⟩ : ∃ l, pathI n o m = l := ⟨_, rfl⟩
  have hpp := path_pos hl
  rw [hl] at HP ⊢
  clear hl
  obtain ⟨r, hr⟩ : ∃ r, (if towI n l = 0 then none else some (⟨n, m, towI n l⟩ : Ar)) = r := ⟨_, rfl⟩
  rw [hr]
  obtain ⟨w0, hw0⟩ : ∃ W, W = w.alloc (.cells #[.int .i64 0, .int .i64 0, .int .i64 0] 33) := ⟨_, rfl⟩
  have hb0 : Below w.heap.size w w0 := by rw [hw0]; exact below_alloc _ _
  have hc0 : Cells w0 w.heap.size 33 [.int .i64 0, .int .i64 0, .int .i64 0] := by rw [hw0]; exact cells_new _ _ _ _ rfl
  match l, HP, hpp, hr with
  | [], HP, _, hr =>
    obtain rfl : r = none := hr.symm.trans (if_pos rfl)
    clear hr
    go_enter Try.func9, Try.ntmps9
    go_upto_region 1 with (fail)
    rw [← hw0]
    clear hw0
    have HB0 := Lib.hid hb0
    have HC0 := Lib.hid hc0
    clear hb0 hc0
    go_wp2_with fail
    refine (HP.out w0).mono ?_
    rintro e w1 ⟨v, rfl, hrow, hb⟩
    obtain ⟨A, c, rfl, _⟩ := hrow.islice
    have HB := Lib.hid (HB0.out.trans (hb.mono HB0.out.size))
    have hc1 := HC0.out.later hb
    have HC1 := Lib.hid hc1
    have c0 := hc1.cell (j := 0) rfl
    have c1 := hc1.cell (j := 1) rfl
    have c2 := hc1.cell (j := 2) rfl
    have f0 := hc1.frozen (j := 0) (by simp)
    have f1 := hc1.frozen (j := 1) (by simp)
    have f2 := hc1.frozen (j := 2) (by simp)
    clear hb hc1 HP HB0 HC0 hrow
    have HF := ((HC1.out.set_ 0 (.int .i64 0)).set_ 1 (.int .i64 0)).set_ 2 (.int .i64 0)
    go_wp2_with fail
    refine bodyPost_ret (v := .tuple #[.agg #[.int .i64 0, .int .i64 0, .int .i64 0], .bool false]) ?_ rfl ?_
    · exact (ret_cell_tmp (p := 6) (q := 7) (ty := 33) (by rfl) _ HF _ (by rfl) Try.underlying33 rfl (by kernel_rfl)).trans (by rfl)
    · exact ⟨rfl, ((HB.out.setCell (Nat.le_refl _) _).setCell (Nat.le_refl _) _).setCell (Nat.le_refl _) _⟩
  | [x], HP, hpp, hr =>
    have hn1 := hpp.1 (by simp)
    obtain rfl : r = some ⟨n, m, n⟩ := hr.symm.trans (if_neg (show ¬ n = 0 by omega))
    clear hr hpp hn1
    go_enter Try.func9, Try.ntmps9
    go_upto_region 1 with (fail)
    rw [← hw0]
    clear hw0
    have HB0 := Lib.hid hb0
    have HC0 := Lib.hid hc0
    clear hb0 hc0
    go_wp2_with fail
    refine (HP.out w0).mono ?_
    rintro e w1 ⟨v, rfl, hrow, hb⟩
    obtain ⟨A, c, rfl, _⟩ := hrow.islice
    have HB := Lib.hid (HB0.out.trans (hb.mono HB0.out.size))
    have hc1 := HC0.out.later hb
    have HC1 := Lib.hid hc1
    have c0 := hc1.cell (j := 0) rfl
    have c1 := hc1.cell (j := 1) rfl
    have c2 := hc1.cell (j := 2) rfl
    have f0 := hc1.frozen (j := 0) (by simp)
    have f1 := hc1.frozen (j := 1) (by simp)
    have f2 := hc1.frozen (j := 2) (by simp)
    clear hb hc1 HP HB0 HC0 hrow
    have HF := ((HC1.out.set_ 0 (.int .i64 n)).set_ 1 (.int .i64 m)).set_ 2 (.int .i64 n)
    go_wp2_with fail
    refine bodyPost_ret (v := .tuple #[.agg #[.int .i64 n, .int .i64 m, .int .i64 n], .bool true]) ?_ rfl ?_
    · exact (ret_cell_tmp (p := 6) (q := 7) (ty := 33) (by rfl) _ HF _ (by rfl) Try.underlying33 rfl (by kernel_rfl)).trans (by rfl)
    · exact ⟨rfl, ((HB.out.setCell (Nat.le_refl _) _).setCell (Nat.le_refl _) _).setCell (Nat.le_refl _) _⟩
  | x :: y :: q, HP, hpp, hr =>
    have hy1 := hpp.2 y (by simp)
    obtain rfl : r = some ⟨n, m, (y : Int)⟩ := hr.symm.trans (if_neg (show ¬ (y : Int) = 0 by omega))
    clear hr hpp hy1
    go_enter Try.func9, Try.ntmps9
    go_upto_region 1 with (fail)
    rw [← hw0]
    clear hw0
    have HB0 := Lib.hid hb0
    have HC0 := Lib.hid hc0
    clear hb0 hc0
    go_wp2_with fail
    refine (HP.out w0).mono ?_
    rintro e w1 ⟨v, rfl, hrow, hb⟩
    obtain ⟨A, c, rfl, hi, _⟩ := hrow.islice
    obtain ⟨g, off, rfl, hcc⟩ := hi 1 (by simp)
    have hc2 : w1.cell? ⟨g, off + 1, none⟩ = some (.int .i64 (y : Int)) := hcc
    obtain ⟨k, hk⟩ : ∃ k, (x :: y :: q).length = k := ⟨_, rfl⟩
    have hk2 : 2 ≤ k := by rw [← hk]; simp
    rw [hk]
    have e1 : ((k : Int) == 0) = false := by simp; omega
    have e2 : ((k : Int) == 1) = false := by simp; omega
    have HB := Lib.hid (HB0.out.trans (hb.mono HB0.out.size))
    have hc1 := HC0.out.later hb
    have HC1 := Lib.hid hc1
    have c0 := hc1.cell (j := 0) rfl
    have c1 := hc1.cell (j := 1) rfl
    have c2 := hc1.cell (j := 2) rfl
    have f0 := hc1.frozen (j := 0) (by simp)
    have f1 := hc1.frozen (j := 1) (by simp)
    have f2 := hc1.frozen (j := 2) (by simp)
    clear hb hc1 HP HB0 HC0 hrow hi hcc hk
    have HF := ((HC1.out.set_ 0 (.int .i64 n)).set_ 1 (.int .i64 m)).set_ 2 (.int .i64 (y : Int))
    go_wp2_with fail
    refine bodyPost_ret (v := .tuple #[.agg #[.int .i64 n, .int .i64 m, .int .i64 (y : Int)], .bool true]) ?_ rfl ?_
    · exact (ret_cell_tmp (p := 6) (q := 7) (ty := 33) (by rfl) _ HF _ (by rfl) Try.underlying33 rfl (by kernel_rfl)).trans (by rfl)
    · exact ⟨rfl, ((HB.out.setCell (Nat.le_refl _) _).setCell (Nat.le_refl _) _).setCell (Nat.le_refl _) _⟩
section
variable {w : World} {g o : Nat} {nd nn tt : Int}
theorem RWant_any (hc : CellsO w g o (Ar.vals ⟨nd, nn, tt⟩)) : Calls Try.prog 11 #[.pointer (some ⟨g, o, none⟩)] w fun e w' => e = .returned (.int .i64 (onI ⟨nd, nn, tt⟩)) ∧ w' = w.setCell ⟨g, o + 2, none⟩ (.int .i64 nd) := by
  have c0 : w.cell? ⟨g, o, none⟩ = _ := hc.cell (j := 0) rfl
  have c2 : w.cell? ⟨g, o + 2, none⟩ = _ := hc.cell (j := 2) rfl
  have f2 : w.frozen? ⟨g, o + 2, none⟩ = false := hc.frozen (j := 2) (by simp [Ar.vals])
  unfold onI homeB
  dsimp only
  obtain ⟨b, hb⟩ : ∃ b, (tt == nd) = b := ⟨_, rfl⟩
  rw [hb]
  clear hc
  cases b
  all_goals
  · go_enter Try.func11, Try.ntmps11
    go_wp2_with fail
    go_returns
    exact ⟨rfl, rfl⟩
theorem RFind_any (hc : CellsO w g o (Ar.vals ⟨nd, nn, tt⟩)) (x : Int) : Calls Try.prog 13 #[.pointer (some ⟨g, o, none⟩), .int .i64 x] w fun e w' =>
    (edgeI nd x nn = true ∧ e = .returned (.tuple #[.int .i64 (onI ⟨nd, nn, tt⟩), .bool true]) ∧ ∃ m, w' = (w.drewN m).setCell ⟨g, o + 2, none⟩ (.int .i64 x)) ∨
    (edgeI nd x nn = false ∧ e = .returned (.tuple #[.int .i64 0, .bool false]) ∧ ∃ m, w' = w.drewN m) := by
  have c0 : w.cell? ⟨g, o, none⟩ = _ := hc.cell (j := 0) rfl
  have c1 : w.cell? ⟨g, o + 1, none⟩ = _ := hc.cell (j := 1) rfl
  have c2 : w.cell? ⟨g, o + 2, none⟩ = _ := hc.cell (j := 2) rfl
  have f2 : w.frozen? ⟨g, o + 2, none⟩ = false := hc.frozen (j := 2) (by simp [Ar.vals])
  unfold onI homeB
  dsimp only
  have HE : Hid (∀ wi, Calls Try.prog 24 #[.int .i64 nd, .int .i64 x, .int .i64 nn] wi fun e w' => e = .returned (.bool (edgeI nd x nn)) ∧ w' = wi) := Lib.hid fun wi => Edge_any nd x nn wi
  obtain ⟨d, hd⟩ : ∃ b, edgeI nd x nn = b := ⟨_, rfl⟩
  obtain ⟨b, hb⟩ : ∃ b, (tt == nd) = b := ⟨_, rfl⟩
  rw [hd] at HE ⊢
  rw [hb]
  clear hc hd
  cases d
  all_goals
  · cases b
    all_goals
    · go_enter Try.func13, Try.ntmps13
      go_wp2_with fail
      go_quiet ((first | (go_at_call 24; exact Calls.quiet_of_same (HE.out _))))
      go_wp2_with fail
      go_returns
      exact ⟨rfl, _, rfl⟩
end
end Go.Proofs.Yteieehlllfnmcaa.Arr
