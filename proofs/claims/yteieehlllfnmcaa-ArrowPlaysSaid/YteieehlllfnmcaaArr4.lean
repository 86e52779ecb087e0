/-
  Layer 16: NewBook. Conditions: none.
-/
import Derived.Test.YteieehlllfnmcaaArr3
namespace Go.Proofs.Yteieehlllfnmcaa.Arr
set_option maxRecDepth 100000
open Go.RowKit Go.Deep Go.Proofs.Yteieehlllfnmcaa.Mem Go.Proofs.Yteieehlllfnmcaa.Spn

theorem map_take {α β : Type} (f : α → β) (l : List α) {k : Nat} (hk : k < l.length) : (l.take (k + 1)).map f = (l.take k).map f ++ [f l[k]] := by
  rw [List.take_succ_eq_append_getElem hk, List.map_append]
  rfl
set_option maxHeartbeats 1000000 in
theorem NewBook_any (nd nn : Int) (A : Option Addr) (os : List Int) (c : Nat) (w : World) (h : IRow w A os) (hl : os.length ≤ 1000) :
    Calls Try.prog 8 #[.int .i64 nd, .int .i64 nn, .slice A os.length c] w fun e w' =>
      (∃ l bb V vc, 1 ≤ os.length ∧ os.length ≤ 16 ∧ os.map (newAr nd nn) = l.map some ∧ e = .returned (.tuple #[.pointer (some ⟨bb, 0, none⟩), .int .i64 0]) ∧ Bk w.heap.size w' bb l V vc ∧ Below w.heap.size w w') ∨
      ((¬ (1 ≤ os.length ∧ os.length ≤ 16) ∨ none ∈ os.map (newAr nd nn)) ∧ e = .returned (.tuple #[.pointer none, .int .i64 1]) ∧ Below w.heap.size w w') := by
  have HI := Lib.hid h
  obtain ⟨n, hn⟩ : ∃ n, os.length = n := ⟨_, rfl⟩
  rw [hn] at hl ⊢
  have HN := Lib.hid hn
  clear h hn
  by_cases h1 : n < 1
  · obtain rfl : n = 0 := by omega
    go_enter Try.func8, Try.ntmps8
    go_wp2_with fail
    go_returns
    exact Or.inr ⟨Or.inl (by omega), rfl, Below.refl _ _⟩
  by_cases h16 : 16 < n
  · have e1 : decide ((n : Int) < 1) = false := decide_eq_false (by omega)
    have e2 : decide ((n : Int) > 16) = true := decide_eq_true (by omega)
    go_enter Try.func8, Try.ntmps8
    go_wp2_with fail
    go_returns
    exact Or.inr ⟨Or.inl (by omega), rfl, Below.refl _ _⟩
  have e1 : decide ((n : Int) < 1) = false := decide_eq_false (by omega)
  have e2 : decide ((n : Int) > 16) = false := decide_eq_false (by omega)
  obtain ⟨w0, hw0⟩ : ∃ W, W = w.alloc (.cells #[.slice none 0 0] 61) := ⟨_, rfl⟩
  have hb0 : Below w.heap.size w w0 := by rw [hw0]; exact below_alloc _ _
  obtain ⟨bb, hbb⟩ : ∃ q, w.heap.size = q := ⟨_, rfl⟩
  have hk0 : Bk w.heap.size w0 bb [] none 0 := by
    rw [hw0, ← hbb]
    exact ⟨cells_new _ _ _ _ rfl, OwnG.nil _ _ _ _ _, fun k e => (by cases e), Nat.le_refl _⟩
  rw [hbb] at hb0 hk0 ⊢
  go_enter Try.func8, Try.ntmps8
  go_upto_region 4 with (fail)
  rw [← hw0]
  have HB0 := Lib.hid hb0
  have HK0 := Lib.hid hk0
  have hbz : bb ≤ w0.heap.size := by rw [← hbb]; exact hb0.size
  have HBZ := Lib.hid hbz
  clear hw0 hb0 hk0 e1 e2 hbz
  go_wp2_with fail
  go_loopw [25] (fun i wr => ∃ (k : Nat) (l : List Ar) (V : Option Addr) (vc : Nat), i = .int .i64 (k : Int) ∧ k ≤ n ∧ Hid ((os.take k).map (newAr nd nn) = l.map some) ∧ Hid (Bk bb wr bb l V vc) ∧ Hid (Below bb w wr)) (fun i _ => n - (intOf i).toNat)
  case atStart => exact ⟨0, [], none, 0, rfl, Nat.zero_le _, Lib.hid rfl, HK0, HB0⟩
  case round =>
    obtain ⟨k, l, V1, vc1, rfl, hk, HM, HK, HB⟩ := hrel
    by_cases hlt : k < n
    · have hkl : k < os.length := by rw [HN.out]; exact hlt
      obtain ⟨g, off, rfl, hc⟩ := (show IRow w A os from HI.out) k hkl
      obtain ⟨x, hx⟩ : ∃ x, os[k] = x := ⟨_, rfl⟩
      have HMT := Lib.hid (map_take (newAr nd nn) os hkl)
      rw [hx] at hc HMT
      have hcr : wr.cell? ⟨g, off + k, none⟩ = some (.int .i64 x) := (HB.out.cell (by rw [← hbb]; exact block_of_cell hc)).trans hc
      have HNW : Hid (∀ wi, Calls Try.prog 21 #[.int .i64 nd, .int .i64 nn, .int .i64 x] wi fun e w' => e = .returned (.tuple #[.agg #[.int .i64 (arA (newAr nd nn x)).node, .int .i64 (arA (newAr nd nn x)).nodes, .int .i64 (arA (newAr nd nn x)).tgt], .int .i64 (if (newAr nd nn x).isNone then 1 else 0)]) ∧ Below wi.heap.size wi w') := Lib.hid fun wi => by
        have := New_any nd nn x wi
        rw [arV_eq] at this
        exact this
      have HXM : Hid (x ∈ os) := Lib.hid (by rw [← hx]; exact List.getElem_mem hkl)
      obtain ⟨r, hr⟩ : ∃ r, newAr nd nn x = r := ⟨_, rfl⟩
      rw [hr] at HNW HMT
      have HR := Lib.hid hr
      clear hx hc hkl hr hbb
      cases r with
      | none =>
        go_wp2_with fail
        refine (HNW.out wr).mono ?_
        rintro e w1 ⟨rfl, hb⟩
        have HB1 := Lib.hid (HB.out.trans (hb.mono (Nat.le_of_lt HK.out.box.lt)))
        have HL1 : Hid (bb ≤ w1.heap.size) := Lib.hid (Nat.le_trans (Nat.le_of_lt HK.out.box.lt) hb.size)
        clear hb HNW
        go_wp2_with fail
        go_returns
        exact Or.inr ⟨Or.inr (List.mem_map.2 ⟨x, HXM.out, HR.out⟩), rfl, HB1.out.alloc HL1.out _⟩
      | some a =>
        rw [show arA (some a) = a from rfl] at HNW
        go_wp2_with fail
        refine (HNW.out wr).mono ?_
        rintro e w1 ⟨rfl, hb⟩
        have hk1 := HK.out.later hb
        have hb1 := HB.out.trans (hb.mono (Nat.le_of_lt HK.out.box.lt))
        obtain ⟨w3, hw3⟩ : ∃ W, W = w1.alloc (.cells #[.int .i64 a.node, .int .i64 a.nodes, .int .i64 a.tgt] 51) := ⟨_, rfl⟩
        have hb3 : Below w1.heap.size w1 w3 := by rw [hw3]; exact below_alloc _ _
        have hcx : Cells w3 w1.heap.size 51 (Ar.vals a) := by rw [hw3]; exact cells_new _ _ _ _ rfl
        obtain ⟨ab, hab⟩ : ∃ q, w1.heap.size = q := ⟨_, rfl⟩
        have HBK := Lib.hid (hk1.later hb3)
        have HCX : Hid (Cells w3 ab 51 (Ar.vals a)) := Lib.hid (by rw [← hab]; exact hcx)
        have HB3 := Lib.hid (hb1.trans (hb3.mono (Nat.le_trans (Nat.le_of_lt HK.out.box.lt) hb.size)))
        have HBW : Hid (bb ≤ w3.heap.size) := Lib.hid (by have := HK.out.box.lt; have := hb.size; have := hb3.size; omega)
        obtain ⟨n1, hn1⟩ : ∃ q, l.length = q := ⟨_, rfl⟩
        have HN1 := Lib.hid hn1
        have HFL : Hid (l.length ≤ 1000) := Lib.hid (by have := congrArg List.length HM.out; simp only [List.length_map, List.length_take] at this; omega)
        clear hb hk1 hb1 hb3 hcx hn1
        go_upto_region 10 with (fail)
        rw [← hw3]
        clear hw3 hab HNW
        refine Reg.region_inv (by kernel_rfl) (fun i => ([some (.pointer (some ⟨bb, 0, none⟩)), some (.pointer (some ⟨bb, 0, none⟩)), some (.pointer (some ⟨bb, 0, none⟩)), some (.pointer (some ⟨bb, 0, none⟩)), some (.slice V1 n1 vc1), some (.agg #[.int .i64 a.node, .int .i64 a.nodes, .int .i64 a.tgt]), none, none, some (.pointer (some ⟨bb, 0, none⟩)), some (.pointer (some ⟨bb, 0, none⟩)), none] : List (Option Value)).getD i none) (fun D V W => (D 7 = false → Below w3.heap.size w3 W ∧ (D 6 = true → ∃ kz, V 6 = Value.slice (some ⟨kz, 0, none⟩) 1 1 ∧ Cells W kz 51 (Ar.vals a))) ∧ (D 7 = true → D 10 = false → BPend bb w3 V1 l a (V 7) W) ∧ (D 10 = true → ∃ V9 c9, Bk bb W bb (l ++ [a]) V9 c9 ∧ Below bb w3 W)) (fun V => [(some 39, V 0), (some 40, V 1), (some 41, V 2), (some 42, V 3), (some 43, V 4), (some 44, V 5), (some 45, V 6), (some 46, V 7), (some 47, V 8), (some 48, V 9), (none, V 10)]) (by kernel_rfl) (by kernel_rfl) (fun V => rfl) ?_ ?_ ?_
        · intro V
          exact ⟨fun _ => ⟨(Below.refl _ _).drew, fun e => (by cases e)⟩, fun e => (by cases e), fun e => (by cases e)⟩
        · intro i o ho
          have hi : i < 11 := (Array.getElem?_eq_some_iff.1 ho).1
          rcases i with _ | _ | _ | _ | _ | _ | _ | _ | _ | _ | _ | i
          rotate_right
          · omega
          all_goals obtain rfl := Option.some.inj ho
          all_goals intro D V ρ wi hE hI hDi hT hF hs hd hk
          · have e8 : ρ (.tmp 8) = .pointer (some ⟨bb, 0, none⟩) := hs 8; clear hT hF hk
            exact Reg.Gives.value (v := .pointer (some ⟨bb, 0, none⟩)) (w' := wi) (by go_simp) ⟨fun x h => Option.some.inj h, hI⟩
          · have e8 : ρ (.tmp 8) = .pointer (some ⟨bb, 0, none⟩) := hs 8; clear hT hF hk
            exact Reg.Gives.value (v := .pointer (some ⟨bb, 0, none⟩)) (w' := wi) (by go_simp) ⟨fun x h => Option.some.inj h, hI⟩
          · have e40 : ρ (.tmp 40) = .pointer (some ⟨bb, 0, none⟩) := (hd 1 40).trans (hk 1 _ rfl); clear hT hF hk
            exact Reg.Gives.value (v := .pointer (some ⟨bb, 0, none⟩)) (w' := wi) (by go_simp) ⟨fun x h => Option.some.inj h, hI⟩
          · have e41 : ρ (.tmp 41) = .pointer (some ⟨bb, 0, none⟩) := (hd 2 41).trans (hk 2 _ rfl); clear hT hF hk
            exact Reg.Gives.value (v := .pointer (some ⟨bb, 0, none⟩)) (w' := wi) (by go_simp) ⟨fun x h => Option.some.inj h, hI⟩
          · have e42 : ρ (.tmp 42) = .pointer (some ⟨bb, 0, none⟩) := (hd 3 42).trans (hk 3 _ rfl); have hD7 : D 7 = false := hF 1 7; clear hT hF; have hL : Below w3.heap.size w3 wi := (hI.1 hD7).1; have x0 : wi.cell? ⟨bb, 0, none⟩ = _ := (HBK.out.box.later hL).cell (j := 0) rfl
            rw [HN1.out] at x0
            exact Reg.Gives.value (v := .slice V1 n1 vc1) (w' := wi) (by go_simp) ⟨fun x h => Option.some.inj h, hI⟩
          · have e11 : ρ (.tmp 11) = .pointer (some ⟨ab, 0, none⟩) := hs 11; have hD7 : D 7 = false := hF 2 7; clear hT hF; have hL : Below w3.heap.size w3 wi := (hI.1 hD7).1; have hq := HCX.out.later hL; have y0 := hq.cell (j := 0) rfl; have y1 := hq.cell (j := 1) rfl; have y2 := hq.cell (j := 2) rfl
            exact Reg.Gives.value (v := .agg #[.int .i64 a.node, .int .i64 a.nodes, .int .i64 a.tgt]) (w' := wi) (by go_simp) ⟨fun x h => Option.some.inj h, hI⟩
          · have e44 : ρ (.tmp 44) = .agg #[.int .i64 a.node, .int .i64 a.nodes, .int .i64 a.tgt] := (hd 5 44).trans (hk 5 _ rfl); have hD7 : D 7 = false := hF 1 7; have hD10 : D 10 = false := hF 1 10; clear hT hF; have h1 := hI.1 hD7; have hal := below_alloc wi (.cells #[.int .i64 a.node, .int .i64 a.nodes, .int .i64 a.tgt] 51)
            exact Reg.Gives.value (v := .slice (some ⟨wi.heap.size, 0, none⟩) 1 1) (w' := wi.alloc (.cells #[.int .i64 a.node, .int .i64 a.nodes, .int .i64 a.tgt] 51)) (by go_simp) ⟨fun x h => (by cases h), by show ((D 7) = false → Below w3.heap.size w3 (wi.alloc (.cells #[.int .i64 a.node, .int .i64 a.nodes, .int .i64 a.tgt] 51)) ∧ (true = true → ∃ kz, (Value.slice (some ⟨wi.heap.size, 0, none⟩) 1 1) = Value.slice (some ⟨kz, 0, none⟩) 1 1 ∧ Cells (wi.alloc (.cells #[.int .i64 a.node, .int .i64 a.nodes, .int .i64 a.tgt] 51)) kz 51 (Ar.vals a))) ∧ ((D 7) = true → (D 10) = false → BPend bb w3 V1 l a (V 7) (wi.alloc (.cells #[.int .i64 a.node, .int .i64 a.nodes, .int .i64 a.tgt] 51))) ∧ ((D 10) = true → ∃ V9 c9, Bk bb (wi.alloc (.cells #[.int .i64 a.node, .int .i64 a.nodes, .int .i64 a.tgt] 51)) bb (l ++ [a]) V9 c9 ∧ Below bb w3 (wi.alloc (.cells #[.int .i64 a.node, .int .i64 a.nodes, .int .i64 a.tgt] 51))); exact ⟨fun _ => ⟨h1.1.trans (hal.mono h1.1.size), fun _ => ⟨_, rfl, cells_new _ _ _ _ rfl⟩⟩, fun e => (by rw [hD7] at e; cases e), fun e => (by rw [hD10] at e; cases e)⟩⟩
          · have e43 : ρ (.tmp 43) = .slice V1 n1 vc1 := (hd 4 43).trans (hk 4 _ rfl); have e45 : ρ (.tmp 45) = V 6 := hd 6 45; have hD6 : D 6 = true := hT 1 6; have hD7 : D 7 = false := hDi; have hD10 : D 10 = false := hF 1 10; clear hT hF; have h1 := hI.1 hD7; obtain ⟨kk, hv2, hcs⟩ := h1.2 hD6
            rw [hv2] at e45
            obtain ⟨v2, w5, hrun, hpd⟩ := HBK.out.grow HBW.out h1.1 hcs HFL.out
            rw [HN1.out] at hrun
            exact Reg.Gives.value (v := v2) (w' := w5) (Reg.exec_append rfl e43 e45 hrun) ⟨fun x h => (by cases h), by show (true = false → Below w3.heap.size w3 w5 ∧ ((D 6) = true → ∃ kz, (V 6) = Value.slice (some ⟨kz, 0, none⟩) 1 1 ∧ Cells w5 kz 51 (Ar.vals a))) ∧ (true = true → (D 10) = false → BPend bb w3 V1 l a v2 w5) ∧ ((D 10) = true → ∃ V9 c9, Bk bb w5 bb (l ++ [a]) V9 c9 ∧ Below bb w3 w5); exact ⟨fun e => (by cases e), fun _ _ => hpd, fun e => (by rw [hD10] at e; cases e)⟩⟩
          · have e39 : ρ (.tmp 39) = .pointer (some ⟨bb, 0, none⟩) := (hd 0 39).trans (hk 0 _ rfl); clear hT hF hk
            exact Reg.Gives.value (v := .pointer (some ⟨bb, 0, none⟩)) (w' := wi) (by go_simp) ⟨fun x h => Option.some.inj h, hI⟩
          · have e47 : ρ (.tmp 47) = .pointer (some ⟨bb, 0, none⟩) := (hd 8 47).trans (hk 8 _ rfl); clear hT hF hk
            exact Reg.Gives.value (v := .pointer (some ⟨bb, 0, none⟩)) (w' := wi) (by go_simp) ⟨fun x h => Option.some.inj h, hI⟩
          · have e48 : ρ (.tmp 48) = .pointer (some ⟨bb, 0, none⟩) := (hd 9 48).trans (hk 9 _ rfl); have e46 : ρ (.tmp 46) = V 7 := hd 7 46; have hD7 : D 7 = true := hT 1 7; have hD10 : D 10 = false := hDi; clear hT hF; have h2 := hI.2.1 hD7 hD10; obtain ⟨A2, n2, c2, hv2, x1, x2, hfin⟩ := h2.put HBK.out; have e9 := e46
            rw [hv2] at e9
            clear e46
            exact Reg.Gives.skip (w' := wi.setCell ⟨bb, 0, none⟩ (.slice A2 n2 c2)) (by go_simp) ⟨fun x h => (by cases h), by show ((D 7) = false → Below w3.heap.size w3 (wi.setCell ⟨bb, 0, none⟩ (.slice A2 n2 c2)) ∧ ((D 6) = true → ∃ kz, (V 6) = Value.slice (some ⟨kz, 0, none⟩) 1 1 ∧ Cells (wi.setCell ⟨bb, 0, none⟩ (.slice A2 n2 c2)) kz 51 (Ar.vals a))) ∧ ((D 7) = true → true = false → BPend bb w3 V1 l a (V 7) (wi.setCell ⟨bb, 0, none⟩ (.slice A2 n2 c2))) ∧ (true = true → ∃ V9 c9, Bk bb (wi.setCell ⟨bb, 0, none⟩ (.slice A2 n2 c2)) bb (l ++ [a]) V9 c9 ∧ Below bb w3 (wi.setCell ⟨bb, 0, none⟩ (.slice A2 n2 c2))); exact ⟨fun e => (by rw [hD7] at e; cases e), fun _ e => (by cases e), fun _ => hfin⟩⟩
        · intro V w4 hk hI
          simp only [Reg.putsO, List.foldl_cons, List.foldl_nil, Act.put, List.setIfInBounds_toArray, List.set_cons_succ, List.set_cons_zero]
          replace hI : ((fun _ => true) 7 = false → Below w3.heap.size w3 w4 ∧ ((fun _ => true) 6 = true → ∃ kz, V 6 = Value.slice (some ⟨kz, 0, none⟩) 1 1 ∧ Cells w4 kz 51 (Ar.vals a))) ∧ ((fun _ => true) 7 = true → (fun _ => true) 10 = false → BPend bb w3 V1 l a (V 7) w4) ∧ ((fun _ => true) 10 = true → ∃ V9 c9, Bk bb w4 bb (l ++ [a]) V9 c9 ∧ Below bb w3 w4) := hI
          clear hk
          obtain ⟨V9, c9, hk9, hb9⟩ := hI.2.2 rfl
          have HK9 := Lib.hid hk9
          have HB9 := Lib.hid (HB3.out.trans hb9)
          have HM9 : Hid ((os.take (k + 1)).map (newAr nd nn) = (l ++ [a]).map some) := Lib.hid (by rw [HMT.out, HM.out, List.map_append]; rfl)
          clear hI hk9 hb9
          go_wp2_with fail
          go_roundw
          case rel => exact ⟨k + 1, l ++ [a], V9, c9, by go_num, by omega, HM9, HK9, HB9⟩
          case measure => simp [intOf]; omega
    · obtain rfl : k = n := by omega
      have HE : Hid (os.map (newAr nd nn) = l.map some) := Lib.hid (by have := HM.out; rwa [List.take_of_length_le (Nat.le_of_eq HN.out)] at this)
      go_wp2_with fail
      go_returns
      exact Or.inl ⟨l, bb, V1, vc1, by omega, by omega, HE.out, rfl, HK.out, HB.out⟩
end Go.Proofs.Yteieehlllfnmcaa.Arr
