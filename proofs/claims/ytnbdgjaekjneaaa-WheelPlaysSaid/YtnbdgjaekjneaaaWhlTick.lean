/-
  Layer 12, the code's wheel: Tick; a wheel that isn't there. Conditions: none.
-/
import Derived.Test.YtnbdgjaekjneaaaWhlSetC
namespace Go.Proofs.Ytnbdgjaekjneaaa.Whl
set_option maxRecDepth 100000
open Go.RowKit Go.Deep Go.Proofs.Ytnbdgjaekjneaaa.Mem

/-- The time goes on: what is due, the wheel behind it. -/
def tickC (R : Wr) : List Ky × Wr :=
  if 1099511627776 ≤ R.now then ([], R)
  else ((R.l.take (untilL R.l (R.now + 1))).map (·.1), ⟨R.now + 1, R.l.drop (untilL R.l (R.now + 1))⟩)
theorem Delete_nil (w : World) : Calls Try.prog 27 #[.slice none 0 0, .int .i64 0, .int .i64 0] w fun e w' => e = .returned (.slice none 0 0) ∧ w' = w := by
  go_enter Try.func27, Try.ntmps27
  go_wp2_with fail
  go_returns
  exact ⟨rfl, rfl⟩
set_option maxHeartbeats 1000000 in
theorem TickC_any {B rb ac : Nat} {w : World} {R : Wr} {A : Option Addr} (h : WcAt B w rb R A ac) (hB : B ≤ w.heap.size) (hs : Asc R.l) (h0 : 0 ≤ R.now) :
    Calls Try.prog 16 #[.pointer (some ⟨rb, 0, none⟩)] w fun e w' => ∃ v, e = .returned v ∧ OwnG 34 6 Ky.vals w.heap.size w' v (tickC R).1 ∧ WcAt B w' rb (tickC R).2 A ac ∧ Only (wfoot rb A) w w' := by
  have c0 := h.cel.cell (j := 0) rfl
  have HW := Lib.hid h
  have HBW := Lib.hid hB
  obtain ⟨t, ht⟩ : ∃ t, R.now = t := ⟨_, rfl⟩
  have HT := Lib.hid ht
  by_cases hmax : 1099511627776 ≤ R.now
  · have e0 : tickC R = ([], R) := if_pos hmax
    rw [e0]
    rw [ht] at c0 hmax
    clear e0 h hs h0 ht hB
    go_enter Try.func16, Try.ntmps16
    go_wp2_with fail
    go_returns
    exact ⟨_, rfl, OwnG.nil _ _ _ _ _, HW.out, Only.of_below (Below.refl _ _)⟩
  · obtain ⟨f1, f2, f3, f4⟩ := h.time (t + 1)
    obtain ⟨u, hu⟩ : ∃ X, untilL R.l (t + 1) = X := ⟨_, rfl⟩
    have e0 : tickC R = ((R.l.take u).map (·.1), ⟨t + 1, R.l.drop u⟩) := by
      unfold tickC
      rw [if_neg hmax, ht, hu]
    rw [e0]
    have hul : u ≤ R.l.length := by rw [← hu]; exact untilL_le _ _
    obtain ⟨wt, hwt⟩ : ∃ W, W = w.setCell ⟨rb, 0, none⟩ (.int .i64 (t + 1)) := ⟨_, rfl⟩
    rw [← hwt] at f3 f4
    have HC := Lib.hid (Until_any f3 (t + 1) hs)
    rw [show ({ R with now := t + 1 } : Wr).l = R.l from rfl, hu] at HC
    have t0 := f3.cel.cell (j := 0) rfl
    dsimp only at t0
    have hw1 : IntKind.i64.wrap (t + 1) = t + 1 := by rw [IntKind.wrap_i64]; omega
    obtain ⟨n, hn⟩ : ∃ n, R.l.length = n := ⟨_, rfl⟩
    have HN := Lib.hid hn
    have hn256 : n ≤ 256 := by rw [← hn]; exact h.len
    have HF3 := Lib.hid f3
    have HF4 := Lib.hid f4
    rw [ht] at c0 hmax h0
    rw [hn] at hul
    have HUL := Lib.hid hul
    clear e0 h hs ht hu f3 f4 hn hB f1
    go_enter Try.func16, Try.ntmps16
    go_upto_region 4 with (fail)
    rw [← hwt]
    clear hwt c0 f2
    go_wp2_with fail
    refine HC.out.mono ?_
    rintro e w1 ⟨rfl, hb1⟩
    have hr1 := HF3.out.later hb1
    have c1 := hr1.cel.cell (j := 1) rfl
    dsimp only at c1
    rw [HN.out] at c1
    have HO1 : Hid (Only (wfoot rb A) w w1) := Lib.hid (HF4.out.trans (S' := fun _ => False) (Only.of_below hb1) fun _ _ e => e.elim)
    have HR1 := Lib.hid hr1
    clear hb1 hr1 HC t0
    rcases A with _ | AD
    · have hl0 : R.l = [] := by
        rcases HW.out.row.2 with ⟨_, e⟩ | ⟨_, _, _, e, _⟩
        · exact List.length_eq_zero_iff.1 e
        · cases e
      have hac : ac = 0 := by
        rcases HW.out.row.2 with ⟨e, _⟩ | ⟨_, _, _, e, _⟩
        · simp only [Value.slice.injEq] at e
          exact e.2.2
        · cases e
      obtain rfl : n = 0 := by rw [← HN.out, hl0]; rfl
      obtain rfl : u = 0 := by omega
      subst hac
      have HK := Lib.hid (keys_any none [] 0 w1 (sl_nil _ _ _) (Nat.zero_le _))
      have HL := Lib.hid hl0
      clear hl0
      go_wp2_with fail
      refine HK.out.mono ?_
      rintro e w2 ⟨v, rfl, hown, hb2⟩
      have hr2 := HR1.out.later hb2
      have c2 := hr2.cel.cell (j := 1) rfl
      dsimp only at c2
      rw [HN.out] at c2
      have HD := Lib.hid (Delete_nil w2)
      obtain ⟨p1, p2, p3, p4⟩ := hr2.put (w1 := w2) (l := []) (A2 := none) (c2 := 0) ⟨by simp, Or.inl ⟨rfl, rfl⟩⟩ (Only.of_below (Below.refl _ _)) (fun k e => by cases e) (Nat.zero_le _)
      have HO2 := Lib.hid ((HO1.out.trans (S' := fun _ => False) (Only.of_below hb2) fun _ _ e => e.elim).trans p4 fun _ _ e => e)
      have HP3 := Lib.hid p3
      have HOW : Hid (OwnG 34 6 Ky.vals w.heap.size (w2.setCell ⟨rb, 1, none⟩ (.slice none 0 0)) v []) := Lib.hid (row_only (own_up HO1.out.size hown) p4 fun k hk e => by
        have h1 := (hown.lt k hk).1
        have h2 := HW.out.cel.lt
        have h3 := HO1.out.size
        rcases e with e | e
        · omega
        · cases e)
      clear hown hb2 hr2 p1 p3 p4 c1
      go_wp2_with fail
      refine HD.out.mono ?_
      rintro e w3 ⟨rfl, rfl⟩
      go_wp2_with fail
      go_returns
      exact ⟨v, rfl, by rw [HL.out]; exact HOW.out, by rw [HL.out]; exact HP3.out, HO2.out⟩
    · obtain ⟨g, rfl⟩ : ∃ g, AD = ⟨g, 0, none⟩ := by
        rcases HW.out.row.2 with ⟨e, _⟩ | ⟨g, _, _, e, _⟩
        · cases e
        · simp only [Value.slice.injEq, Option.some.injEq] at e
          exact ⟨g, e.1⟩
      have hnac : n ≤ ac := by rw [← HN.out]; exact (cells_of_own HW.out.row).2.1
      have hlt : (R.l.take u).length = u := by rw [List.length_take, HN.out]; omega
      have hk0 := keys_any (some ⟨g, 0, none⟩) (R.l.take u) ac w1 (by rw [List.map_take]; exact sl_take' HR1.out.sl u) (by rw [hlt]; omega)
      rw [hlt] at hk0
      have HK := Lib.hid hk0
      clear hk0 hlt
      have b1 : (u : Int) ≤ (ac : Int) := by omega
      have b2 : u ≤ ac := by omega
      have b3 : (u : Int) ≤ (n : Int) := by omega
      go_wp2_with fail
      refine HK.out.mono ?_
      rintro e w2 ⟨v, rfl, hown, hb2⟩
      have hr2 := HR1.out.later hb2
      have c2 := hr2.cel.cell (j := 1) rfl
      dsimp only at c2
      rw [HN.out] at c2
      have hD := Delete_any (vs := R.l.map Tm.vals) (i := 0) (j := u) (by simpa using hr2.row) (fit_tms _) (Nat.zero_le _) (by rw [List.length_map, HN.out]; exact HUL.out) (by rw [List.length_map, HN.out]; omega)
      rw [List.length_map, HN.out, Nat.sub_zero, List.take_zero, List.nil_append, ← List.map_drop] at hD
      have HD : Hid (Calls Try.prog 27 #[.slice (some ⟨g, 0, none⟩) n ac, .int .i64 0, .int .i64 (u : Int)] w2 fun e w' => e = .returned (.slice (some ⟨g, 0, none⟩) (n - u) ac) ∧ w'.ownsRow B 67 7 (.slice (some ⟨g, 0, none⟩) (n - u) ac) (n - u) ((R.l.drop u).map Tm.vals).flatten ∧ Only (fun k => k = g) w2 w') := Lib.hid hD
      have HLD : Hid ((R.l.drop u).length = n - u) := Lib.hid (by rw [List.length_drop, HN.out])
      have HOW := Lib.hid hown
      have HB2 := Lib.hid hb2
      have HR2 := Lib.hid hr2
      clear hown hb2 hr2 hD c1 b1 b2 b3
      go_wp2_with fail
      refine HD.out.mono ?_
      rintro e w3 ⟨rfl, hrow, ho3⟩
      obtain ⟨p1, p2, p3, p4⟩ := HR2.out.put (w1 := w3) (l := R.l.drop u) (A2 := some ⟨g, 0, none⟩) (c2 := ac) (by rw [HLD.out]; exact hrow) (ho3.mono fun k _ e => by rw [e]; rfl) (fun k e => Or.inl e.symm) (by rw [HLD.out]; omega)
      dsimp only at p1
      rw [HN.out] at p1
      rw [HLD.out] at p3 p4
      have HO3 := Lib.hid ((HO1.out.trans (S' := fun _ => False) (Only.of_below HB2.out) fun _ _ e => e.elim).trans p4 fun _ _ e => e)
      have HP3 := Lib.hid p3
      have HOV : Hid (OwnG 34 6 Ky.vals w.heap.size (w3.setCell ⟨rb, 1, none⟩ (.slice (some ⟨g, 0, none⟩) (n - u) ac)) v ((R.l.take u).map (·.1))) := Lib.hid (row_only (own_up HO1.out.size HOW.out) p4 fun k hk e => by
        have h1 := (HOW.out.lt k hk).1
        have h2 := HW.out.cel.lt
        have h3 := HO1.out.size
        rcases e with e | e
        · omega
        · have h4 := (HW.out.row.lt g rfl).2
          have h5 : k = g := Option.some.inj e
          omega)
      clear hrow ho3 p3 p4 c2 HOW HD HK
      go_wp2_with fail
      go_returns
      exact ⟨v, rfl, HOV.out, HP3.out, HO3.out⟩
section
variable (w : World)
theorem Now_nil : Calls Try.prog 21 #[.pointer none] w fun e w' => e = .returned (.int .i64 0) ∧ Below w.heap.size w w' := by
  go_enter Try.func21, Try.ntmps21
  go_wp2_with fail
  go_returns
  exact ⟨rfl, Below.refl _ _⟩
theorem Clear_nil : Calls Try.prog 18 #[.pointer none] w fun e w' => e = .returned (.tuple #[]) ∧ Below w.heap.size w w' := by
  go_enter Try.func18, Try.ntmps18
  go_wp2_with fail
  go_returns
  exact ⟨rfl, Below.refl _ _⟩
theorem Keys_nil : Calls Try.prog 22 #[.pointer none] w fun e w' => e = .returned (.slice none 0 0) ∧ Below w.heap.size w w' := by
  go_enter Try.func22, Try.ntmps22
  go_wp2_with fail
  go_returns
  exact ⟨rfl, Below.refl _ _⟩
theorem Tick_nil : Calls Try.prog 16 #[.pointer none] w fun e w' => e = .returned (.slice none 0 0) ∧ Below w.heap.size w w' := by
  go_enter Try.func16, Try.ntmps16
  go_wp2_with fail
  go_returns
  exact ⟨rfl, Below.refl _ _⟩
theorem Set_nil (k : Ky) (n : Int) : Calls Try.prog 10 #[.pointer none, k.val, .int .i64 n] w fun e w' => e = .returned (.int .i64 1) ∧ Below w.heap.size w w' := by
  have HB := Lib.hid (below_alloc w (.cells #[.int .i64 k.kind, .int .i64 k.cell, .int .i64 k.node, .int .i64 k.tn, .int .i64 k.te, .int .i64 k.ts] 34))
  unfold Ky.val
  go_enter Try.func10, Try.ntmps10
  go_wp2_with fail
  go_returns
  exact ⟨rfl, HB.out⟩
theorem Due_nil (k : Ky) : Calls Try.prog 19 #[.pointer none, k.val] w fun e w' => e = .returned (.tuple #[.int .i64 0, .bool false]) ∧ Below w.heap.size w w' := by
  obtain ⟨wa, hwa⟩ : ∃ W, W = w.alloc (.cells #[.int .i64 k.kind, .int .i64 k.cell, .int .i64 k.node, .int .i64 k.tn, .int .i64 k.te, .int .i64 k.ts] 34) := ⟨_, rfl⟩
  have hba : Below w.heap.size w wa := by rw [hwa]; exact below_alloc _ _
  have hca : Cells wa w.heap.size 34 k.vals := by rw [hwa]; exact cells_new _ _ _ _ rfl
  have z0 := hca.cell (j := 0) rfl
  have z1 := hca.cell (j := 1) rfl
  have z2 := hca.cell (j := 2) rfl
  have z3 := hca.cell (j := 3) rfl
  have z4 := hca.cell (j := 4) rfl
  have z5 := hca.cell (j := 5) rfl
  have HC := Lib.hid (Place_nil wa k)
  have HB := Lib.hid hba
  unfold Ky.val at HC ⊢
  clear hba hca
  go_enter Try.func19, Try.ntmps19
  go_upto_region 1 with (fail)
  rw [← hwa]
  clear hwa
  go_wp2_with fail
  refine HC.out.mono ?_
  rintro e we ⟨rfl, hbe⟩
  have HBE := Lib.hid (HB.out.trans (hbe.mono HB.out.size))
  clear hbe
  go_wp2_with fail
  go_returns
  exact ⟨rfl, HBE.out⟩
theorem Stop_nil (k : Ky) (g : Nat) (h : Cells w g 34 k.vals) : Calls Try.prog 13 #[.pointer none, .slice (some ⟨g, 0, none⟩) 1 1] w fun e w' => e = .returned (.int .i64 0) ∧ Below w.heap.size w w' := by
  have HG := Lib.hid h
  clear h
  go_enter Try.func13, Try.ntmps13
  go_wp2_with fail
  go_loopw [5, 11] (fun x i wr => ∃ (q : Nat), q ≤ 1 ∧ i = .int .i64 (q : Int) ∧ x = .int .i64 0 ∧ Hid (Below w.heap.size w wr)) (fun _ i _ => 1 - (intOf i).toNat)
  case atStart => exact ⟨0, Nat.zero_le _, rfl, rfl, Lib.hid (Below.refl _ _)⟩
  case round =>
    obtain ⟨q, hq, rfl, rfl, HB⟩ := hrel
    by_cases hlt : q < 1
    · obtain rfl : q = 0 := by omega
      have hr := HG.out.later HB.out
      have x0 := hr.cell (j := 0) rfl
      have x1 := hr.cell (j := 1) rfl
      have x2 := hr.cell (j := 2) rfl
      have x3 := hr.cell (j := 3) rfl
      have x4 := hr.cell (j := 4) rfl
      have x5 := hr.cell (j := 5) rfl
      obtain ⟨we, hwe⟩ : ∃ W, W = wr.alloc (.cells #[.int .i64 k.kind, .int .i64 k.cell, .int .i64 k.node, .int .i64 k.tn, .int .i64 k.te, .int .i64 k.ts] 34) := ⟨_, rfl⟩
      have hbe : Below wr.heap.size wr we := by rw [hwe]; exact below_alloc _ _
      have hce : Cells we wr.heap.size 34 k.vals := by rw [hwe]; exact cells_new _ _ _ _ rfl
      have y0 := hce.cell (j := 0) rfl
      have y1 := hce.cell (j := 1) rfl
      have y2 := hce.cell (j := 2) rfl
      have y3 := hce.cell (j := 3) rfl
      have y4 := hce.cell (j := 4) rfl
      have y5 := hce.cell (j := 5) rfl
      have HC := Lib.hid (Place_nil we k)
      unfold Ky.val at HC
      have HBE := Lib.hid (HB.out.trans (hbe.mono HB.out.size))
      clear hr hbe hce
      go_upto_region 5 with (fail)
      rw [← hwe]
      clear hwe x0 x1 x2 x3 x4 x5
      go_wp2_with fail
      refine HC.out.mono ?_
      rintro e w2 ⟨rfl, hb2⟩
      have HB2 := Lib.hid (HBE.out.trans (hb2.mono HBE.out.size))
      clear hb2 y0 y1 y2 y3 y4 y5
      go_wp2_with fail
      go_roundw
      case rel => exact ⟨1, by omega, rfl, rfl, HB2⟩
      case measure => simp [intOf]
    · obtain rfl : q = 1 := by omega
      go_wp2_with fail
      go_returns
      exact ⟨rfl, HB.out⟩
end
end Go.Proofs.Ytnbdgjaekjneaaa.Whl
