/-
  Layer 12, the document's wheel: Stop. Conditions: none.
-/
import Derived.Test.YtnbdgjaekjneaaaWhlRef
namespace Go.Proofs.Ytnbdgjaekjneaaa.Whl
set_option maxRecDepth 100000
open Go.RowKit Go.Deep Go.Proofs.Ytnbdgjaekjneaaa.Mem

theorem el_tm : Elem 28 53 (.agg #[.int .i64 0, .int .i64 0, .int .i64 0, .int .i64 0, .int .i64 0, .int .i64 0, .int .i64 0]) 7 56 := ⟨Try.underlying28, by kernel_rfl, rfl, by decide, by decide⟩
abbrev Ap (w0 : World) (dz : Bool) (v : Value) (l : List Tm) (dx : Bool) (vx : Value) (p : Tm) (W : World) : Prop := ApG 53 7 Tm.vals w0 dz v l dx vx p W
theorem atL_spec (k : Ky) : ∀ (l : List Tm) (n : Nat), atL k l n = -1 ∨ ∃ i : Nat, atL k l n = ((n + i : Nat) : Int) ∧ i < l.length
  | [], _ => Or.inl rfl
  | t :: l, n => by
    unfold atL
    by_cases h : t.1 = k
    · rw [if_pos h]
      exact Or.inr ⟨0, rfl, by simp⟩
    · rw [if_neg h]
      rcases atL_spec k l (n + 1) with h1 | ⟨i, h1, h2⟩
      · exact Or.inl h1
      · exact Or.inr ⟨i + 1, by rw [h1]; congr 1; omega, by simp; omega⟩
/-- What lies behind the place i. -/
theorem WxAt.behind {B rb ac : Nat} {w : World} {R : Wr} {g i : Nat} (h : WrAt B w rb R (some ⟨g, 0, none⟩) ac) (hi : i < R.l.length) : R.l.length ≤ ac ∧ ∃ AD : Addr, (if ac = i + 1 then some ⟨g, 0, none⟩ else some ⟨g, (i + 1) * 7, none⟩ : Option Addr) = some AD ∧ ∀ wi, Below w.heap.size w wi → Sl wi (some AD) 7 ((R.l.drop (i + 1)).map Tm.vals) := by
  have hac := (cells_of_own h.row).2.1
  refine ⟨hac, ?_⟩
  by_cases he : ac = i + 1
  · refine ⟨_, if_pos he, fun wi hb => ?_⟩
    have h0 : R.l.drop (i + 1) = [] := List.drop_eq_nil_iff.2 (by omega)
    rw [h0]
    exact sl_nil _ _ _
  · refine ⟨_, if_neg he, fun wi hb => ?_⟩
    have := sl_drop' (h.later hb).sl (i + 1)
    rw [Nat.zero_add] at this
    rw [List.map_drop]
    exact this
set_option maxHeartbeats 2000000 in
theorem RStop_any {B rb ac : Nat} {R : Wr} {A : Option Addr} {w : World} (h : WrAt B w rb R A ac) (k : Ky) (hB : B ≤ w.heap.size) :
    Calls Try.prog 12 #[.pointer (some ⟨rb, 0, none⟩), k.val] w fun e w' => e = .returned (.bool (stopR R k).1) ∧ WStep B rb A w (stopR R k).2 w' := by
  obtain ⟨wa, hwa⟩ : ∃ W, W = w.alloc (.cells #[.int .i64 k.kind, .int .i64 k.cell, .int .i64 k.node, .int .i64 k.tn, .int .i64 k.te, .int .i64 k.ts] 41) := ⟨_, rfl⟩
  have hba : Below w.heap.size w wa := by rw [hwa]; exact below_alloc _ _
  have hca : Cells wa w.heap.size 41 k.vals := by rw [hwa]; exact cells_new _ _ _ _ rfl
  have z0 := hca.cell (j := 0) rfl
  have z1 := hca.cell (j := 1) rfl
  have z2 := hca.cell (j := 2) rfl
  have z3 := hca.cell (j := 3) rfl
  have z4 := hca.cell (j := 4) rfl
  have z5 := hca.cell (j := 5) rfl
  have hra := h.later hba
  have HAT := RAt_any hra k
  unfold Ky.val at HAT ⊢
  have HC := Lib.hid HAT
  have HB := Lib.hid hba
  have HRA := Lib.hid hra
  have HBW0 := Lib.hid hB
  unfold stopR
  rcases atL_spec k R.l 0 with hat | ⟨ii, hat, hii⟩
  · rw [hat] at HC ⊢
    simp only [show ((-1 : Int) < 0) from by decide, if_true]
    clear h hba hca hra HAT hat hB
    go_enter Try.func12, Try.ntmps12
    go_upto_region 1 with (fail)
    rw [← hwa]
    clear hwa
    go_wp2_with fail
    refine HC.out.mono ?_
    rintro e we ⟨rfl, hbe⟩
    go_wp2_with fail
    go_returns
    exact ⟨rfl, WxStep.before HB.out (WxStep.same HRA.out hbe)⟩
  · rw [Nat.zero_add] at hat
    rw [hat] at HC ⊢
    rw [if_neg (by omega), Int.toNat_natCast]
    obtain ⟨⟨t, due⟩, ht⟩ : ∃ t, R.l[ii]? = some t := ⟨_, List.getElem?_eq_getElem hii⟩
    obtain ⟨g, rfl, _⟩ := h.at ht
    obtain ⟨n, hn⟩ : ∃ n, R.l.length = n := ⟨_, rfl⟩
    have HN := Lib.hid hn
    have HII := Lib.hid hii
    have HLE := Lib.hid h.len
    clear h hba hca hra HAT hat hB ht hn hii
    go_enter Try.func12, Try.ntmps12
    go_upto_region 1 with (fail)
    rw [← hwa]
    clear hwa
    go_wp2_with fail
    refine HC.out.mono ?_
    rintro e we ⟨rfl, hbe⟩
    have HR := Lib.hid (HRA.out.later hbe)
    have HBE := Lib.hid (HB.out.trans (hbe.mono HB.out.size))
    have HBW := Lib.hid (Nat.le_trans HBW0.out HBE.out.size)
    obtain ⟨p, hp⟩ : ∃ p : Tm, p = (t, due) := ⟨_, rfl⟩
    obtain ⟨hac, AD, hAD, hDS⟩ := HR.out.behind HII.out
    have HAD := Lib.hid hAD
    have HDS := Lib.hid hDS
    have HTS : Hid (∀ wi, Below we.heap.size we wi → Sl wi (some ⟨g, 0, none⟩) 7 ((R.l.take ii).map Tm.vals)) := Lib.hid (fun wi hb => by rw [List.map_take]; exact sl_take' (HR.out.later hb).sl ii)
    have HI : Hid (ii < n ∧ n ≤ ac ∧ n ≤ 256 ∧ (R.l.take ii).length = ii ∧ (R.l.drop (ii + 1)).length = n - (ii + 1)) := Lib.hid ⟨by rw [← HN.out]; exact HII.out, by rw [← HN.out]; exact hac, by rw [← HN.out]; exact HLE.out, by rw [List.length_take]; have := HII.out; omega, by rw [List.length_drop, HN.out]⟩
    have HFL : Hid ((R.l.take ii ++ R.l.drop (ii + 1)).length ≤ 256) := Lib.hid (by have := HI.out; rw [List.length_append]; omega)
    clear z0 z1 z2 z3 z4 z5 hbe HC hp hac hAD hDS
    go_upto_region 4 with (fail)
    refine Reg.region_inv (by kernel_rfl) (fun i => ([some (.pointer (some ⟨rb, 0, none⟩)), none, some (.pointer (some ⟨rb, 0, none⟩)), some (.pointer (some ⟨rb, 0, none⟩)), some (.pointer (some ⟨rb, 1, none⟩)), some (.slice (some ⟨g, 0, none⟩) n ac), some (.int .i64 (ii : Int)), some (.slice (some ⟨g, 0, none⟩) ii ac), none, some (.pointer (some ⟨rb, 0, none⟩)), some (.pointer (some ⟨rb, 0, none⟩)), some (.pointer (some ⟨rb, 1, none⟩)), some (.slice (some ⟨g, 0, none⟩) n ac), some (.int .i64 (ii : Int)), some (.int .i64 ((ii : Int) + 1)), some (.slice (some AD) (n - (ii + 1)) (ac - (ii + 1))), none, some (.pointer (some ⟨rb, 0, none⟩)), some (.pointer (some ⟨rb, 1, none⟩)), none] : List (Option Value)).getD i none) (fun D V W => (D 19 = false → Ap we (D 1) (cond (D 16) (V 16) (cond (D 8) (V 8) (V 1))) (cond (D 16) (R.l.take ii ++ R.l.drop (ii + 1)) (cond (D 8) (R.l.take ii) ([]))) (false) (undef) p W) ∧ (D 19 = true → WStep B rb (some ⟨g, 0, none⟩) we { R with l := R.l.take ii ++ R.l.drop (ii + 1) } W)) (fun V => [(some 11, V 0), (some 12, V 1), (some 13, V 2), (some 14, V 3), (some 15, V 4), (some 16, V 5), (some 17, V 6), (some 18, V 7), (some 19, V 8), (some 20, V 9), (some 21, V 10), (some 22, V 11), (some 23, V 12), (some 24, V 13), (some 25, V 14), (some 26, V 15), (some 27, V 16), (some 28, V 17), (some 29, V 18), (none, V 19)]) (by kernel_rfl) (by kernel_rfl) (fun V => rfl) ?_ ?_ ?_
    · intro V
      exact ⟨fun _ => ApG.start (Below.refl _ _).drew _ _ _ _, fun e => (by cases e)⟩
    · intro i o ho
      have hi : i < 20 := (Array.getElem?_eq_some_iff.1 ho).1
      rcases i with _ | _ | _ | _ | _ | _ | _ | _ | _ | _ | _ | _ | _ | _ | _ | _ | _ | _ | _ | _ | i
      rotate_right
      · omega
      all_goals obtain rfl := Option.some.inj ho
      all_goals intro D V ρ wi hE hI hDi hT hF hs hd hk
      · have e0 : ρ (.tmp 0) = .pointer (some ⟨rb, 0, none⟩) := hs 0; clear hT hF hk
        exact Reg.Gives.value (v := .pointer (some ⟨rb, 0, none⟩)) (w' := wi) (by go_simp) ⟨fun x h => Option.some.inj h, hI⟩
      · have hD1 : D 1 = false := hDi; have hD8 : D 8 = false := hF 1 8; have hD16 : D 16 = false := hF 2 16; have hD19 : D 19 = false := hF 1 19; clear hT hF; have h1 := hI.1 hD19
        rw [hD1] at h1
        rw [hD8] at h1
        rw [hD16] at h1
        simp only [cond_false] at h1
        exact Reg.Gives.value (v := .slice (some ⟨wi.heap.size, 0, none⟩) 0 0) (w' := wi.alloc (.cells #[] 53)) (by go_simp) ⟨fun x h => (by cases h), by show ((D 19) = false → Ap we true (cond (D 16) (V 16) (cond (D 8) (V 8) (.slice (some ⟨wi.heap.size, 0, none⟩) 0 0))) (cond (D 16) (R.l.take ii ++ R.l.drop (ii + 1)) (cond (D 8) (R.l.take ii) [])) false undef p (wi.alloc (.cells #[] 53))) ∧ ((D 19) = true → WStep B rb (some ⟨g, 0, none⟩) we { R with l := R.l.take ii ++ R.l.drop (ii + 1) } (wi.alloc (.cells #[] 53))); rw [hD8, hD16, hD19]; simp only [cond_false]; exact ⟨fun _ => h1.mkz, fun e => by cases e⟩⟩
      · have e0 : ρ (.tmp 0) = .pointer (some ⟨rb, 0, none⟩) := hs 0; clear hT hF hk
        exact Reg.Gives.value (v := .pointer (some ⟨rb, 0, none⟩)) (w' := wi) (by go_simp) ⟨fun x h => Option.some.inj h, hI⟩
      · have e13 : ρ (.tmp 13) = .pointer (some ⟨rb, 0, none⟩) := (hd 2 13).trans (hk 2 _ rfl); clear hT hF hk
        exact Reg.Gives.value (v := .pointer (some ⟨rb, 0, none⟩)) (w' := wi) (by go_simp) ⟨fun x h => Option.some.inj h, hI⟩
      · have e14 : ρ (.tmp 14) = .pointer (some ⟨rb, 0, none⟩) := (hd 3 14).trans (hk 3 _ rfl); clear hT hF hk
        exact Reg.Gives.value (v := .pointer (some ⟨rb, 1, none⟩)) (w' := wi) (by go_simp) ⟨fun x h => Option.some.inj h, hI⟩
      · have e15 : ρ (.tmp 15) = .pointer (some ⟨rb, 1, none⟩) := (hd 4 15).trans (hk 4 _ rfl); have hD19 : D 19 = false := hF 1 19; clear hT hF; have hL : Below we.heap.size we wi := (hI.1 hD19).low; have x0 := (HR.out.later hL).cel.cell (j := 1) rfl
        rw [HN.out] at x0
        exact Reg.Gives.value (v := .slice (some ⟨g, 0, none⟩) n ac) (w' := wi) (by go_simp) ⟨fun x h => Option.some.inj h, hI⟩
      · have e5 : ρ (.tmp 5) = .int .i64 (ii : Int) := hs 5; clear hT hF hk
        exact Reg.Gives.value (v := .int .i64 (ii : Int)) (w' := wi) (by go_simp) ⟨fun x h => Option.some.inj h, hI⟩
      · have e16 : ρ (.tmp 16) = .slice (some ⟨g, 0, none⟩) n ac := (hd 5 16).trans (hk 5 _ rfl); have e17 : ρ (.tmp 17) = .int .i64 (ii : Int) := (hd 6 17).trans (hk 6 _ rfl); have hD19 : D 19 = false := hF 1 19; clear hT hF; have hL : Below we.heap.size we wi := (hI.1 hD19).low; have z0 := HI.out.1
        have z1 : ii ≤ ac := by have := HI.out; omega
        have z2 : ii ≤ n := by have := HI.out; omega
        have z3 : (ii : Int) ≤ (ac : Int) := by omega
        exact Reg.Gives.value (v := .slice (some ⟨g, 0, none⟩) ii ac) (w' := wi) (by go_simp) ⟨fun x h => Option.some.inj h, hI⟩
      · have e12 : ρ (.tmp 12) = V 1 := hd 1 12; have e18 : ρ (.tmp 18) = .slice (some ⟨g, 0, none⟩) ii ac := (hd 7 18).trans (hk 7 _ rfl); have hD1 : D 1 = true := hT 1 1; have hD8 : D 8 = false := hDi; have hD16 : D 16 = false := hF 1 16; have hD19 : D 19 = false := hF 1 19; clear hT hF; have h1 := hI.1 hD19
        rw [hD1] at h1
        rw [hD8] at h1
        rw [hD16] at h1
        simp only [cond_false] at h1
        have hL := h1.low
        obtain ⟨A2, n2, c2, w2, hrun, hn⟩ := ApG.app el_tm fit_tms h1 (m := R.l.take ii) (HTS.out wi hL) (fun e => by cases e) (by have := HR.out.len; simp; omega)
        rw [HI.out.2.2.2.1] at hrun
        exact Reg.Gives.value (v := .slice A2 n2 c2) (w' := w2) (Reg.exec_append rfl e12 e18 hrun) ⟨fun x h => (by cases h), by show ((D 19) = false → Ap we (D 1) (cond (D 16) (V 16) (cond true (.slice A2 n2 c2) (V 1))) (cond (D 16) (R.l.take ii ++ R.l.drop (ii + 1)) (cond true (R.l.take ii) [])) false undef p w2) ∧ ((D 19) = true → WStep B rb (some ⟨g, 0, none⟩) we { R with l := R.l.take ii ++ R.l.drop (ii + 1) } w2); rw [hD1, hD16, hD19]; simp only [cond_false, cond_true]; exact ⟨fun _ => hn, fun e => by cases e⟩⟩
      · have e0 : ρ (.tmp 0) = .pointer (some ⟨rb, 0, none⟩) := hs 0; clear hT hF hk
        exact Reg.Gives.value (v := .pointer (some ⟨rb, 0, none⟩)) (w' := wi) (by go_simp) ⟨fun x h => Option.some.inj h, hI⟩
      · have e20 : ρ (.tmp 20) = .pointer (some ⟨rb, 0, none⟩) := (hd 9 20).trans (hk 9 _ rfl); clear hT hF hk
        exact Reg.Gives.value (v := .pointer (some ⟨rb, 0, none⟩)) (w' := wi) (by go_simp) ⟨fun x h => Option.some.inj h, hI⟩
      · have e21 : ρ (.tmp 21) = .pointer (some ⟨rb, 0, none⟩) := (hd 10 21).trans (hk 10 _ rfl); clear hT hF hk
        exact Reg.Gives.value (v := .pointer (some ⟨rb, 1, none⟩)) (w' := wi) (by go_simp) ⟨fun x h => Option.some.inj h, hI⟩
      · have e22 : ρ (.tmp 22) = .pointer (some ⟨rb, 1, none⟩) := (hd 11 22).trans (hk 11 _ rfl); have hD19 : D 19 = false := hF 1 19; clear hT hF; have hL : Below we.heap.size we wi := (hI.1 hD19).low; have x0 := (HR.out.later hL).cel.cell (j := 1) rfl
        rw [HN.out] at x0
        exact Reg.Gives.value (v := .slice (some ⟨g, 0, none⟩) n ac) (w' := wi) (by go_simp) ⟨fun x h => Option.some.inj h, hI⟩
      · have e5 : ρ (.tmp 5) = .int .i64 (ii : Int) := hs 5; clear hT hF hk
        exact Reg.Gives.value (v := .int .i64 (ii : Int)) (w' := wi) (by go_simp) ⟨fun x h => Option.some.inj h, hI⟩
      · have e24 : ρ (.tmp 24) = .int .i64 (ii : Int) := (hd 13 24).trans (hk 13 _ rfl); have hc := hE.const; have hD19 : D 19 = false := hF 1 19; clear hT hF; have hL : Below we.heap.size we wi := (hI.1 hD19).low
        have z0 : IntKind.i64.wrap ((ii : Int) + 1) = (ii : Int) + 1 := IntWalk.i64_in _ (by have := HI.out; omega)
        exact Reg.Gives.value (v := .int .i64 ((ii : Int) + 1)) (w' := wi) (by go_simp) ⟨fun x h => Option.some.inj h, hI⟩
      · have e23 : ρ (.tmp 23) = .slice (some ⟨g, 0, none⟩) n ac := (hd 12 23).trans (hk 12 _ rfl); have e25 : ρ (.tmp 25) = .int .i64 ((ii : Int) + 1) := (hd 14 25).trans (hk 14 _ rfl); have hD19 : D 19 = false := hF 1 19; clear hT hF; have hL : Below we.heap.size we wi := (hI.1 hD19).low
        have z1 : ii + 1 ≤ n := by have := HI.out; omega
        have z2 : ii + 1 ≤ ac := by have := HI.out; omega
        have z3 : (0 : Int) ≤ (ii : Int) + 1 := by omega
        have z4 : (ii : Int) + 1 ≤ (n : Int) := by omega
        have z5 := HAD.out
        exact Reg.Gives.value (v := .slice (some AD) (n - (ii + 1)) (ac - (ii + 1))) (w' := wi) (by go_simp) ⟨fun x h => Option.some.inj h, hI⟩
      · have e19 : ρ (.tmp 19) = V 8 := hd 8 19; have e26 : ρ (.tmp 26) = .slice (some AD) (n - (ii + 1)) (ac - (ii + 1)) := (hd 15 26).trans (hk 15 _ rfl); have hD1 : D 1 = true := hT 2 1; have hD8 : D 8 = true := hT 1 8; have hD16 : D 16 = false := hDi; have hD19 : D 19 = false := hF 1 19; clear hT hF; have h1 := hI.1 hD19
        rw [hD1] at h1
        rw [hD8] at h1
        rw [hD16] at h1
        simp only [cond_false, cond_true] at h1
        have hL := h1.low
        obtain ⟨A2, n2, c2, w2, hrun, hn⟩ := ApG.app el_tm fit_tms h1 (m := R.l.drop (ii + 1)) (HDS.out wi hL) (fun e => by cases e) (by have := HR.out.len; simp; omega)
        rw [HI.out.2.2.2.2] at hrun
        exact Reg.Gives.value (v := .slice A2 n2 c2) (w' := w2) (Reg.exec_append rfl e19 e26 hrun) ⟨fun x h => (by cases h), by show ((D 19) = false → Ap we (D 1) (cond true (.slice A2 n2 c2) (cond (D 8) (V 8) (V 1))) (cond true (R.l.take ii ++ R.l.drop (ii + 1)) (cond (D 8) (R.l.take ii) [])) false undef p w2) ∧ ((D 19) = true → WStep B rb (some ⟨g, 0, none⟩) we { R with l := R.l.take ii ++ R.l.drop (ii + 1) } w2); rw [hD1, hD8, hD19]; simp only [cond_true]; exact ⟨fun _ => hn, fun e => by cases e⟩⟩
      · have e11 : ρ (.tmp 11) = .pointer (some ⟨rb, 0, none⟩) := (hd 0 11).trans (hk 0 _ rfl); clear hT hF hk
        exact Reg.Gives.value (v := .pointer (some ⟨rb, 0, none⟩)) (w' := wi) (by go_simp) ⟨fun x h => Option.some.inj h, hI⟩
      · have e28 : ρ (.tmp 28) = .pointer (some ⟨rb, 0, none⟩) := (hd 17 28).trans (hk 17 _ rfl); clear hT hF hk
        exact Reg.Gives.value (v := .pointer (some ⟨rb, 1, none⟩)) (w' := wi) (by go_simp) ⟨fun x h => Option.some.inj h, hI⟩
      · have e29 : ρ (.tmp 29) = .pointer (some ⟨rb, 1, none⟩) := (hd 18 29).trans (hk 18 _ rfl); have e27 : ρ (.tmp 27) = V 16 := hd 16 27; have hD1 : D 1 = true := hT 1 1; have hD8 : D 8 = true := hT 1 8; have hD16 : D 16 = true := hT 1 16; have hD19 : D 19 = false := hDi; clear hT hF; have h1 := hI.1 hD19
        rw [hD1] at h1
        rw [hD8] at h1
        rw [hD16] at h1
        simp only [cond_true] at h1
        have hac := h1.acc rfl; have hrl := HR.out.later h1.low; have x0 := hrl.cel.cell (j := 1) rfl
        have x1 := hrl.cel.frozen (j := 1) (by simp)
        have hfin := HR.out.newL HBW.out h1.low hac (by exact HFL.out)
        obtain ⟨A2, c2, hv2⟩ := row_slice hac; obtain ⟨n3, hn3⟩ : ∃ n3, List.length (R.l.take ii ++ R.l.drop (ii + 1)) = n3 := ⟨_, rfl⟩
        rw [hn3] at hv2
        rw [hv2] at hfin
        have e9 := e27
        rw [hv2] at e9
        clear e27
        exact Reg.Gives.skip (w' := wi.setCell ⟨rb, 1, none⟩ (.slice A2 n3 c2)) (by go_simp) ⟨fun x h => (by cases h), by show (true = false → Ap we (D 1) (cond (D 16) (V 16) (cond (D 8) (V 8) (V 1))) (cond (D 16) (R.l.take ii ++ R.l.drop (ii + 1)) (cond (D 8) (R.l.take ii) [])) false undef p (wi.setCell ⟨rb, 1, none⟩ (.slice A2 n3 c2))) ∧ (true = true → WStep B rb (some ⟨g, 0, none⟩) we { R with l := R.l.take ii ++ R.l.drop (ii + 1) } (wi.setCell ⟨rb, 1, none⟩ (.slice A2 n3 c2))); exact ⟨fun e => (by cases e), fun _ => hfin⟩⟩
    · intro V wf hk hI
      simp only [Reg.putsO, List.foldl_cons, List.foldl_nil, Act.put, List.setIfInBounds_toArray, List.set_cons_succ, List.set_cons_zero]
      replace hI : ((fun _ => true) 19 = false → Ap we true (cond true (V 16) (cond true (V 8) (V 1))) (cond true (R.l.take ii ++ R.l.drop (ii + 1)) (cond true (R.l.take ii) ([]))) (false) (undef) p wf) ∧ ((fun _ => true) 19 = true → WStep B rb (some ⟨g, 0, none⟩) we { R with l := R.l.take ii ++ R.l.drop (ii + 1) } wf) := hI
      clear hk
      have HS := Lib.hid (hI.2 rfl)
      clear hI
      go_wp2_with fail
      go_returns
      exact ⟨rfl, WxStep.before HBE.out HS.out⟩
end Go.Proofs.Ytnbdgjaekjneaaa.Whl
