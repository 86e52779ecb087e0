/-
  Layer 17, the document's cache: At, Drop. Conditions: none.
-/
import Derived.Test.YteedlenelfidcaaCacAt
namespace Go.Proofs.Yteedlenelfidcaa.Cac
set_option maxRecDepth 100000
open Go.RowKit Go.Deep Go.Proofs.Yteedlenelfidcaa.Mem

abbrev CrAt := CxAt 32 40
abbrev CrStep := CxStep 32 40
abbrev Ap (w0 : World) (dz : Bool) (v : Value) (l : List En) (dx : Bool) (vx : Value) (p : En) (W : World) : Prop := ApG 40 4 En.vals w0 dz v l dx vx p W
theorem el_re : Elem 30 40 (.agg #[.int .i64 0, .int .i64 0, .int .i64 0, .int .i64 0]) 4 32 := ⟨Try.underlying30, by kernel_rfl, rfl, by decide, by decide⟩
section
variable {B rb ac : Nat} {w : World} {R : Cc} {A : Option Addr}
set_option maxHeartbeats 1000000 in
theorem RAt_any (h : CrAt B w rb R A ac) (c : Int) : Calls Try.prog 15 #[.pointer (some ⟨rb, 0, none⟩), .int .i64 c] w fun e w' => e = .returned (.int .i64 (atE c R.l 0)) ∧ w' = w := by
  obtain ⟨n, hn⟩ : ∃ n, R.l.length = n := ⟨_, rfl⟩
  have HN := Lib.hid hn
  have c1 := h.cel.cell (j := 1) rfl
  rw [hn] at c1
  have HR := Lib.hid h
  have hn2 : n ≤ 16 := by rw [← hn]; exact h.len
  obtain ⟨ans, hans⟩ : ∃ X, atE c R.l 0 = X := ⟨_, rfl⟩
  have HA := Lib.hid hans
  rw [hans]
  clear h hn hans
  go_enter Try.func15, Try.ntmps15
  go_wp2_with fail
  go_loopw [5] (fun i wr => ∃ (ii : Nat), ii ≤ n ∧ i = .int .i64 (ii : Int) ∧ Hid (∀ t ∈ R.l.take ii, t.cell ≠ c) ∧ wr = w) (fun i _ => n - (intOf i).toNat)
  case atStart => exact ⟨0, Nat.zero_le _, rfl, Lib.hid (fun t ht => by cases ht), rfl⟩
  case round =>
    obtain ⟨ii, hii, rfl, HF, rfl⟩ := hrel
    by_cases hin : ii < n
    · have hil : ii < R.l.length := by rw [HN.out]; exact hin
      obtain ⟨t, ht⟩ : ∃ t, R.l[ii] = t := ⟨_, rfl⟩
      obtain ⟨g, rfl, hrg, hzz⟩ := HR.out.at hil
      rw [ht] at hrg
      have x0 := hrg 0 _ rfl
      rw [Nat.add_zero] at x0
      have HV : Hid (t.cell = c → ans = (ii : Int)) := Lib.hid fun e => by
        rw [← HA.out, atE_drop c R.l ii HF.out, List.drop_eq_getElem_cons hil, ht]
        show (if t.cell = c then (ii : Int) else _) = _
        rw [if_pos e]
      have HF2 : Hid (t.cell ≠ c → ∀ u ∈ R.l.take (ii + 1), u.cell ≠ c) := Lib.hid fun e u hu => by
        rw [List.take_succ_eq_append_getElem hil, List.mem_append] at hu
        rcases hu with hu | hu
        · exact HF.out u hu
        · rw [List.mem_singleton.1 hu, ht]
          exact e
      clear hrg ht hzz hil
      by_cases htc : t.cell = c
      · have e1 : (t.cell == c) = true := by simpa using htc
        have HV2 := Lib.hid (HV.out htc)
        clear htc
        go_wp2_with fail
        go_returns
        exact ⟨ret_int HV2.out.symm, rfl⟩
      · have e1 : (t.cell == c) = false := by simpa using htc
        have HF3 := Lib.hid (HF2.out htc)
        clear htc
        go_wp2_with fail
        go_roundw
        case rel => exact ⟨ii + 1, by omega, by go_num, HF3, by trivial⟩
        case measure => simp [intOf]; omega
    · obtain rfl : ii = n := by omega
      have HV : Hid (ans = -1) := Lib.hid (by rw [← HA.out, atE_drop c R.l ii HF.out, List.drop_of_length_le (by rw [HN.out]; exact Nat.le_refl _)]; rfl)
      go_wp2_with fail
      go_returns
      exact ⟨ret_int HV.out.symm, rfl⟩
set_option maxHeartbeats 2000000 in
theorem RDrop_any (h : CrAt B w rb R A ac) (c : Int) (hB : B ≤ w.heap.size) : Calls Try.prog 16 #[.pointer (some ⟨rb, 0, none⟩), .int .i64 c] w fun e w' => e = .returned (.bool (hasE c R.l)) ∧ CrStep B rb A w (dropE R c).2 w' := by
  have HC := Lib.hid (RAt_any h c)
  unfold dropE hasE
  dsimp only
  have HH := Lib.hid h
  rcases atE_spec c R.l 0 with ⟨h1, h2, h3, _⟩ | ⟨ii, hii, h1, h2, h3, h4⟩
  · rw [h2, h3]
    rw [h1] at HC
    clear h h1 h2 h3
    go_enter Try.func16, Try.ntmps16
    go_wp2_with fail
    refine HC.out.mono ?_
    rintro e _ ⟨rfl, rfl⟩
    go_wp2_with fail
    go_returns
    exact ⟨rfl, CxStep.same HH.out (Below.refl _ _)⟩
  · rw [h2, h3]
    rw [Nat.zero_add] at h1
    rw [h1] at HC
    obtain ⟨g, rfl, hzz⟩ := h.at hii
    clear hzz
    show Calls _ _ _ _ fun e w' => e = .returned (.bool true) ∧ _
    obtain ⟨n, hn⟩ : ∃ n, R.l.length = n := ⟨_, rfl⟩
    have HN := Lib.hid hn
    have HII := Lib.hid hii
    have HLE := Lib.hid h.len
    have HBW0 := Lib.hid hB
    clear h h1 h2 h3 h4 hB hn hii
    go_enter Try.func16, Try.ntmps16
    go_wp2_with fail
    refine HC.out.mono ?_
    rintro e we ⟨rfl, hwe⟩
    have HR : Hid (CrAt B we rb R (some ⟨g, 0, none⟩) ac) := Lib.hid (by rw [hwe]; exact HH.out)
    have HBW : Hid (B ≤ we.heap.size) := Lib.hid (by rw [hwe]; exact HBW0.out)
    have HWE := Lib.hid hwe
    obtain ⟨p, hp⟩ : ∃ p : En, p = en0 := ⟨_, rfl⟩
    obtain ⟨hac, AD, hAD, hDS⟩ := HR.out.behind HII.out
    have HAD := Lib.hid hAD
    have HDS := Lib.hid hDS
    have HTS : Hid (∀ wi, Below we.heap.size we wi → Sl wi (some ⟨g, 0, none⟩) 4 ((R.l.take ii).map En.vals)) := Lib.hid (fun wi hb => by rw [List.map_take]; exact sl_take' (HR.out.later hb).sl ii)
    have HI : Hid (ii < n ∧ n ≤ ac ∧ n ≤ 16 ∧ (R.l.take ii).length = ii ∧ (R.l.drop (ii + 1)).length = n - (ii + 1)) := Lib.hid ⟨by rw [← HN.out]; exact HII.out, by rw [← HN.out]; exact hac, by rw [← HN.out]; exact HLE.out, by rw [List.length_take]; have := HII.out; omega, by rw [List.length_drop, HN.out]⟩
    have HFL : Hid ((R.l.take ii ++ R.l.drop (ii + 1)).length ≤ 16) := Lib.hid (by have := HI.out; rw [List.length_append]; omega)
    clear hwe HC hp hac hAD hDS
    go_upto_region 4 with (fail)
    refine Reg.region_inv (by kernel_rfl) (fun i => ([some (.pointer (some ⟨rb, 0, none⟩)), none, some (.pointer (some ⟨rb, 0, none⟩)), some (.pointer (some ⟨rb, 0, none⟩)), some (.pointer (some ⟨rb, 1, none⟩)), some (.slice (some ⟨g, 0, none⟩) n ac), some (.int .i64 (ii : Int)), some (.slice (some ⟨g, 0, none⟩) ii ac), none, some (.pointer (some ⟨rb, 0, none⟩)), some (.pointer (some ⟨rb, 0, none⟩)), some (.pointer (some ⟨rb, 1, none⟩)), some (.slice (some ⟨g, 0, none⟩) n ac), some (.int .i64 (ii : Int)), some (.int .i64 ((ii : Int) + 1)), some (.slice (some AD) (n - (ii + 1)) (ac - (ii + 1))), none, some (.pointer (some ⟨rb, 0, none⟩)), some (.pointer (some ⟨rb, 1, none⟩)), none] : List (Option Value)).getD i none) (fun D V W => (D 19 = false → Ap we (D 1) (cond (D 16) (V 16) (cond (D 8) (V 8) (V 1))) (cond (D 16) (R.l.take ii ++ R.l.drop (ii + 1)) (cond (D 8) (R.l.take ii) ([]))) (false) (undef) p W) ∧ (D 19 = true → CrStep B rb (some ⟨g, 0, none⟩) we { R with l := R.l.take ii ++ R.l.drop (ii + 1) } W)) (fun V => [(some 11, V 0), (some 12, V 1), (some 13, V 2), (some 14, V 3), (some 15, V 4), (some 16, V 5), (some 17, V 6), (some 18, V 7), (some 19, V 8), (some 20, V 9), (some 21, V 10), (some 22, V 11), (some 23, V 12), (some 24, V 13), (some 25, V 14), (some 26, V 15), (some 27, V 16), (some 28, V 17), (some 29, V 18), (none, V 19)]) (by kernel_rfl) (by kernel_rfl) (fun V => rfl) ?_ ?_ ?_
    · intro V
      exact ⟨fun _ => ApG.start (Below.refl _ _).drew _ _ _ _, fun e => (by cases e)⟩
    · intro i o ho
      have hi : i < 20 := (Array.getElem?_eq_some_iff.1 ho).1
      rcases i with _ | _ | _ | _ | _ | _ | _ | _ | _ | _ | _ | _ | _ | _ | _ | _ | _ | _ | _ | _ | i
      rotate_right
      · omega
      all_goals obtain rfl := Option.some.inj ho
      all_goals intro D V ρ wi hE hI hDi hT hF hs hd hk
      · have e0 : ρ (.tmp 0) = .pointer (some ⟨rb, 0, none⟩) := hs 0; clear hT hF hk
        exact Reg.Gives.value (v := .pointer (some ⟨rb, 0, none⟩)) (w' := wi) (by go_simp) ⟨fun x h => Option.some.inj h, hI⟩
      · have hD1 : D 1 = false := hDi; have hD8 : D 8 = false := hF 1 8; have hD16 : D 16 = false := hF 2 16; have hD19 : D 19 = false := hF 1 19; clear hT hF; have h1 := hI.1 hD19
        rw [hD1] at h1
        rw [hD8] at h1
        rw [hD16] at h1
        simp only [cond_false] at h1
        exact Reg.Gives.value (v := .slice (some ⟨wi.heap.size, 0, none⟩) 0 0) (w' := wi.alloc (.cells #[] 40)) (by go_simp) ⟨fun x h => (by cases h), by show ((D 19) = false → Ap we true (cond (D 16) (V 16) (cond (D 8) (V 8) (.slice (some ⟨wi.heap.size, 0, none⟩) 0 0))) (cond (D 16) (R.l.take ii ++ R.l.drop (ii + 1)) (cond (D 8) (R.l.take ii) [])) false undef p (wi.alloc (.cells #[] 40))) ∧ ((D 19) = true → CrStep B rb (some ⟨g, 0, none⟩) we { R with l := R.l.take ii ++ R.l.drop (ii + 1) } (wi.alloc (.cells #[] 40))); rw [hD8, hD16, hD19]; simp only [cond_false]; exact ⟨fun _ => h1.mkz, fun e => by cases e⟩⟩
      · have e0 : ρ (.tmp 0) = .pointer (some ⟨rb, 0, none⟩) := hs 0; clear hT hF hk
        exact Reg.Gives.value (v := .pointer (some ⟨rb, 0, none⟩)) (w' := wi) (by go_simp) ⟨fun x h => Option.some.inj h, hI⟩
      · have e13 : ρ (.tmp 13) = .pointer (some ⟨rb, 0, none⟩) := (hd 2 13).trans (hk 2 _ rfl); clear hT hF hk
        exact Reg.Gives.value (v := .pointer (some ⟨rb, 0, none⟩)) (w' := wi) (by go_simp) ⟨fun x h => Option.some.inj h, hI⟩
      · have e14 : ρ (.tmp 14) = .pointer (some ⟨rb, 0, none⟩) := (hd 3 14).trans (hk 3 _ rfl); clear hT hF hk
        exact Reg.Gives.value (v := .pointer (some ⟨rb, 1, none⟩)) (w' := wi) (by go_simp) ⟨fun x h => Option.some.inj h, hI⟩
      · have e15 : ρ (.tmp 15) = .pointer (some ⟨rb, 1, none⟩) := (hd 4 15).trans (hk 4 _ rfl); have hD19 : D 19 = false := hF 1 19; clear hT hF; have hL : Below we.heap.size we wi := (hI.1 hD19).low; have x0 := (HR.out.later hL).cel.cell (j := 1) rfl
        rw [HN.out] at x0
        exact Reg.Gives.value (v := .slice (some ⟨g, 0, none⟩) n ac) (w' := wi) (by go_simp) ⟨fun x h => Option.some.inj h, hI⟩
      · have e5 : ρ (.tmp 5) = .int .i64 (ii : Int) := hs 5; clear hT hF hk
        exact Reg.Gives.value (v := .int .i64 (ii : Int)) (w' := wi) (by go_simp) ⟨fun x h => Option.some.inj h, hI⟩
      · have e16 : ρ (.tmp 16) = .slice (some ⟨g, 0, none⟩) n ac := (hd 5 16).trans (hk 5 _ rfl); have e17 : ρ (.tmp 17) = .int .i64 (ii : Int) := (hd 6 17).trans (hk 6 _ rfl); have hD19 : D 19 = false := hF 1 19; clear hT hF; have hL : Below we.heap.size we wi := (hI.1 hD19).low; have z0 := HI.out.1
        have z1 : ii ≤ ac := by have := HI.out; omega
        have z2 : ii ≤ n := by have := HI.out; omega
        have z3 : (ii : Int) ≤ (ac : Int) := by omega
        exact Reg.Gives.value (v := .slice (some ⟨g, 0, none⟩) ii ac) (w' := wi) (by go_simp) ⟨fun x h => Option.some.inj h, hI⟩
      · have e12 : ρ (.tmp 12) = V 1 := hd 1 12; have e18 : ρ (.tmp 18) = .slice (some ⟨g, 0, none⟩) ii ac := (hd 7 18).trans (hk 7 _ rfl); have hD1 : D 1 = true := hT 1 1; have hD8 : D 8 = false := hDi; have hD16 : D 16 = false := hF 1 16; have hD19 : D 19 = false := hF 1 19; clear hT hF; have h1 := hI.1 hD19
        rw [hD1] at h1
        rw [hD8] at h1
        rw [hD16] at h1
        simp only [cond_false] at h1
        have hL := h1.low
        obtain ⟨A2, n2, c2, w2, hrun, hn⟩ := ApG.app el_re fit_es h1 (m := R.l.take ii) (HTS.out wi hL) (fun e => by cases e) (by have := HR.out.len; simp; omega)
        rw [HI.out.2.2.2.1] at hrun
        exact Reg.Gives.value (v := .slice A2 n2 c2) (w' := w2) (Reg.exec_append rfl e12 e18 hrun) ⟨fun x h => (by cases h), by show ((D 19) = false → Ap we (D 1) (cond (D 16) (V 16) (cond true (.slice A2 n2 c2) (V 1))) (cond (D 16) (R.l.take ii ++ R.l.drop (ii + 1)) (cond true (R.l.take ii) [])) false undef p w2) ∧ ((D 19) = true → CrStep B rb (some ⟨g, 0, none⟩) we { R with l := R.l.take ii ++ R.l.drop (ii + 1) } w2); rw [hD1, hD16, hD19]; simp only [cond_false, cond_true]; exact ⟨fun _ => hn, fun e => by cases e⟩⟩
      · have e0 : ρ (.tmp 0) = .pointer (some ⟨rb, 0, none⟩) := hs 0; clear hT hF hk
        exact Reg.Gives.value (v := .pointer (some ⟨rb, 0, none⟩)) (w' := wi) (by go_simp) ⟨fun x h => Option.some.inj h, hI⟩
      · have e20 : ρ (.tmp 20) = .pointer (some ⟨rb, 0, none⟩) := (hd 9 20).trans (hk 9 _ rfl); clear hT hF hk
        exact Reg.Gives.value (v := .pointer (some ⟨rb, 0, none⟩)) (w' := wi) (by go_simp) ⟨fun x h => Option.some.inj h, hI⟩
      · have e21 : ρ (.tmp 21) = .pointer (some ⟨rb, 0, none⟩) := (hd 10 21).trans (hk 10 _ rfl); clear hT hF hk
        exact Reg.Gives.value (v := .pointer (some ⟨rb, 1, none⟩)) (w' := wi) (by go_simp) ⟨fun x h => Option.some.inj h, hI⟩
      · have e22 : ρ (.tmp 22) = .pointer (some ⟨rb, 1, none⟩) := (hd 11 22).trans (hk 11 _ rfl); have hD19 : D 19 = false := hF 1 19; clear hT hF; have hL : Below we.heap.size we wi := (hI.1 hD19).low; have x0 := (HR.out.later hL).cel.cell (j := 1) rfl
        rw [HN.out] at x0
        exact Reg.Gives.value (v := .slice (some ⟨g, 0, none⟩) n ac) (w' := wi) (by go_simp) ⟨fun x h => Option.some.inj h, hI⟩
      · have e5 : ρ (.tmp 5) = .int .i64 (ii : Int) := hs 5; clear hT hF hk
        exact Reg.Gives.value (v := .int .i64 (ii : Int)) (w' := wi) (by go_simp) ⟨fun x h => Option.some.inj h, hI⟩
      · have e24 : ρ (.tmp 24) = .int .i64 (ii : Int) := (hd 13 24).trans (hk 13 _ rfl); have hc := hE.const; have hD19 : D 19 = false := hF 1 19; clear hT hF; have hL : Below we.heap.size we wi := (hI.1 hD19).low
        have z0 : IntKind.i64.wrap ((ii : Int) + 1) = (ii : Int) + 1 := IntWalk.i64_in _ (by have := HI.out; omega)
        exact Reg.Gives.value (v := .int .i64 ((ii : Int) + 1)) (w' := wi) (by go_simp) ⟨fun x h => Option.some.inj h, hI⟩
      · have e23 : ρ (.tmp 23) = .slice (some ⟨g, 0, none⟩) n ac := (hd 12 23).trans (hk 12 _ rfl); have e25 : ρ (.tmp 25) = .int .i64 ((ii : Int) + 1) := (hd 14 25).trans (hk 14 _ rfl); have hD19 : D 19 = false := hF 1 19; clear hT hF; have hL : Below we.heap.size we wi := (hI.1 hD19).low
        have z1 : ii + 1 ≤ n := by have := HI.out; omega
        have z2 : ii + 1 ≤ ac := by have := HI.out; omega
        have z3 : (0 : Int) ≤ (ii : Int) + 1 := by omega
        have z4 : (ii : Int) + 1 ≤ (n : Int) := by omega
        have z5 := HAD.out
        exact Reg.Gives.value (v := .slice (some AD) (n - (ii + 1)) (ac - (ii + 1))) (w' := wi) (by go_simp) ⟨fun x h => Option.some.inj h, hI⟩
      · have e19 : ρ (.tmp 19) = V 8 := hd 8 19; have e26 : ρ (.tmp 26) = .slice (some AD) (n - (ii + 1)) (ac - (ii + 1)) := (hd 15 26).trans (hk 15 _ rfl); have hD1 : D 1 = true := hT 2 1; have hD8 : D 8 = true := hT 1 8; have hD16 : D 16 = false := hDi; have hD19 : D 19 = false := hF 1 19; clear hT hF; have h1 := hI.1 hD19
        rw [hD1] at h1
        rw [hD8] at h1
        rw [hD16] at h1
        simp only [cond_false, cond_true] at h1
        have hL := h1.low
        obtain ⟨A2, n2, c2, w2, hrun, hn⟩ := ApG.app el_re fit_es h1 (m := R.l.drop (ii + 1)) (HDS.out wi hL) (fun e => by cases e) (by have := HR.out.len; simp; omega)
        rw [HI.out.2.2.2.2] at hrun
        exact Reg.Gives.value (v := .slice A2 n2 c2) (w' := w2) (Reg.exec_append rfl e19 e26 hrun) ⟨fun x h => (by cases h), by show ((D 19) = false → Ap we (D 1) (cond true (.slice A2 n2 c2) (cond (D 8) (V 8) (V 1))) (cond true (R.l.take ii ++ R.l.drop (ii + 1)) (cond (D 8) (R.l.take ii) [])) false undef p w2) ∧ ((D 19) = true → CrStep B rb (some ⟨g, 0, none⟩) we { R with l := R.l.take ii ++ R.l.drop (ii + 1) } w2); rw [hD1, hD8, hD19]; simp only [cond_true]; exact ⟨fun _ => hn, fun e => by cases e⟩⟩
      · have e11 : ρ (.tmp 11) = .pointer (some ⟨rb, 0, none⟩) := (hd 0 11).trans (hk 0 _ rfl); clear hT hF hk
        exact Reg.Gives.value (v := .pointer (some ⟨rb, 0, none⟩)) (w' := wi) (by go_simp) ⟨fun x h => Option.some.inj h, hI⟩
      · have e28 : ρ (.tmp 28) = .pointer (some ⟨rb, 0, none⟩) := (hd 17 28).trans (hk 17 _ rfl); clear hT hF hk
        exact Reg.Gives.value (v := .pointer (some ⟨rb, 1, none⟩)) (w' := wi) (by go_simp) ⟨fun x h => Option.some.inj h, hI⟩
      · have e29 : ρ (.tmp 29) = .pointer (some ⟨rb, 1, none⟩) := (hd 18 29).trans (hk 18 _ rfl); have e27 : ρ (.tmp 27) = V 16 := hd 16 27; have hD1 : D 1 = true := hT 1 1; have hD8 : D 8 = true := hT 1 8; have hD16 : D 16 = true := hT 1 16; have hD19 : D 19 = false := hDi; clear hT hF; have h1 := hI.1 hD19
        rw [hD1] at h1
        rw [hD8] at h1
        rw [hD16] at h1
        simp only [cond_true] at h1
        have hac := h1.acc rfl; have hrl := HR.out.later h1.low; have x0 := hrl.cel.cell (j := 1) rfl
        have x1 := hrl.cel.frozen (j := 1) (by simp)
        have hfin := HR.out.newL HBW.out h1.low hac (by exact HFL.out)
        obtain ⟨A2, c2, hv2⟩ := row_slice hac; obtain ⟨n3, hn3⟩ : ∃ n3, List.length (R.l.take ii ++ R.l.drop (ii + 1)) = n3 := ⟨_, rfl⟩
        rw [hn3] at hv2
        rw [hv2] at hfin
        have e9 := e27
        rw [hv2] at e9
        clear e27
        exact Reg.Gives.skip (w' := wi.setCell ⟨rb, 1, none⟩ (.slice A2 n3 c2)) (by go_simp) ⟨fun x h => (by cases h), by show (true = false → Ap we (D 1) (cond (D 16) (V 16) (cond (D 8) (V 8) (V 1))) (cond (D 16) (R.l.take ii ++ R.l.drop (ii + 1)) (cond (D 8) (R.l.take ii) [])) false undef p (wi.setCell ⟨rb, 1, none⟩ (.slice A2 n3 c2))) ∧ (true = true → CrStep B rb (some ⟨g, 0, none⟩) we { R with l := R.l.take ii ++ R.l.drop (ii + 1) } (wi.setCell ⟨rb, 1, none⟩ (.slice A2 n3 c2))); exact ⟨fun e => (by cases e), fun _ => hfin⟩⟩
    · intro V wf hk hI
      simp only [Reg.putsO, List.foldl_cons, List.foldl_nil, Act.put, List.setIfInBounds_toArray, List.set_cons_succ, List.set_cons_zero]
      replace hI : ((fun _ => true) 19 = false → Ap we true (cond true (V 16) (cond true (V 8) (V 1))) (cond true (R.l.take ii ++ R.l.drop (ii + 1)) (cond true (R.l.take ii) ([]))) (false) (undef) p wf) ∧ ((fun _ => true) 19 = true → CrStep B rb (some ⟨g, 0, none⟩) we { R with l := R.l.take ii ++ R.l.drop (ii + 1) } wf) := hI
      clear hk
      have HS := Lib.hid (hI.2 rfl)
      clear hI
      go_wp2_with fail
      go_returns
      exact ⟨rfl, by rw [← HWE.out]; exact HS.out⟩
end
end Go.Proofs.Yteedlenelfidcaa.Cac
