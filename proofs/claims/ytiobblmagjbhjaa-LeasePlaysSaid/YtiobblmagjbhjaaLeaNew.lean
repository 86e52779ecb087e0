/-
  Layer 18: New and Held of a table of leases; a table that isn't there. Conditions: none.
-/
import Derived.Test.YtiobblmagjbhjaaLeaGo
import Derived.Great.Walk
namespace Go.Proofs.Ytiobblmagjbhjaa.Lea
set_option maxRecDepth 100000
open Go.RowKit Go.Deep Go.Proofs.Ytiobblmagjbhjaa.Mem

theorem made_slots (n : Nat) (h : n ≤ 16) : (madeCells (Value.agg #[.int .i64 0, .int .i64 0, .int .i64 0, .int .i64 0, .bool false]).cells (n * 5)).toList = ((List.replicate n sv0).map Sv.vals).flatten := by
  rcases n with _ | _ | _ | _ | _ | _ | _ | _ | _ | _ | _ | _ | _ | _ | _ | _ | _ | n
  rotate_right
  · omega
  all_goals kernel_rfl
theorem exec_make {P : Program} {ρ : Operand → Value} {o : Oper} (ty : TypeId) (x u : Operand) (ho : o.op = .makeSlice ty x u) (l c : Value) (hx : ρ x = l) (hu : ρ u = c) {w w' : World} {v : Value} (hrun : (Instr.makeSlice ty l c).run P w = .ok v w') :
    (execOp ρ o).run P w = .ok (.value v) w' := by
  unfold execOp
  simp only [ho, hx, hu, Sem.run_bind, Sem.run_pure, Result.andThen_ok, hrun]
set_option maxHeartbeats 1000000 in
theorem New_any (w : World) (n : Nat) (h1 : 1 ≤ n) (h2 : n ≤ 16) : Calls Try.prog 9 #[.int .i64 (n : Int)] w fun e w' => ∃ tb g, e = .returned (.tuple #[.pointer (some ⟨tb, 0, none⟩), .int .i64 0]) ∧ Tb w.heap.size w' tb g (List.replicate n sv0) ∧ Below w.heap.size w w' := by
  obtain ⟨i0, hi, hz0, hz1, hz2⟩ := info_parts el_sv.info
  obtain ⟨w1, hmk, hrow, hgr⟩ := run_makeSlice_full (P := Try.prog) (w := w) w.heap.size 61 66 i0 _ 5 Try.underlying61 hi hz0 hz1 .i64 .i64 n (by omega) (by rw [hz2]; omega) (by unfold maxLen; omega) (Nat.le_refl _)
  rw [made_slots n h2] at hrow
  have hb1 : Below w.heap.size w w1 := (Below.refl _ _).grown hgr (Nat.le_refl _) (fun k e => by cases e)
  obtain ⟨g, hg⟩ : ∃ g, w.heap.size = g := ⟨_, rfl⟩
  have hlt : g < w1.heap.size := by
    have := (hrow.lt g (by rw [hg]; rfl)).2
    exact this
  obtain ⟨w2, hw2⟩ : ∃ W, W = w1.alloc (.cells #[.slice (some ⟨g, 0, none⟩) n n] 63) := ⟨_, rfl⟩
  have hb2 : Below w1.heap.size w1 w2 := by rw [hw2]; exact below_alloc _ _
  have hc2 : Cells w2 w1.heap.size 63 [.slice (some ⟨g, 0, none⟩) n n] := by rw [hw2]; exact cells_new _ _ _ _ rfl
  have hlen : (List.replicate n sv0).length = n := List.length_replicate
  have HT : Hid (Tb w.heap.size w2 w1.heap.size g (List.replicate n sv0)) := Lib.hid ⟨by rw [hlen]; exact hc2, by
      unfold OwnG
      rw [hlen]
      have := own_later hrow hb2
      rwa [hg] at this ⊢, by omega, hb1.size, Tok.new h2⟩
  have HB := Lib.hid (hb1.trans (hb2.mono hb1.size))
  rw [hg] at hmk
  have HMK := Lib.hid hmk
  have e1 : decide ((n : Int) < 1) = false := by simp; omega
  have e2 : decide ((n : Int) > 16) = false := by simp; omega
  clear hi hz0 hz1 hz2 hmk hrow hgr hb1 hb2 hc2 hlen hlt hg
  go_enter Try.func9, Try.ntmps9
  go_upto_region 3 with (fail)
  apply wp_region_lit
  refine Go.Great.wpList_runTo rfl (some 10) rfl (.int .i64 (n : Int)) _ (by rfl) ?_
  refine Go.Great.wpList_runTo rfl (some 11) rfl (.slice (some ⟨g, 0, none⟩) n n) w1 (exec_make _ _ _ rfl _ _ rfl rfl HMK.out) ?_
  go_wp2_with fail
  rw [← hw2]
  go_returns
  exact ⟨_, _, rfl, HT.out, HB.out⟩
theorem New_bad (w : World) (n : Int) (h : n < 1 ∨ 16 < n) : Calls Try.prog 9 #[.int .i64 n] w fun e w' => e = .returned (.tuple #[.pointer none, .int .i64 1]) ∧ w' = w := by
  by_cases h1 : n < 1
  · have e1 : decide (n < 1) = true := by simpa using h1
    clear h
    go_enter Try.func9, Try.ntmps9
    go_wp2_with fail
    go_returns
    exact ⟨rfl, rfl⟩
  · have e1 : decide (n < 1) = false := by simpa using h1
    have e2 : decide (n > 16) = true := by simp; omega
    clear h
    go_enter Try.func9, Try.ntmps9
    go_wp2_with fail
    go_returns
    exact ⟨rfl, rfl⟩
section
variable {B tb g : Nat} {w w1 : World} {T : List Sv}
set_option maxHeartbeats 1000000 in
theorem Held_any (h : Tb B w tb g T) : Calls Try.prog 18 #[.pointer (some ⟨tb, 0, none⟩)] w fun e w' => e = .returned (.int .i64 (cntT T : Int)) ∧ Below w.heap.size w w' := by
  have c0 := h.box.cell (j := 0) rfl
  obtain ⟨m, hm⟩ : ∃ m, T.length = m := ⟨_, rfl⟩
  rw [hm] at c0
  have HM := Lib.hid hm
  have hm16 : m ≤ 16 := by rw [← hm]; exact h.ok.len
  have HH := Lib.hid h
  obtain ⟨ans, hans⟩ : ∃ n, cntT T = n := ⟨_, rfl⟩
  have HA := Lib.hid hans
  rw [hans]
  clear h hm hans
  go_enter Try.func18, Try.ntmps18
  go_wp2_with fail
  clear c0
  go_loopw [3, 5, 13] (fun a _ i wr => ∃ k : Nat, k ≤ m ∧ i = .int .i64 (k : Int) ∧ a = .int .i64 (cntT (T.take k) : Int) ∧ Hid (Below w.heap.size w wr)) (fun _ _ i _ => m - (intOf i).toNat)
  case atStart => exact ⟨0, Nat.zero_le _, rfl, rfl, Lib.hid (Below.refl _ _)⟩
  case round =>
    obtain ⟨k, hk, rfl, rfl, HB⟩ := hrel
    by_cases hlt : k < m
    · have hkT : k < T.length := by rw [HM.out]; exact hlt
      have hel := (HH.out.later HB.out).elem hkT
      have hcm := cnt_more hkT
      have hcl := cnt_le (T.take k)
      rw [List.length_take] at hcl
      obtain ⟨s, hs⟩ : ∃ s, T[k] = s := ⟨_, rfl⟩
      rw [hs] at hel hcm
      have x0 : wr.cell? ⟨g, k * 5, none⟩ = _ := hel.cell (j := 0) rfl
      have x1 := hel.cell (j := 1) rfl
      have x2 := hel.cell (j := 2) rfl
      have x3 := hel.cell (j := 3) rfl
      have x4 := hel.cell (j := 4) rfl
      obtain ⟨z, hz⟩ : ∃ z, cntT (T.take k) = z := ⟨_, rfl⟩
      rw [hz] at hcm hcl ⊢
      have hz16 : z ≤ 16 := by omega
      have HCM := Lib.hid hcm
      obtain ⟨wb, hwb⟩ : ∃ W, W = wr.alloc (.cells #[.int .i64 s.tid.node, .int .i64 s.tid.epoch, .int .i64 s.tid.seq, .int .i64 s.til, .bool s.held] 66) := ⟨_, rfl⟩
      have hbb : Below wr.heap.size wr wb := by rw [hwb]; exact below_alloc _ _
      have hcb : Cells wb wr.heap.size 66 s.vals := by rw [hwb]; exact cells_new _ _ _ _ rfl
      have y4 := hcb.cell (j := 4) rfl
      have HBB := Lib.hid (HB.out.trans (hbb.mono HB.out.size))
      clear hkT hel hcm hcl hs hz hbb hcb
      go_upto_region 7 with (fail)
      rw [← hwb]
      clear hwb x0 x1 x2 x3 x4
      obtain ⟨sh, hsh⟩ : ∃ b, s.held = b := ⟨_, rfl⟩
      have HSH := Lib.hid hsh
      rw [hsh] at y4
      clear hsh
      cases sh with
      | false =>
        have HE : Hid (cntT (T.take (k + 1)) = z) := Lib.hid (by rw [HCM.out, HSH.out]; rfl)
        go_wp2_with fail
        go_roundw
        case rel => exact ⟨k + 1, by omega, by go_num, congrArg (Value.int .i64) (by rw [HE.out]), HBB⟩
        case measure => simp [intOf]; omega
      | true =>
        have HE : Hid ((cntT (T.take (k + 1)) : Int) = (z : Int) + 1) := Lib.hid (by rw [HCM.out, HSH.out]; rfl)
        have hw : IntKind.i64.wrap ((z : Int) + 1) = (z : Int) + 1 := IntWalk.i64_in _ (by omega)
        go_wp2_with fail
        go_roundw
        case rel => exact ⟨k + 1, by omega, by go_num, congrArg (Value.int .i64) (by rw [HE.out]), HBB⟩
        case measure => simp [intOf]; omega
    · obtain rfl : k = m := by omega
      have HE : Hid (cntT (T.take k) = ans) := Lib.hid (by rw [List.take_of_length_le (Nat.le_of_eq HM.out)]; exact HA.out)
      rw [HE.out]
      go_wp2_with fail
      go_returns
      exact ⟨rfl, HB.out⟩
theorem Held_nil (w : World) : Calls Try.prog 18 #[.pointer none] w fun e w' => e = .returned (.int .i64 0) ∧ w' = w := by
  go_enter Try.func18, Try.ntmps18
  go_wp2_with fail
  go_returns
  exact ⟨rfl, rfl⟩
theorem May_nil (who : Lt) (v : Value) (w : World) : Calls Try.prog 17 #[.pointer none, .agg #[.int .i64 who.node, .int .i64 who.epoch, .int .i64 who.seq], v] w fun e w' => e = .returned (.bool false) ∧ Below w.heap.size w w' := by
  obtain ⟨wa, hwa⟩ : ∃ W, W = w.alloc (.cells #[.int .i64 who.node, .int .i64 who.epoch, .int .i64 who.seq] 34) := ⟨_, rfl⟩
  have HB : Hid (Below w.heap.size w wa) := Lib.hid (by rw [hwa]; exact below_alloc _ _)
  go_enter Try.func17, Try.ntmps17
  go_upto_region 1 with (fail)
  rw [← hwa]
  clear hwa
  go_wp2_with fail
  refine (Has_nil v wa).mono ?_
  rintro e w2 ⟨rfl, rfl⟩
  go_wp2_with fail
  go_returns
  exact ⟨rfl, HB.out⟩
theorem Hold_nil (who : Lt) (u : Int) (v : Value) (w : World) : Calls Try.prog 10 #[.pointer none, .agg #[.int .i64 who.node, .int .i64 who.epoch, .int .i64 who.seq], .int .i64 u, v] w fun e w' => e = .returned (.int .i64 1) ∧ Below w.heap.size w w' := by
  obtain ⟨wa, hwa⟩ : ∃ W, W = w.alloc (.cells #[.int .i64 who.node, .int .i64 who.epoch, .int .i64 who.seq] 34) := ⟨_, rfl⟩
  have HB : Hid (Below w.heap.size w wa) := Lib.hid (by rw [hwa]; exact below_alloc _ _)
  go_enter Try.func10, Try.ntmps10
  go_upto_region 1 with (fail)
  rw [← hwa]
  clear hwa
  go_wp2_with fail
  refine (Has_nil v wa).mono ?_
  rintro e w2 ⟨rfl, rfl⟩
  go_wp2_with fail
  go_returns
  exact ⟨rfl, HB.out⟩
theorem Of_nil (c : Int) (w : World) :
    Calls Try.prog 19 #[.pointer none, .int .i64 c] w fun e w' => e = .returned (ofV sv0) ∧ Below w.heap.size w w' := by
  obtain ⟨wa, hwa⟩ : ∃ W, W = w.alloc (.cells #[.int .i64 0, .int .i64 0, .int .i64 0, .int .i64 0] 48) := ⟨_, rfl⟩
  have hba : Below w.heap.size w wa := by rw [hwa]; exact below_alloc _ _
  have hca : Cells wa w.heap.size 48 [.int .i64 0, .int .i64 0, .int .i64 0, .int .i64 0] := by rw [hwa]; exact cells_new _ _ _ _ rfl
  obtain ⟨wb, hwb⟩ : ∃ W, W = wa.alloc (.cells #[.int .i64 c] 3) := ⟨_, rfl⟩
  have hbb : Below wa.heap.size wa wb := by rw [hwb]; exact below_alloc _ _
  have hbw : Below w.heap.size w wb := hba.trans (hbb.mono hba.size)
  have hcc := hca.later hbb
  have z0 := hcc.cell (j := 0) rfl
  have z1 := hcc.cell (j := 1) rfl
  have z2 := hcc.cell (j := 2) rfl
  have z3 := hcc.cell (j := 3) rfl
  have f0 := hcc.frozen (j := 0) (by simp)
  have f1 := hcc.frozen (j := 1) (by simp)
  have f2 := hcc.frozen (j := 2) (by simp)
  have f3 := hcc.frozen (j := 3) (by simp)
  have HBW := Lib.hid hbw
  have HF := (((hcc.set_ 0 (.int .i64 0)).set_ 1 (.int .i64 0)).set_ 2 (.int .i64 0)).set_ 3 (.int .i64 0)
  clear hba hca hbb hbw hcc
  go_enter Try.func19, Try.ntmps19
  go_upto_region 1 with (fail)
  rw [← hwa]
  clear hwa
  go_wp2_with fail
  rw [← hwb]
  clear hwb
  refine (Has_nil _ wb).mono ?_
  rintro e w2 ⟨rfl, hw2⟩
  rw [hw2]
  clear hw2
  go_wp2_with fail
  refine bodyPost_ret (v := ofV sv0) ?_ rfl ?_
  · exact (ret_cell_tmp (p := 4) (q := 5) (ty := 48) (by rfl) _ HF _ (by rfl) Try.underlying48 rfl (by kernel_rfl)).trans (by rfl)
  · exact ⟨rfl, (((HBW.out.setCell (Nat.le_refl _) _).setCell (Nat.le_refl _) _).setCell (Nat.le_refl _) _).setCell (Nat.le_refl _) _⟩
end
end Go.Proofs.Ytiobblmagjbhjaa.Lea
