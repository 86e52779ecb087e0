/-
  Layer 12, the code's wheel: where a timer stands (place). Conditions: none.
-/
import Derived.Test.YtnbdgjaekjneaaaWhlRef
namespace Go.Proofs.Ytnbdgjaekjneaaa.Whl
set_option maxRecDepth 100000
open Go.RowKit Go.Deep Go.Proofs.Ytnbdgjaekjneaaa.Mem

theorem place1_any (t : Tm) (k : Ky) (p : Nat) (w : World) (h : Cells w p 34 k.vals) :
    Calls Try.prog 30 #[.agg t.vals.toArray, .pointer (some ⟨p, 0, none⟩)] w fun e w' => e = .returned (.bool (decide (t.1 = k))) ∧ Below w.heap.size w w' := by
  obtain ⟨x, due⟩ := t
  obtain ⟨wa, hwa⟩ : ∃ W, W = w.alloc (.cells #[.int .i64 x.kind, .int .i64 x.cell, .int .i64 x.node, .int .i64 x.tn, .int .i64 x.te, .int .i64 x.ts, .int .i64 due] 67) := ⟨_, rfl⟩
  have hba : Below w.heap.size w wa := by rw [hwa]; exact below_alloc _ _
  have hca : Cells wa w.heap.size 67 (Tm.vals (x, due)) := by rw [hwa]; exact cells_new _ _ _ _ rfl
  have y0 := hca.cell (j := 0) rfl
  have y1 := hca.cell (j := 1) rfl
  have y2 := hca.cell (j := 2) rfl
  have y3 := hca.cell (j := 3) rfl
  have y4 := hca.cell (j := 4) rfl
  have y5 := hca.cell (j := 5) rfl
  have hk := h.later hba
  have z0 := hk.cell (j := 0) rfl
  have z1 := hk.cell (j := 1) rfl
  have z2 := hk.cell (j := 2) rfl
  have z3 := hk.cell (j := 3) rfl
  have z4 := hk.cell (j := 4) rfl
  have z5 := hk.cell (j := 5) rfl
  have HB := Lib.hid hba
  obtain ⟨an, han⟩ : ∃ X, decide (x = k) = X := ⟨_, rfl⟩
  have heq : ∀ wi, (binOp .eql 34 (.agg #[.int .i64 x.kind, .int .i64 x.cell, .int .i64 x.node, .int .i64 x.tn, .int .i64 x.te, .int .i64 x.ts]) (.agg #[.int .i64 k.kind, .int .i64 k.cell, .int .i64 k.node, .int .i64 k.tn, .int .i64 k.te, .int .i64 k.ts])).run Try.prog wi = .ok (.bool an) wi := fun wi => by
    have h1 := key_eqc x k wi
    rw [han] at h1
    exact h1
  show Calls _ _ _ _ fun e w' => e = .returned (.bool (decide (x = k))) ∧ _
  rw [han]
  show Calls _ _ #[.agg #[.int .i64 x.kind, .int .i64 x.cell, .int .i64 x.node, .int .i64 x.tn, .int .i64 x.te, .int .i64 x.ts, .int .i64 due], .pointer (some ⟨p, 0, none⟩)] _ _
  clear hba hca hk h han
  go_enter Try.func30, Try.ntmps30
  go_upto_region 1 with (fail)
  rw [← hwa]
  clear hwa
  go_wp2_with fail
  go_returns
  exact ⟨rfl, HB.out⟩
set_option maxHeartbeats 1000000 in
theorem index_any (A : Option Addr) (l : List Tm) (cap p : Nat) (k : Ky) (w : World) (h : Sl w A 7 (l.map Tm.vals)) (hp : Cells w p 34 k.vals) (hl : l.length ≤ 1000) :
    Calls Try.prog 29 #[.slice A l.length cap, .func (.func 30) #[] #[.pointer (some ⟨p, 0, none⟩)]] w fun e w' => e = .returned (.int .i64 (atL k l 0)) ∧ Below w.heap.size w w' := by
  have HH := Lib.hid h
  have HP := Lib.hid hp
  obtain ⟨F, hF⟩ : ∃ F, atL k l 0 = F := ⟨_, rfl⟩
  have HF := Lib.hid hF
  rw [hF]
  obtain ⟨n, hn⟩ : ∃ n, l.length = n := ⟨_, rfl⟩
  have HN := Lib.hid hn
  rw [hn] at hl ⊢
  clear h hF hn hp
  go_enter Try.func29, Try.ntmps29
  go_wp2_with fail
  go_loopw [5, 8] (fun _ i wr => ∃ ii : Nat, ii ≤ n ∧ i = .int .i64 (ii : Int) ∧ Hid (∀ t ∈ l.take ii, t.1 ≠ k) ∧ Hid (Below w.heap.size w wr)) (fun _ i _ => n - (intOf i).toNat)
  case atStart => exact ⟨0, Nat.zero_le _, rfl, Lib.hid (fun t ht => by cases ht), Lib.hid (Below.refl _ _)⟩
  case round =>
    obtain ⟨ii, hii, rfl, hd, HB⟩ := hrel
    by_cases hlt : ii < n
    · have hil : ii < l.length := by have := HN.out; omega
      obtain ⟨⟨t, due⟩, ht⟩ : ∃ t, l[ii] = t := ⟨_, rfl⟩
      obtain ⟨g, off, hA, hr⟩ := (HH.out.later HB.out) ii (by rw [List.length_map]; exact hil)
      rw [List.getElem_map, ht] at hr
      subst hA
      have x0 := hr 0 _ rfl
      rw [Nat.add_zero] at x0
      have x1 := hr 1 _ rfl
      have x2 := hr 2 _ rfl
      have x3 := hr 3 _ rfl
      have x4 := hr 4 _ rfl
      have x5 := hr 5 _ rfl
      have x6 := hr 6 _ rfl
      have HC := Lib.hid (place1_any (t, due) k p wr (HP.out.later HB.out))
      unfold Tm.vals at HC
      obtain ⟨an, han⟩ : ∃ X, decide ((t, due).1 = k) = X := ⟨_, rfl⟩
      rw [han] at HC
      have HE : Hid (an = true → F = (ii : Int)) := Lib.hid (fun e => by
        rw [← HF.out, atL_drop k l ii hd.out, List.drop_eq_getElem_cons hil, ht]
        show (if t = k then (ii : Int) else _) = _
        rw [if_pos (of_decide_eq_true (han.trans e))])
      have HD2 : Hid (an = false → ∀ u ∈ l.take (ii + 1), u.1 ≠ k) := Lib.hid (fun e u hu => by
        rw [List.take_succ_eq_append_getElem hil, List.mem_append] at hu
        rcases hu with hu | hu
        · exact hd.out u hu
        · rw [List.mem_singleton.1 hu, ht]
          exact of_decide_eq_false (han.trans e))
      clear hr ht hil han
      go_wp2_with fail
      refine HC.out.mono ?_
      rintro e w2 ⟨rfl, hb2⟩
      have HB2 := Lib.hid (HB.out.trans (hb2.mono HB.out.size))
      clear hb2 x0 x1 x2 x3 x4 x5 x6
      cases an with
      | true =>
        have HE2 := Lib.hid (HE.out rfl)
        go_wp2_with fail
        go_returns
        exact ⟨ret_int HE2.out.symm, HB2.out⟩
      | false =>
        have HDD := Lib.hid (HD2.out rfl)
        go_wp2_with fail
        go_roundw
        case rel => exact ⟨ii + 1, by omega, by go_num, HDD, HB2⟩
        case measure => simp [intOf]; omega
    · have HE : Hid (F = -1) := Lib.hid (by
        rw [← HF.out, atL_drop k l ii hd.out, List.drop_of_length_le (by have := HN.out; omega)]; rfl)
      clear hd
      go_wp2_with fail
      go_returns
      exact ⟨ret_int HE.out.symm, HB.out⟩
/-- The code's wheel: where a timer stands. -/
theorem Place_any {B rb ac : Nat} {w : World} {R : Wr} {A : Option Addr} (h : WcAt B w rb R A ac) (k : Ky) :
    Calls Try.prog 24 #[.pointer (some ⟨rb, 0, none⟩), k.val] w fun e w' => e = .returned (.int .i64 (atL k R.l 0)) ∧ Below w.heap.size w w' := by
  obtain ⟨wa, hwa⟩ : ∃ W, W = w.alloc (.cells #[.int .i64 k.kind, .int .i64 k.cell, .int .i64 k.node, .int .i64 k.tn, .int .i64 k.te, .int .i64 k.ts] 34) := ⟨_, rfl⟩
  have hba : Below w.heap.size w wa := by rw [hwa]; exact below_alloc _ _
  have hca : Cells wa w.heap.size 34 k.vals := by rw [hwa]; exact cells_new _ _ _ _ rfl
  have hr := h.later hba
  have c1 := hr.cel.cell (j := 1) rfl
  have HC := Lib.hid (index_any A R.l ac w.heap.size k wa hr.sl hca (by have := h.len; omega))
  obtain ⟨n, hn⟩ : ∃ n, R.l.length = n := ⟨_, rfl⟩
  rw [hn] at c1 HC
  have HB := Lib.hid hba
  unfold Ky.val
  clear h hba hca hr hn
  go_enter Try.func24, Try.ntmps24
  go_upto_region 3 with (fail)
  rw [← hwa]
  clear hwa
  go_wp2_with fail
  refine HC.out.mono ?_
  rintro e w2 ⟨rfl, hb2⟩
  go_wp2_with fail
  go_returns
  exact ⟨rfl, HB.out.trans (hb2.mono HB.out.size)⟩
theorem Place_nil (w : World) (k : Ky) : Calls Try.prog 24 #[.pointer none, k.val] w fun e w' => e = .returned (.int .i64 (-1)) ∧ Below w.heap.size w w' := by
  have HB := Lib.hid (below_alloc w (.cells #[.int .i64 k.kind, .int .i64 k.cell, .int .i64 k.node, .int .i64 k.tn, .int .i64 k.te, .int .i64 k.ts] 34))
  unfold Ky.val
  go_enter Try.func24, Try.ntmps24
  go_wp2_with fail
  go_returns
  exact ⟨rfl, HB.out⟩
end Go.Proofs.Ytnbdgjaekjneaaa.Whl
