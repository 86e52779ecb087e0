/-
  Layer 12: plain, Same. Conditions: none.
-/
import Derived.Test.YtnbdgjaekjneaaaWhlRef
namespace Go.Proofs.Ytnbdgjaekjneaaa.Whl
set_option maxRecDepth 100000
open Go.RowKit Go.Deep Go.Proofs.Ytnbdgjaekjneaaa.Mem

def Ks (w : World) (A : Option Addr) (l : List Ky) : Prop := Sl w A 6 (l.map Ky.vals)
theorem Ks.later {w w' : World} {A : Option Addr} {l : List Ky} (h : Ks w A l) (hb : Below w.heap.size w w') : Ks w' A l := Sl.later h hb
theorem Ks.at {w : World} {A : Option Addr} {l : List Ky} (h : Ks w A l) {k : Nat} (hk : k < l.length) : ∃ g off, A = some ⟨g, off, none⟩ ∧ w.rangeAt g (off + k * 6) l[k].vals := by
  obtain ⟨g, off, e, hr⟩ := h k (by rw [List.length_map]; exact hk)
  exact ⟨g, off, e, by rwa [List.getElem_map] at hr⟩
theorem el_key : Elem 45 41 (.agg #[.int .i64 0, .int .i64 0, .int .i64 0, .int .i64 0, .int .i64 0, .int .i64 0]) 6 48 := ⟨Try.underlying45, by kernel_rfl, rfl, by decide, by decide⟩
set_option maxHeartbeats 1000000 in
theorem plain_any (A : Option Addr) (l : List Ky) (cap : Nat) (w : World) (h : Ks w A l) (hl : l.length ≤ 1000) :
    Calls Try.prog 15 #[.slice A l.length cap] w fun e w' => ∃ v, e = .returned v ∧ OwnG 41 6 Ky.vals w.heap.size w' v l ∧ Below w.heap.size w w' := by
  have HP := Lib.hid h
  obtain ⟨n, hn⟩ : ∃ n, l.length = n := ⟨_, rfl⟩
  have HN := Lib.hid hn
  rw [hn] at hl ⊢
  clear h hn
  go_enter Try.func15, Try.ntmps15
  go_wp2_with fail
  go_loopw [3, 8] (fun x i wr => ∃ (k : Nat) (V : Option Addr) (vn vc : Nat), k ≤ n ∧ i = .int .i64 (k : Int) ∧ x = .slice V vn vc ∧ Hid (OwnG 41 6 Ky.vals w.heap.size wr (.slice V vn vc) (l.take k)) ∧ Hid (Below w.heap.size w wr)) (fun _ i _ => n - (intOf i).toNat)
  case atStart => exact ⟨0, none, 0, 0, Nat.zero_le _, rfl, rfl, Lib.hid (OwnG.nil _ _ _ _ _), Lib.hid (Below.refl _ _)⟩
  case round =>
    obtain ⟨k, V, vn, vc, hk, rfl, rfl, HR, HB⟩ := hrel
    by_cases hkn : k < n
    · have hkl : k < l.length := by rw [HN.out]; exact hkn
      obtain ⟨g, off, rfl, hr⟩ := (HP.out.later HB.out).at hkl
      obtain ⟨p, hp⟩ : ∃ p, l[k] = p := ⟨_, rfl⟩
      rw [hp] at hr
      have x0 := hr 0 _ rfl
      rw [Nat.add_zero] at x0
      have x1 := hr 1 _ rfl
      have x2 := hr 2 _ rfl
      have x3 := hr 3 _ rfl
      have x4 := hr 4 _ rfl
      have x5 := hr 5 _ rfl
      have HT : Hid (l.take (k + 1) = l.take k ++ [p]) := Lib.hid (by rw [List.take_succ_eq_append_getElem hkl, hp])
      have hfl : (l.take k).length ≤ 1000 := by rw [List.length_take]; omega
      obtain ⟨we, hwe⟩ : ∃ W, W = wr.alloc (.cells #[.int .i64 p.kind, .int .i64 p.cell, .int .i64 p.node, .int .i64 p.tn, .int .i64 p.te, .int .i64 p.ts] 34) := ⟨_, rfl⟩
      have hbe : Below wr.heap.size wr we := by rw [hwe]; exact below_alloc _ _
      have hce : Cells we wr.heap.size 34 p.vals := by rw [hwe]; exact cells_new _ _ _ _ rfl
      have y0 := hce.cell (j := 0) rfl
      have y1 := hce.cell (j := 1) rfl
      have y2 := hce.cell (j := 2) rfl
      have y3 := hce.cell (j := 3) rfl
      have y4 := hce.cell (j := 4) rfl
      have y5 := hce.cell (j := 5) rfl
      have HB2 := Lib.hid (HB.out.trans (hbe.mono HB.out.size))
      have HP2 := Lib.hid (HR.out.later hbe)
      obtain ⟨V', vn', vc', wu, hrun, hrow, hbu⟩ := OwnG.more el_key fit_ks HP2.out p #[.int .i64 p.kind, .int .i64 p.cell, .int .i64 p.node, .int .i64 p.tn, .int .i64 p.te, .int .i64 p.ts] rfl HB2.out.size (by omega)
      have HRUN := Lib.hid hrun
      have HNX : Hid (OwnG 41 6 Ky.vals w.heap.size wu (.slice V' vn' vc') (l.take (k + 1))) := Lib.hid (by rw [HT.out]; exact hrow)
      have HBU := Lib.hid (HB2.out.trans hbu)
      clear hkl hp hbe hce hrun hrow hbu hfl hr
      go_upto_region 5 with (fail)
      rw [← hwe]
      clear hwe x0 x1 x2 x3 x4 x5
      go_wp2_with (at_builtin
                   refine Lib.wpList_append_run (we.alloc (.cells #[.int .i64 p.kind, .int .i64 p.cell, .int .i64 p.node, .int .i64 p.tn, .int .i64 p.te, .int .i64 p.ts] 41)) rfl (.tmp 12) (.tmp 14) 45 45 rfl (.slice V vn vc) (.slice (some ⟨we.heap.size, 0, none⟩) 1 1) rfl rfl _ _ HRUN.out ?_)
      go_roundw
      case rel => exact ⟨k + 1, V', vn', vc', by omega, by go_num, rfl, HNX, HBU⟩
      case measure => simp [intOf]; omega
    · obtain rfl : k = n := by omega
      have HF : Hid (OwnG 41 6 Ky.vals w.heap.size wr (.slice V vn vc) l) := Lib.hid (by
        have h1 := HR.out
        rw [List.take_of_length_le (by rw [HN.out]; exact Nat.le_refl _)] at h1
        exact h1)
      go_wp2_with fail
      go_returns
      exact ⟨_, rfl, HF.out, HB.out⟩
def whSame6 (g h2 o o2 n c c2 ii : Nat) (p q : Ky) (an : Bool) : Nat → Value → World → Prop
  | 0, v, _ => v = .slice (some ⟨g, o, none⟩) n c
  | 1, v, _ => v = .int .i64 (ii : Int)
  | 2, v, _ => v = .pointer (some ⟨g, o + ii * 6, none⟩)
  | 3, v, _ => v = .agg #[.int .i64 p.kind, .int .i64 p.cell, .int .i64 p.node, .int .i64 p.tn, .int .i64 p.te, .int .i64 p.ts]
  | 4, v, _ => v = .slice (some ⟨h2, o2, none⟩) n c2
  | 5, v, _ => v = .int .i64 (ii : Int)
  | 6, v, _ => v = .pointer (some ⟨h2, o2 + ii * 6, none⟩)
  | 7, v, _ => v = .agg #[.int .i64 q.kind, .int .i64 q.cell, .int .i64 q.node, .int .i64 q.tn, .int .i64 q.te, .int .i64 q.ts]
  | 8, v, _ => v = .bool an
  | _, _, _ => True
set_option maxHeartbeats 1000000 in
theorem Same_any (A A2 : Option Addr) (l l2 : List Ky) (cap cap2 : Nat) (w : World) (h : Ks w A l) (h2 : Ks w A2 l2) (hl : l.length ≤ 1000) (hl2 : l2.length ≤ 1000) :
    Calls Try.prog 14 #[.slice A l.length cap, .slice A2 l2.length cap2] w fun e w' => e = .returned (.bool (decide (l = l2))) ∧ Below w.heap.size w w' := by
  have HP := Lib.hid h
  have HP2 := Lib.hid h2
  obtain ⟨n, hn⟩ : ∃ n, l.length = n := ⟨_, rfl⟩
  obtain ⟨n2, hn2⟩ : ∃ n2, l2.length = n2 := ⟨_, rfl⟩
  have HN := Lib.hid hn
  have HN2 := Lib.hid hn2
  obtain ⟨ans, ha⟩ : ∃ a, decide (l = l2) = a := ⟨_, rfl⟩
  have HA := Lib.hid ha
  rw [ha]
  rw [hn] at hl ⊢
  rw [hn2] at hl2 ⊢
  clear h h2 hn hn2 ha
  by_cases hnn : n = n2
  · subst hnn
    go_enter Try.func14, Try.ntmps14
    go_wp2_with fail
    go_loopw [5] (fun i wr => ∃ (k : Nat), k ≤ n ∧ i = .int .i64 (k : Int) ∧ Hid (l.take k = l2.take k) ∧ Hid (Below w.heap.size w wr)) (fun i _ => n - (intOf i).toNat)
    case atStart => exact ⟨0, Nat.zero_le _, rfl, Lib.hid rfl, Lib.hid (Below.refl _ _)⟩
    case round =>
      obtain ⟨k, hk, rfl, HT, HB⟩ := hrel
      by_cases hkn : k < n
      · have hkl : k < l.length := by rw [HN.out]; exact hkn
        have hkl2 : k < l2.length := by rw [HN2.out]; exact hkn
        obtain ⟨g, off, rfl, hr⟩ := (HP.out.later HB.out).at hkl
        obtain ⟨g2, off2, rfl, hr2⟩ := (HP2.out.later HB.out).at hkl2
        obtain ⟨p, hp⟩ : ∃ p, l[k] = p := ⟨_, rfl⟩
        obtain ⟨q, hq⟩ : ∃ q, l2[k] = q := ⟨_, rfl⟩
        rw [hp] at hr
        rw [hq] at hr2
        have HT0 : Hid (∀ wi, Below wr.heap.size wr wi → wi.rangeAt g (off + k * 6) p.vals) := Lib.hid fun wi hb => range_later hr hb
        have HT1 : Hid (∀ wi, Below wr.heap.size wr wi → wi.rangeAt g2 (off2 + k * 6) q.vals) := Lib.hid fun wi hb => range_later hr2 hb
        have HI := Lib.hid hkn
        obtain ⟨an, he⟩ : ∃ x, (!decide (p = q)) = x := ⟨_, rfl⟩
        have HEQ : Hid (∀ wi, (binOp .neq 41 (.agg #[.int .i64 p.kind, .int .i64 p.cell, .int .i64 p.node, .int .i64 p.tn, .int .i64 p.te, .int .i64 p.ts]) (.agg #[.int .i64 q.kind, .int .i64 q.cell, .int .i64 q.node, .int .i64 q.tn, .int .i64 q.te, .int .i64 q.ts])).run Try.prog wi = .ok (.bool an) wi) := Lib.hid fun wi => by
          have h1 := key_neq p q wi
          rw [he] at h1
          exact h1
        have HE := Lib.hid he
        have HL1 : Hid (∀ (_ : p = q), l.take (k + 1) = l2.take (k + 1)) := Lib.hid (fun e => by rw [List.take_succ_eq_append_getElem hkl, List.take_succ_eq_append_getElem hkl2, hp, hq, HT.out, e])
        have HL2 : Hid (l = l2 → p = q) := Lib.hid (fun e => by subst e; rw [← hp, ← hq])
        clear hkl hkl2 hp hq he hr hr2
        go_upto_region 6 with (fail)
        refine Reg.region_heavy (by kernel_rfl) 8 [8] (whSame6 g g2 off off2 n cap cap2 k p q an) (fun a => Below wr.heap.size wr a) (fun a => Below wr.heap.size wr a) (fun V => [(some 17, V 0), (some 18, V 1), (some 19, V 2), (some 20, V 3), (some 21, V 4), (some 22, V 5), (some 23, V 6), (some 24, V 7), (some 25, V 8)]) (by kernel_rfl) (by kernel_rfl) (by kernel_rfl) (fun V => rfl) ?_ ?_ ?_
        · exact (Below.refl _ _).drew
        · intro i o ho
          have hi : i < 9 := (Array.getElem?_eq_some_iff.1 ho).1
          rcases i with _ | _ | _ | _ | _ | _ | _ | _ | _ | i
          rotate_right
          · omega
          all_goals obtain rfl := Option.some.inj ho
          all_goals intro ρ wi hE hI hs hd
          all_goals try dsimp only at hI
          · have e0 : ρ (.tmp 0) = .slice (some ⟨g, off, none⟩) n cap := hs 0; exact Reg.gw hI
          · have e5 : ρ (.tmp 5) = .int .i64 (k : Int) := hs 5; exact Reg.gw hI
          · obtain ⟨_, rfl, e17⟩ := hd 0 17; obtain ⟨_, rfl, e18⟩ := hd 1 18
            have z1 : (0 : Int) ≤ (k : Int) := by omega
            have z2 : (k : Int) < (n : Int) := by have := HI.out; omega
            have z3 : k < n := HI.out; exact Reg.gw hI
          · obtain ⟨_, rfl, e19⟩ := hd 2 19; have q0 := HT0.out _ hI 0 _ rfl
            rw [Nat.add_zero] at q0
            have q1 := HT0.out _ hI 1 _ rfl; have q2 := HT0.out _ hI 2 _ rfl; have q3 := HT0.out _ hI 3 _ rfl; have q4 := HT0.out _ hI 4 _ rfl; have q5 := HT0.out _ hI 5 _ rfl; exact Reg.gw hI
          · have e1 : ρ (.tmp 1) = .slice (some ⟨g2, off2, none⟩) n cap2 := hs 1; exact Reg.gw hI
          · have e5 : ρ (.tmp 5) = .int .i64 (k : Int) := hs 5; exact Reg.gw hI
          · obtain ⟨_, rfl, e21⟩ := hd 4 21; obtain ⟨_, rfl, e22⟩ := hd 5 22
            have z1 : (0 : Int) ≤ (k : Int) := by omega
            have z2 : (k : Int) < (n : Int) := by have := HI.out; omega
            have z3 : k < n := HI.out; exact Reg.gw hI
          · obtain ⟨_, rfl, e23⟩ := hd 6 23; have q0 := HT1.out _ hI 0 _ rfl
            rw [Nat.add_zero] at q0
            have q1 := HT1.out _ hI 1 _ rfl; have q2 := HT1.out _ hI 2 _ rfl; have q3 := HT1.out _ hI 3 _ rfl; have q4 := HT1.out _ hI 4 _ rfl; have q5 := HT1.out _ hI 5 _ rfl; exact Reg.gw hI
          · obtain ⟨_, rfl, e20⟩ := hd 3 20; obtain ⟨_, rfl, e24⟩ := hd 7 24
            exact Reg.Gives.value (v := .bool an) (w' := wi) (exec_bin .neq 41 _ _ _ rfl _ _ e20 e24 (by kernel_rfl) (HEQ.out wi)) (Reg.OwedH.same hI rfl)
        · intro V wf hV hI
          have hV8 : V 8 = .bool an := hV 8 (by decide) rfl
          simp only [Reg.putsO, List.foldl_cons, List.foldl_nil, Act.put, List.setIfInBounds_toArray, List.set_cons_succ, List.set_cons_zero, hV8]
          replace hI : (fun a => Below wr.heap.size wr a) wf := hI
          clear hV hV8
          have HBD := Lib.hid (HB.out.trans (hI.mono HB.out.size))
          clear hI HT0 HT1 HEQ HI
          cases an with
          | false =>
            have HT2 := Lib.hid (HL1.out (by have h1 := HE.out; simpa using h1))
            clear HE
            go_wp2_with fail
            go_roundw
            case rel => exact ⟨k + 1, by omega, by go_num, HT2, HBD⟩
            case measure => simp [intOf]; omega
          | true =>
            have HF : Hid (ans = false) := Lib.hid (by
              rw [← HA.out]
              refine decide_eq_false fun e => ?_
              have h1 := HE.out
              rw [decide_eq_true (HL2.out e)] at h1
              cases h1)
            clear HE
            go_wp2_with fail
            go_returns
            exact ⟨ret_val (congrArg Value.bool HF.out.symm), HBD.out⟩
      · obtain rfl : k = n := by omega
        have HF : Hid (ans = true) := Lib.hid (by
          have h1 := HT.out
          rw [List.take_of_length_le (by rw [HN.out]; exact Nat.le_refl _), List.take_of_length_le (by rw [HN2.out]; exact Nat.le_refl _)] at h1
          rw [← HA.out]
          exact decide_eq_true h1)
        go_wp2_with fail
        go_returns
        exact ⟨ret_val (congrArg Value.bool HF.out.symm), HB.out⟩
  · have HF : Hid (ans = false) := Lib.hid (by
      rw [← HA.out]
      refine decide_eq_false fun e => hnn ?_
      rw [← HN.out, ← HN2.out, e])
    have e1 : decide ((n : Int) = (n2 : Int)) = false := by simp only [decide_eq_false_iff_not]; omega
    go_enter Try.func14, Try.ntmps14
    go_wp2_with fail
    go_returns
    exact ⟨ret_val (congrArg Value.bool HF.out.symm), Below.refl _ _⟩
end Go.Proofs.Ytnbdgjaekjneaaa.Whl
