/-
  Layer 12, the code's wheel: New, Now, Due, Keys, Clear, Stop. Conditions: none.
-/
import Derived.Test.YtnbdgjaekjneaaaWhlUn
import Derived.Test.YtnbdgjaekjneaaaWhlDel
namespace Go.Proofs.Ytnbdgjaekjneaaa.Whl
set_option maxRecDepth 100000
open Go.RowKit Go.Deep Go.Proofs.Ytnbdgjaekjneaaa.Mem

/-- Where a timer stands: -1, or a place in the list that has its key. -/
theorem atL_spec' (k : Ky) : ∀ (l : List Tm) (n : Nat), (atL k l n = -1 ∧ ∀ t ∈ l, t.1 ≠ k) ∨ ∃ (i : Nat) (h : i < l.length), atL k l n = ((n + i : Nat) : Int) ∧ l[i].1 = k ∧ ∀ t ∈ l.take i, t.1 ≠ k
  | [], _ => Or.inl ⟨rfl, fun t h => by cases h⟩
  | t :: l, n => by
    unfold atL
    by_cases h : t.1 = k
    · rw [if_pos h]
      exact Or.inr ⟨0, by simp, rfl, h, fun t h => by simp at h⟩
    · rw [if_neg h]
      rcases atL_spec' k l (n + 1) with ⟨h1, h2⟩ | ⟨i, h1, h2, h3, h4⟩
      · exact Or.inl ⟨h1, fun u hu => by rcases List.mem_cons.1 hu with rfl | hu; exact h; exact h2 u hu⟩
      · refine Or.inr ⟨i + 1, by simpa using h1, by rw [h2]; congr 1; omega, by simpa using h3, fun u hu => ?_⟩
        rw [List.take_succ_cons] at hu
        rcases List.mem_cons.1 hu with rfl | hu
        · exact h
        · exact h4 u hu
section
variable {sT eT : TypeId} {B rb ac : Nat} {w w1 : World} {R : Wr} {A : Option Addr}
/-- New timers are put in. -/
theorem WxAt.put (h : WxAt sT eT B w rb R A ac) {l : List Tm} {A2 : Option Addr} {c2 : Nat} (hrow : w1.ownsRow B eT 7 (.slice A2 l.length c2) l.length (l.map Tm.vals).flatten) (ho : Only (fun k => some k = blk A) w w1) (hg : ∀ k, blk A2 = some k → some k = blk A ∨ w.heap.size ≤ k) (hl : l.length ≤ 256) :
    w1.cell? ⟨rb, 1, none⟩ = some (.slice A R.l.length ac) ∧ w1.frozen? ⟨rb, 1, none⟩ = false ∧ WxAt sT eT B (w1.setCell ⟨rb, 1, none⟩ (.slice A2 l.length c2)) rb { R with l := l } A2 c2 ∧ Only (wfoot rb A) w (w1.setCell ⟨rb, 1, none⟩ (.slice A2 l.length c2)) := by
  have hrb := h.cel.lt
  have hc := cells_only h.cel ho fun e => h.nA rb (by rw [own_blk]; exact e.symm) rfl
  have hne : ∀ k, blk A2 = some k → k ≠ rb := fun k e e2 => by
    rcases hg k e with e3 | e3
    · exact h.nA k (by rw [own_blk]; exact e3.symm) e2
    · omega
  refine ⟨hc.cell (j := 1) rfl, hc.frozen (j := 1) (by simp), ⟨hc.set_ 1 _, row_only hrow (Only.of_set w1 ⟨rb, 1, none⟩ _) fun k hk e => hne k (by rw [own_blk] at hk; exact hk) e, h.low, fun k hk e => hne k (by rw [own_blk] at hk; exact hk) e, hl⟩, ?_⟩
  exact (ho.mono fun k _ e => Or.inr e).trans ((Only.of_set w1 ⟨rb, 1, none⟩ _).mono (S' := wfoot rb A) fun k _ e => Or.inl e) fun _ _ e => e
/-- The time goes on. -/
theorem WxAt.time (h : WxAt sT eT B w rb R A ac) (t : Int) : w.cell? ⟨rb, 0, none⟩ = some (.int .i64 R.now) ∧ w.frozen? ⟨rb, 0, none⟩ = false ∧ WxAt sT eT B (w.setCell ⟨rb, 0, none⟩ (.int .i64 t)) rb { R with now := t } A ac ∧ Only (wfoot rb A) w (w.setCell ⟨rb, 0, none⟩ (.int .i64 t)) :=
  ⟨h.cel.cell (j := 0) rfl, h.cel.frozen (j := 0) (by simp), ⟨h.cel.set_ 0 _, row_only h.row (Only.of_set w ⟨rb, 0, none⟩ _) fun k hk e => h.nA k hk e, h.low, h.nA, h.len⟩, (Only.of_set w ⟨rb, 0, none⟩ _).mono fun k _ e => Or.inl e⟩
end
theorem el_ckey : Elem 35 34 (.agg #[.int .i64 0, .int .i64 0, .int .i64 0, .int .i64 0, .int .i64 0, .int .i64 0]) 6 48 := ⟨Try.underlying35, by kernel_rfl, rfl, by decide, by decide⟩
set_option maxHeartbeats 1000000 in
theorem keys_any (A : Option Addr) (l : List Tm) (cap : Nat) (w : World) (h : Sl w A 7 (l.map Tm.vals)) (hl : l.length ≤ 1000) :
    Calls Try.prog 28 #[.slice A l.length cap] w fun e w' => ∃ v, e = .returned v ∧ OwnG 34 6 Ky.vals w.heap.size w' v (l.map (·.1)) ∧ Below w.heap.size w w' := by
  have HP := Lib.hid h
  obtain ⟨n, hn⟩ : ∃ n, l.length = n := ⟨_, rfl⟩
  have HN := Lib.hid hn
  rw [hn] at hl ⊢
  clear h hn
  go_enter Try.func28, Try.ntmps28
  go_wp2_with fail
  go_loopw [3, 8] (fun x i wr => ∃ (k : Nat) (V : Option Addr) (vn vc : Nat), k ≤ n ∧ i = .int .i64 (k : Int) ∧ x = .slice V vn vc ∧ Hid (OwnG 34 6 Ky.vals w.heap.size wr (.slice V vn vc) ((l.take k).map (·.1))) ∧ Hid (Below w.heap.size w wr)) (fun _ i _ => n - (intOf i).toNat)
  case atStart => exact ⟨0, none, 0, 0, Nat.zero_le _, rfl, rfl, Lib.hid (OwnG.nil _ _ _ _ _), Lib.hid (Below.refl _ _)⟩
  case round =>
    obtain ⟨k, V, vn, vc, hk, rfl, rfl, HR, HB⟩ := hrel
    by_cases hkn : k < n
    · have hkl : k < l.length := by rw [HN.out]; exact hkn
      obtain ⟨⟨p, due⟩, hp⟩ : ∃ p, l[k] = p := ⟨_, rfl⟩
      obtain ⟨g, off, rfl, hr⟩ := (HP.out.later HB.out) k (by rw [List.length_map]; exact hkl)
      rw [List.getElem_map, hp] at hr
      have x0 := hr 0 _ rfl
      rw [Nat.add_zero] at x0
      have x1 := hr 1 _ rfl
      have x2 := hr 2 _ rfl
      have x3 := hr 3 _ rfl
      have x4 := hr 4 _ rfl
      have x5 := hr 5 _ rfl
      have x6 := hr 6 _ rfl
      have HT : Hid ((l.take (k + 1)).map (·.1) = (l.take k).map (·.1) ++ [p]) := Lib.hid (by rw [List.take_succ_eq_append_getElem hkl, hp, List.map_append]; rfl)
      have hfl : ((l.take k).map (·.1)).length ≤ 1000 := by rw [List.length_map, List.length_take]; omega
      obtain ⟨we, hwe⟩ : ∃ W, W = wr.alloc (.cells #[.int .i64 p.kind, .int .i64 p.cell, .int .i64 p.node, .int .i64 p.tn, .int .i64 p.te, .int .i64 p.ts, .int .i64 due] 67) := ⟨_, rfl⟩
      have hbe : Below wr.heap.size wr we := by rw [hwe]; exact below_alloc _ _
      have hce : Cells we wr.heap.size 67 (Tm.vals (p, due)) := by rw [hwe]; exact cells_new _ _ _ _ rfl
      have y0 := hce.cell (j := 0) rfl
      have y1 := hce.cell (j := 1) rfl
      have y2 := hce.cell (j := 2) rfl
      have y3 := hce.cell (j := 3) rfl
      have y4 := hce.cell (j := 4) rfl
      have y5 := hce.cell (j := 5) rfl
      have HB2 := Lib.hid (HB.out.trans (hbe.mono HB.out.size))
      have HP2 := Lib.hid (HR.out.later hbe)
      obtain ⟨V', vn', vc', wu, hrun, hrow, hbu⟩ := OwnG.more el_ckey fit_ks HP2.out p #[.int .i64 p.kind, .int .i64 p.cell, .int .i64 p.node, .int .i64 p.tn, .int .i64 p.te, .int .i64 p.ts] rfl HB2.out.size (by omega)
      have HRUN := Lib.hid hrun
      have HNX : Hid (OwnG 34 6 Ky.vals w.heap.size wu (.slice V' vn' vc') ((l.take (k + 1)).map (·.1))) := Lib.hid (by rw [HT.out]; exact hrow)
      have HBU := Lib.hid (HB2.out.trans hbu)
      clear hkl hp hbe hce hrun hrow hbu hfl hr
      go_upto_region 5 with (fail)
      rw [← hwe]
      clear hwe x0 x1 x2 x3 x4 x5 x6
      go_wp2_with (at_builtin
                   refine Lib.wpList_append_run (we.alloc (.cells #[.int .i64 p.kind, .int .i64 p.cell, .int .i64 p.node, .int .i64 p.tn, .int .i64 p.te, .int .i64 p.ts] 34)) rfl (.tmp 12) (.tmp 15) 35 35 rfl (.slice V vn vc) (.slice (some ⟨we.heap.size, 0, none⟩) 1 1) rfl rfl _ _ HRUN.out ?_)
      go_roundw
      case rel => exact ⟨k + 1, V', vn', vc', by omega, by go_num, rfl, HNX, HBU⟩
      case measure => simp [intOf]; omega
    · obtain rfl : k = n := by omega
      have HF : Hid (OwnG 34 6 Ky.vals w.heap.size wr (.slice V vn vc) (l.map (·.1))) := Lib.hid (by
        have h1 := HR.out
        rw [List.take_of_length_le (by rw [HN.out]; exact Nat.le_refl _)] at h1
        exact h1)
      go_wp2_with fail
      go_returns
      exact ⟨_, rfl, HF.out, HB.out⟩
theorem New_any (w : World) : Calls Try.prog 9 #[] w fun e w' => e = .returned (.pointer (some ⟨w.heap.size, 0, none⟩)) ∧ WcAt w.heap.size w' w.heap.size ⟨0, []⟩ none 0 ∧ Below w.heap.size w w' := by
  obtain ⟨wa, hwa⟩ : ∃ W, W = w.alloc (.cells #[.int .i64 0, .slice none 0 0] 63) := ⟨_, rfl⟩
  have hba : Below w.heap.size w wa := by rw [hwa]; exact below_alloc _ _
  have hca : Cells wa w.heap.size 63 [.int .i64 0, .slice none 0 0] := by rw [hwa]; exact cells_new _ _ _ _ rfl
  have HR : Hid (WcAt w.heap.size wa w.heap.size ⟨0, []⟩ none 0) := Lib.hid ⟨hca, ⟨by simp, Or.inl ⟨rfl, rfl⟩⟩, Nat.le_refl _, (fun k e => by cases e), Nat.zero_le _⟩
  have HB := Lib.hid hba
  clear hba hca
  go_enter Try.func9, Try.ntmps9
  go_wp2_with fail
  rw [← hwa]
  go_returns
  exact ⟨rfl, HR.out, HB.out⟩
section
variable {B rb ac : Nat} {w : World} {R : Wr} {A : Option Addr}
theorem Now_any (h : WcAt B w rb R A ac) : Calls Try.prog 21 #[.pointer (some ⟨rb, 0, none⟩)] w fun e w' => e = .returned (.int .i64 R.now) ∧ w' = w := by
  have c0 := h.cel.cell (j := 0) rfl
  clear h
  go_enter Try.func21, Try.ntmps21
  go_wp2_with fail
  go_returns
  exact ⟨rfl, rfl⟩
theorem Keys_any (h : WcAt B w rb R A ac) : Calls Try.prog 22 #[.pointer (some ⟨rb, 0, none⟩)] w fun e w' => ∃ v, e = .returned v ∧ OwnG 34 6 Ky.vals w.heap.size w' v (R.l.map (·.1)) ∧ Below w.heap.size w w' := by
  have c1 := h.cel.cell (j := 1) rfl
  have HC := Lib.hid (keys_any A R.l ac w h.sl (by have := h.len; omega))
  obtain ⟨n, hn⟩ : ∃ n, R.l.length = n := ⟨_, rfl⟩
  rw [hn] at c1 HC
  clear h hn
  go_enter Try.func22, Try.ntmps22
  go_wp2_with fail
  refine HC.out.mono ?_
  rintro e w2 ⟨v, rfl, ho, hb⟩
  have HO := Lib.hid ho
  have HB := Lib.hid hb
  clear ho hb
  go_wp2_with fail
  go_returns
  exact ⟨v, rfl, HO.out, HB.out⟩
theorem Clear_any (h : WcAt B w rb R A ac) : Calls Try.prog 18 #[.pointer (some ⟨rb, 0, none⟩)] w fun e w' => e = .returned (.tuple #[]) ∧ WcAt B w' rb { R with l := [] } none 0 ∧ Only (wfoot rb A) w w' := by
  obtain ⟨c1, c2, hn, ho⟩ := h.put (w1 := w) (l := []) (A2 := none) (c2 := 0) ⟨by simp, Or.inl ⟨rfl, rfl⟩⟩ (Only.of_below (Below.refl _ _)) (fun k e => by cases e) (Nat.zero_le _)
  have HN := Lib.hid hn
  have HO := Lib.hid ho
  clear h hn ho
  go_enter Try.func18, Try.ntmps18
  go_wp2_with fail
  go_returns
  exact ⟨rfl, HN.out, HO.out⟩
/-- When a timer is due; 0: there is none. -/
def dueL (R : Wr) (k : Ky) : Int × Bool := if atL k R.l 0 < 0 then (0, false) else (((R.l[(atL k R.l 0).toNat]?).map (·.2)).getD 0, true)
theorem Due_any (h : WcAt B w rb R A ac) (k : Ky) : Calls Try.prog 19 #[.pointer (some ⟨rb, 0, none⟩), k.val] w fun e w' => e = .returned (.tuple #[.int .i64 (dueL R k).1, .bool (dueL R k).2]) ∧ Below w.heap.size w w' := by
  obtain ⟨wa, hwa⟩ : ∃ W, W = w.alloc (.cells #[.int .i64 k.kind, .int .i64 k.cell, .int .i64 k.node, .int .i64 k.tn, .int .i64 k.te, .int .i64 k.ts] 34) := ⟨_, rfl⟩
  have hba : Below w.heap.size w wa := by rw [hwa]; exact below_alloc _ _
  have hca : Cells wa w.heap.size 34 k.vals := by rw [hwa]; exact cells_new _ _ _ _ rfl
  have z0 := hca.cell (j := 0) rfl
  have z1 := hca.cell (j := 1) rfl
  have z2 := hca.cell (j := 2) rfl
  have z3 := hca.cell (j := 3) rfl
  have z4 := hca.cell (j := 4) rfl
  have z5 := hca.cell (j := 5) rfl
  have hra := h.later hba
  have HC := Lib.hid (Place_any hra k)
  have HRA := Lib.hid hra
  have HB := Lib.hid hba
  unfold Ky.val at HC ⊢
  unfold dueL
  rcases atL_spec' k R.l 0 with ⟨hat, _⟩ | ⟨ii, hii, hat, _, _⟩
  · rw [hat] at HC ⊢
    simp only [show ((-1 : Int) < 0) from by decide, if_true]
    clear h hba hca hra hat
    go_enter Try.func19, Try.ntmps19
    go_upto_region 1 with (fail)
    rw [← hwa]
    clear hwa
    go_wp2_with fail
    refine HC.out.mono ?_
    rintro e we ⟨rfl, hbe⟩
    have HBE := Lib.hid (HB.out.trans (hbe.mono HB.out.size))
    clear hbe
    go_wp2_with fail
    go_returns
    exact ⟨rfl, HBE.out⟩
  · rw [Nat.zero_add] at hat
    rw [hat] at HC ⊢
    rw [if_neg (by omega), Int.toNat_natCast, List.getElem?_eq_getElem hii]
    obtain ⟨⟨t, due⟩, ht⟩ : ∃ t, R.l[ii] = t := ⟨_, rfl⟩
    rw [ht]
    have ht2 : R.l[ii]? = some (t, due) := by rw [List.getElem?_eq_getElem hii, ht]
    obtain ⟨g, rfl, _⟩ := h.at ht2
    have HT := Lib.hid ht2
    obtain ⟨n, hn⟩ : ∃ n, R.l.length = n := ⟨_, rfl⟩
    have HN := Lib.hid hn
    rw [hn] at hii
    show Calls _ _ _ _ fun e w' => e = .returned (.tuple #[.int .i64 due, .bool true]) ∧ _
    clear h hba hca hra hat ht ht2 hn
    go_enter Try.func19, Try.ntmps19
    go_upto_region 1 with (fail)
    rw [← hwa]
    clear hwa
    go_wp2_with fail
    refine HC.out.mono ?_
    rintro e we ⟨rfl, hbe⟩
    have HBE := Lib.hid (HB.out.trans (hbe.mono HB.out.size))
    have hr := HRA.out.later hbe
    have c1 := hr.cel.cell (j := 1) rfl
    rw [HN.out] at c1
    obtain ⟨g2, e2, hrg⟩ := hr.at HT.out
    simp only [Option.some.injEq, Addr.mk.injEq] at e2
    obtain ⟨rfl, _⟩ := e2
    have x6 := hrg 6 _ rfl
    clear hbe hr hrg z0 z1 z2 z3 z4 z5
    go_wp2_with fail
    go_returns
    exact ⟨rfl, HBE.out⟩
end
end Go.Proofs.Ytnbdgjaekjneaaa.Whl
