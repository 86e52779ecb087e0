/-
  Layer 17, the code's cache: place, remove, All, Clear, New, Peek. Conditions: none.
-/
import Derived.Test.YteedlenelfidcaaCacDel
import Derived.Test.YteedlenelfidcaaCacRef3
namespace Go.Proofs.Yteedlenelfidcaa.Cac
set_option maxRecDepth 100000
open Go.RowKit Go.Deep Go.Proofs.Yteedlenelfidcaa.Mem

abbrev CcAt := CxAt 60 38
abbrev CcStep := CxStep 60 38
theorem place1_any (t : En) (c : Int) (p : Nat) (w : World) (h : Cells w p 3 [.int .i64 c]) :
    Calls Try.prog 28 #[.agg #[.int .i64 t.cell, .int .i64 t.ver, .int .i64 t.val, .int .i64 t.frm], .pointer (some ⟨p, 0, none⟩)] w fun e w' => e = .returned (.bool (decide (t.cell = c))) ∧ Below w.heap.size w w' := by
  obtain ⟨wa, hwa⟩ : ∃ W, W = w.alloc (.cells #[.int .i64 t.cell, .int .i64 t.ver, .int .i64 t.val, .int .i64 t.frm] 38) := ⟨_, rfl⟩
  have hba : Below w.heap.size w wa := by rw [hwa]; exact below_alloc _ _
  have hca : Cells wa w.heap.size 38 t.vals := by rw [hwa]; exact cells_new _ _ _ _ rfl
  have y0 := hca.cell (j := 0) rfl
  have z0 := (h.later hba).cell (j := 0) rfl
  have HB := Lib.hid hba
  obtain ⟨an, han⟩ : ∃ X, decide (t.cell = c) = X := ⟨_, rfl⟩
  have e1 : (t.cell == c) = an := han
  rw [han]
  clear hba hca h han
  go_enter Try.func28, Try.ntmps28
  go_upto_region 1 with (fail)
  rw [← hwa]
  clear hwa
  go_wp2_with fail
  go_returns
  exact ⟨rfl, HB.out⟩
set_option maxHeartbeats 1000000 in
theorem index_any (A : Option Addr) (l : List En) (cap p : Nat) (c : Int) (w : World) (h : Sl w A 4 (l.map En.vals)) (hp : Cells w p 3 [.int .i64 c]) (hl : l.length ≤ 1000) :
    Calls Try.prog 27 #[.slice A l.length cap, .func (.func 28) #[] #[.pointer (some ⟨p, 0, none⟩)]] w fun e w' => e = .returned (.int .i64 (atE c l 0)) ∧ Below w.heap.size w w' := by
  have HH := Lib.hid h
  have HP := Lib.hid hp
  obtain ⟨F, hF⟩ : ∃ F, atE c l 0 = F := ⟨_, rfl⟩
  have HF := Lib.hid hF
  rw [hF]
  obtain ⟨n, hn⟩ : ∃ n, l.length = n := ⟨_, rfl⟩
  have HN := Lib.hid hn
  rw [hn] at hl ⊢
  clear h hF hn hp
  go_enter Try.func27, Try.ntmps27
  go_wp2_with fail
  go_loopw [5, 8] (fun _ i wr => ∃ ii : Nat, ii ≤ n ∧ i = .int .i64 (ii : Int) ∧ Hid (∀ t ∈ l.take ii, t.cell ≠ c) ∧ Hid (Below w.heap.size w wr)) (fun _ i _ => n - (intOf i).toNat)
  case atStart => exact ⟨0, Nat.zero_le _, rfl, Lib.hid (fun t ht => by cases ht), Lib.hid (Below.refl _ _)⟩
  case round =>
    obtain ⟨ii, hii, rfl, hd, HB⟩ := hrel
    by_cases hlt : ii < n
    · have hil : ii < l.length := by have := HN.out; omega
      obtain ⟨t, ht⟩ : ∃ t, l[ii] = t := ⟨_, rfl⟩
      obtain ⟨g, off, hA, hr⟩ := (HH.out.later HB.out) ii (by rw [List.length_map]; exact hil)
      rw [List.getElem_map, ht] at hr
      subst hA
      have x0 := hr 0 _ rfl
      rw [Nat.add_zero] at x0
      have x1 := hr 1 _ rfl
      have x2 := hr 2 _ rfl
      have x3 := hr 3 _ rfl
      have HC := Lib.hid (place1_any t c p wr (HP.out.later HB.out))
      obtain ⟨an, han⟩ : ∃ X, decide (t.cell = c) = X := ⟨_, rfl⟩
      rw [han] at HC
      have HE : Hid (an = true → F = (ii : Int)) := Lib.hid (fun e => by
        rw [← HF.out, atE_drop c l ii hd.out, List.drop_eq_getElem_cons hil, ht]
        show (if t.cell = c then (ii : Int) else _) = _
        rw [if_pos (of_decide_eq_true (han.trans e))])
      have HD2 : Hid (an = false → ∀ u ∈ l.take (ii + 1), u.cell ≠ c) := Lib.hid (fun e u hu => by
        rw [List.take_succ_eq_append_getElem hil, List.mem_append] at hu
        rcases hu with hu | hu
        · exact hd.out u hu
        · rw [List.mem_singleton.1 hu, ht]
          exact of_decide_eq_false (han.trans e))
      clear hr ht hil han
      go_wp2_with fail
      refine HC.out.mono ?_
      rintro e w2 ⟨rfl, hb2⟩
      have HB2 := Lib.hid (HB.out.trans (hb2.mono HB.out.size))
      clear hb2 x0 x1 x2 x3
      cases an with
      | true =>
        have HE2 := Lib.hid (HE.out rfl)
        go_wp2_with fail
        go_returns
        exact ⟨ret_int HE2.out.symm, HB2.out⟩
      | false =>
        have HDD := Lib.hid (HD2.out rfl)
        go_wp2_with fail
        go_roundw
        case rel => exact ⟨ii + 1, by omega, by go_num, HDD, HB2⟩
        case measure => simp [intOf]; omega
    · have HE : Hid (F = -1) := Lib.hid (by
        rw [← HF.out, atE_drop c l ii hd.out, List.drop_of_length_le (by have := HN.out; omega)]; rfl)
      clear hd
      go_wp2_with fail
      go_returns
      exact ⟨ret_int HE.out.symm, HB.out⟩
theorem clone_en (A : Option Addr) (vs : List (List Value)) (cap : Nat) (w : World) (h : Sl w A 4 vs) (hf : Fit 4 vs) (hc : A = none → cap = 0) (hl : vs.length ≤ 100000) :
    Calls Try.prog 26 #[.slice A vs.length cap] w fun e w' => (∃ v, e = .returned v ∧ w'.ownsRow w.heap.size 38 4 v vs.length vs.flatten) ∧ Below w.heap.size w w' := by
  cases A with
  | none =>
    have hv := sl_none h
    subst hv
    obtain rfl := hc rfl
    have q1 := fun w => Lib.run_eql_slice_nil_nil (P := Try.prog) w 0 0 Try.underlying33
    go_enter Try.func26, Try.ntmps26
    go_wp2_with fail
    go_returns
    exact ⟨⟨_, rfl, World.ownsRow_nil _ _ _ _⟩, Below.refl _ _⟩
  | some ad =>
    have hb := below_alloc w (.cells #[] 38)
    have ho : (w.alloc (.cells #[] 38)).ownsRow w.heap.size 38 4 (.slice (some ⟨w.heap.size, 0, none⟩) 0 0) 0 [] := World.ownsRow_made (base := w.heap.size) w #[] 0 (Nat.le_refl _) (Nat.zero_le _) rfl
    obtain ⟨v', w', hrun, hrow, hg, _⟩ := run_append_rows el_ce (w.alloc (.cells #[] 38)) 33 w.heap.size _ [] vs (some ad) cap (Fit.nil _) hf ho (h.later hb) (fun e => by cases e) (by simp only [List.length_nil]; omega) hb.size
    rw [List.nil_append] at hrow
    have HROW := Lib.hid hrow
    have HB : Hid (Below w.heap.size w w') := Lib.hid (Below.grown hb hg hb.size (fun k hk => (ho.lt k hk).1))
    obtain ⟨n, hn⟩ : ∃ n, vs.length = n := ⟨_, rfl⟩
    rw [hn] at hrun
    have HRUN := Lib.hid hrun
    have HN := Lib.hid hn
    rw [hn]
    clear h hf hc hl hb ho hrun hrow hg hn
    have q1 := fun w => Lib.run_eql_slice_some_nil (P := Try.prog) w ad n cap Try.underlying33
    go_enter Try.func26, Try.ntmps26
    go_wp2_with (at_builtin
                 refine Lib.wpList_append_run (w.alloc (.cells #[] 38)) rfl (.tmp 5) (.tmp 6) 33 33 rfl (.slice (some ⟨w.heap.size, 0, none⟩) 0 0) (.slice (some ad) n cap) rfl rfl _ _ HRUN.out ?_)
    go_returns
    exact ⟨⟨_, rfl, by have h := HROW.out; rw [HN.out] at h; exact h⟩, HB.out⟩
section
variable {B rb ac : Nat} {w : World} {R : Cc} {A : Option Addr}
/-- Where a cell's entry stands. -/
theorem Place_any (h : CcAt B w rb R A ac) (c : Int) :
    Calls Try.prog 24 #[.pointer (some ⟨rb, 0, none⟩), .int .i64 c] w fun e w' => e = .returned (.int .i64 (atE c R.l 0)) ∧ Below w.heap.size w w' := by
  obtain ⟨wa, hwa⟩ : ∃ W, W = w.alloc (.cells #[.int .i64 c] 3) := ⟨_, rfl⟩
  have hba : Below w.heap.size w wa := by rw [hwa]; exact below_alloc _ _
  have hca : Cells wa w.heap.size 3 [.int .i64 c] := by rw [hwa]; exact cells_new _ _ _ _ rfl
  have hr := h.later hba
  have c1 := hr.cel.cell (j := 1) rfl
  have HC := Lib.hid (index_any A R.l ac w.heap.size c wa hr.sl hca (by have := h.len; omega))
  obtain ⟨n, hn⟩ : ∃ n, R.l.length = n := ⟨_, rfl⟩
  rw [hn] at c1 HC
  have HB := Lib.hid hba
  clear h hba hca hr hn
  go_enter Try.func24, Try.ntmps24
  go_upto_region 3 with (fail)
  rw [← hwa]
  clear hwa
  go_wp2_with fail
  refine HC.out.mono ?_
  rintro e w2 ⟨rfl, hb2⟩
  go_wp2_with fail
  go_returns
  exact ⟨rfl, HB.out.trans (hb2.mono HB.out.size)⟩
theorem Place_nil (w : World) (c : Int) : Calls Try.prog 24 #[.pointer none, .int .i64 c] w fun e w' => e = .returned (.int .i64 (-1)) ∧ Below w.heap.size w w' := by
  have HB := Lib.hid (below_alloc w (.cells #[.int .i64 c] 3))
  go_enter Try.func24, Try.ntmps24
  go_wp2_with fail
  go_returns
  exact ⟨rfl, HB.out⟩
theorem Remove_any (h : CcAt B w rb R A ac) {i : Nat} (hi : i < R.l.length) :
    Calls Try.prog 25 #[.pointer (some ⟨rb, 0, none⟩), .int .i64 (i : Int)] w fun e w' => e = .returned (.tuple #[]) ∧ CcStep B rb A w { R with l := R.l.take i ++ R.l.drop (i + 1) } w' := by
  obtain ⟨g, rfl, hzz, hac⟩ := h.at hi
  clear hzz
  have HD := Delete_any (vs := R.l.map En.vals) (w := w) (base := B) (g := g) (cap := ac) (i := i) (j := i + 1) (by rw [List.length_map]; exact h.row) (fit_es _) (by omega) (by rw [List.length_map]; omega) (by rw [List.length_map]; have := h.len; omega)
  rw [List.length_map, ← List.map_take, ← List.map_drop, ← List.map_append, show i + 1 - i = 1 from by omega] at HD
  have hlen : (R.l.take i ++ R.l.drop (i + 1)).length = R.l.length - 1 := by rw [List.length_append, List.length_take, List.length_drop]; omega
  obtain ⟨l2, hl2⟩ : ∃ l2, R.l.take i ++ R.l.drop (i + 1) = l2 := ⟨_, rfl⟩
  rw [hl2] at HD hlen ⊢
  have HL2 := Lib.hid hlen
  have HL16 : Hid (l2.length ≤ 16) := Lib.hid (by have := h.len; omega)
  have c1 := h.cel.cell (j := 1) rfl
  obtain ⟨n, hn⟩ : ∃ n, R.l.length = n := ⟨_, rfl⟩
  rw [hn] at c1
  have HN := Lib.hid hn
  rw [hn] at HD
  have hin : (i : Int) + 1 ≤ 16 := by have := h.len; omega
  have HH := Lib.hid h
  have HC : Hid (Calls Try.prog 29 #[.slice (some ⟨g, 0, none⟩) n ac, .int .i64 (i : Int), .int .i64 ((i : Int) + 1)] w _) := Lib.hid HD
  clear h HD hn hl2 hlen hi
  go_enter Try.func25, Try.ntmps25
  go_wp2_with fail
  refine HC.out.mono ?_
  rintro e w2 ⟨rfl, hrow, ho⟩
  have hln : n - 1 = l2.length := by have := HL2.out; have := HN.out; omega
  rw [hln] at hrow ⊢
  obtain ⟨p1, p2, p3⟩ := HH.out.put hrow (ho.mono fun k _ e => by rw [e]; rfl) (fun k e => Or.inl e.symm) HL16.out
  have HP := Lib.hid p3
  clear hrow ho p3 HC HH
  go_wp2_with fail
  go_returns
  exact ⟨rfl, HP.out⟩
theorem All_any (h : CcAt B w rb R A ac) : Calls Try.prog 22 #[.pointer (some ⟨rb, 0, none⟩)] w fun e w' => ∃ A2 c2, e = .returned (.slice A2 R.l.length c2) ∧ OwnG 38 4 En.vals w.heap.size w' (.slice A2 R.l.length c2) R.l ∧ Below w.heap.size w w' := by
  have c1 := h.cel.cell (j := 1) rfl
  obtain ⟨A', c', e, h1, hcap, _⟩ := own_sl (vs := R.l.map En.vals) (by rw [List.length_map]; exact h.row) (fit_es _).len
  simp only [Value.slice.injEq] at e
  obtain ⟨rfl, _, rfl⟩ := e
  have HC := Lib.hid (clone_en A (R.l.map En.vals) ac w h1 (fit_es _) hcap (by rw [List.length_map]; have := h.len; omega))
  rw [List.length_map] at HC
  obtain ⟨n, hn⟩ : ∃ n, R.l.length = n := ⟨_, rfl⟩
  have HN := Lib.hid hn
  rw [hn] at c1 HC ⊢
  clear h h1 hcap hn
  go_enter Try.func22, Try.ntmps22
  go_wp2_with fail
  refine HC.out.mono ?_
  rintro e w2 ⟨⟨v, rfl, hrow⟩, hb⟩
  obtain ⟨A2, c2, rfl⟩ := row_slice hrow
  have HR := Lib.hid hrow
  have HB := Lib.hid hb
  clear hrow hb
  go_wp2_with fail
  go_returns
  refine ⟨A2, c2, rfl, ?_, HB.out⟩
  unfold OwnG
  rw [HN.out]
  exact HR.out
theorem All_nil (w : World) : Calls Try.prog 22 #[.pointer none] w fun e w' => e = .returned (.slice none 0 0) ∧ w' = w := by
  go_enter Try.func22, Try.ntmps22
  go_wp2_with fail
  go_returns
  exact ⟨rfl, rfl⟩
theorem Clear_any (h : CcAt B w rb R A ac) : Calls Try.prog 19 #[.pointer (some ⟨rb, 0, none⟩)] w fun e w' => e = .returned (.tuple #[]) ∧ CcStep B rb A w { R with l := [] } w' := by
  obtain ⟨c1, c2, ho⟩ := h.put (w1 := w) (l := []) (A2 := none) (c2 := 0) ⟨by simp, Or.inl ⟨rfl, rfl⟩⟩ (Only.of_below (Below.refl _ _)) (fun k e => by cases e) (Nat.zero_le _)
  have HO := Lib.hid ho
  clear h ho
  go_enter Try.func19, Try.ntmps19
  go_wp2_with fail
  go_returns
  exact ⟨rfl, HO.out⟩
theorem Clear_nil (w : World) : Calls Try.prog 19 #[.pointer none] w fun e w' => e = .returned (.tuple #[]) ∧ w' = w := by
  go_enter Try.func19, Try.ntmps19
  go_wp2_with fail
  go_returns
  exact ⟨rfl, rfl⟩
theorem New_any (w : World) (n : Int) (h1 : 1 ≤ n) (h2 : n ≤ 16) : Calls Try.prog 9 #[.int .i64 n] w fun e w' => e = .returned (.tuple #[.pointer (some ⟨w.heap.size, 0, none⟩), .int .i64 0]) ∧ CcAt w.heap.size w' w.heap.size ⟨n, []⟩ none 0 ∧ Below w.heap.size w w' := by
  obtain ⟨wa, hwa⟩ : ∃ W, W = w.alloc (.cells #[.int .i64 n, .slice none 0 0] 60) := ⟨_, rfl⟩
  have hba : Below w.heap.size w wa := by rw [hwa]; exact below_alloc _ _
  have hca : Cells wa w.heap.size 60 [.int .i64 n, .slice none 0 0] := by rw [hwa]; exact cells_new _ _ _ _ rfl
  have HR : Hid (CcAt w.heap.size wa w.heap.size ⟨n, []⟩ none 0) := Lib.hid ⟨hca, ⟨by simp, Or.inl ⟨rfl, rfl⟩⟩, Nat.le_refl _, (fun k e => by cases e), Nat.zero_le _⟩
  have HB := Lib.hid hba
  have e1 : decide (n < 1) = false := by simp; omega
  have e2 : decide (n > 16) = false := by simp; omega
  clear hba hca
  go_enter Try.func9, Try.ntmps9
  go_wp2_with fail
  rw [← hwa]
  go_returns
  exact ⟨rfl, HR.out, HB.out⟩
theorem New_bad (w : World) (n : Int) (h : n < 1 ∨ 16 < n) : Calls Try.prog 9 #[.int .i64 n] w fun e w' => e = .returned (.tuple #[.pointer none, .int .i64 1]) ∧ w' = w := by
  by_cases h1 : n < 1
  · have e1 : decide (n < 1) = true := by simpa using h1
    clear h
    go_enter Try.func9, Try.ntmps9
    go_wp2_with fail
    go_returns
    exact ⟨rfl, rfl⟩
  · have e1 : decide (n < 1) = false := by simpa using h1
    have e2 : decide (n > 16) = true := by simp; omega
    clear h
    go_enter Try.func9, Try.ntmps9
    go_wp2_with fail
    go_returns
    exact ⟨rfl, rfl⟩
end
end Go.Proofs.Yteedlenelfidcaa.Cac
