/-
  Layer 12, the code's wheel: Set. Conditions: none.
-/
import Derived.Test.YtnbdgjaekjneaaaWhlStC
namespace Go.Proofs.Ytnbdgjaekjneaaa.Whl
set_option maxRecDepth 100000
open Go.RowKit Go.Deep Go.Proofs.Ytnbdgjaekjneaaa.Mem

/-- A timer is set: the error's number, the wheel behind it. -/
def setC (R : Wr) (k : Ky) (after : Int) : Int × Wr :=
  if after < 1 ∨ 1000 < after then (1, R)
  else if atL k R.l 0 < 0 ∧ 256 ≤ R.l.length then (6, R)
  else (0, { now := R.now, l := (stopR R k).2.l.take (untilL (stopR R k).2.l (R.now + after)) ++ (k, R.now + after) :: (stopR R k).2.l.drop (untilL (stopR R k).2.l (R.now + after)) })
/-- A new slice of one timer. -/
def One (we : World) (t : Tm) (v : Value) (W : World) : Prop := ∃ g, v = .slice (some ⟨g, 0, none⟩) 1 1 ∧ W.heap[g]? = some (.cells (Tm.vals t).toArray 67 (0, 0)) ∧ we.heap.size ≤ g
theorem One.later {we w w' : World} {t : Tm} {v : Value} (h : One we t v w) (hb : Below w.heap.size w w') : One we t v w' := by
  obtain ⟨g, e, h1, h2⟩ := h
  exact ⟨g, e, (hb.block g (lt_of_block h1)).trans h1, h2⟩
theorem One.new {we w : World} (hb : Below we.heap.size we w) (t : Tm) : One we t (.slice (some ⟨w.heap.size, 0, none⟩) 1 1) (w.alloc (.cells (Tm.vals t).toArray 67)) :=
  ⟨w.heap.size, rfl, by show (w.heap.push _)[w.heap.size]? = _; exact Array.getElem?_push_size, hb.size⟩
/-- New timers are made, and not yet put in. -/
def PendC (B : Nat) (we : World) (A : Option Addr) (l : List Tm) (v : Value) (W : World) : Prop :=
  ∃ A2 c2, v = .slice A2 l.length c2 ∧ W.ownsRow B 67 7 (.slice A2 l.length c2) l.length (l.map Tm.vals).flatten ∧ Only (fun k => some k = blk A) we W ∧ ∀ k, blk A2 = some k → some k = blk A ∨ we.heap.size ≤ k
theorem WxAt.ins {B rb ac g u : Nat} {we wi : World} {R : Wr} {A : Option Addr} {t : Tm} (h : WcAt B we rb R A ac) (hB : B ≤ we.heap.size) (hb : Below we.heap.size we wi) (hc : wi.heap[g]? = some (.cells (Tm.vals t).toArray 67 (0, 0))) (hg : we.heap.size ≤ g) (hu : u ≤ R.l.length) (hl : R.l.length ≤ 255) :
    Calls Try.prog 25 #[.slice A R.l.length ac, .int .i64 (u : Int), .slice (some ⟨g, 0, none⟩) 1 1] wi fun e w' => ∃ v, e = .returned v ∧ PendC B we A (R.l.take u ++ t :: R.l.drop u) v w' := by
  have hi := h.later hb
  have hm : (R.l.take u ++ t :: R.l.drop u).map Tm.vals = (R.l.map Tm.vals).take u ++ t.vals :: (R.l.map Tm.vals).drop u := by simp
  have hC := ins_tm (.slice A R.l.length ac) u (R.l.map Tm.vals) t.vals g B wi (Nat.le_trans hB hb.size) (fit_tms _) rfl ((fit_tms [t]).one _ (by simp)) (by rw [List.length_map]; exact hu) (by rw [List.length_map]; exact hi.row) hc
    (fun e => by have := (h.row.lt g e).2; omega) (by rw [List.length_map]; omega)
  refine hC.mono ?_
  rintro e w' ⟨v, rfl, hrow, ho, hnb⟩
  rw [← hm, List.length_map] at hrow
  obtain ⟨A2, c2, rfl⟩ := row_slice hrow
  rw [own_blk] at ho
  rw [own_blk, own_blk] at hnb
  refine ⟨_, rfl, A2, c2, rfl, hrow, (Only.of_below hb).trans ho fun _ _ e => e, fun k e => ?_⟩
  rcases hnb with e2 | e2
  · exact Or.inl (by rw [← e2, e])
  · have e3 : k = wi.heap.size := by rw [e] at e2; exact Option.some.inj e2
    have := hb.size
    exact Or.inr (by omega)
theorem stopR_len (R : Wr) (k : Ky) : (stopR R k).2.l.length ≤ R.l.length ∧ (¬ atL k R.l 0 < 0 → (stopR R k).2.l.length + 1 = R.l.length) := by
  rcases atL_spec' k R.l 0 with ⟨h, _⟩ | ⟨i, hi, h, _, _⟩
  · rw [stopR_none h]
    exact ⟨Nat.le_refl _, fun e => absurd (by rw [h]; decide) e⟩
  · rw [Nat.zero_add] at h
    rw [stopR_some h]
    have : (R.l.take i ++ R.l.drop (i + 1)).length + 1 = R.l.length := by simp; omega
    exact ⟨by dsimp only; omega, fun _ => this⟩
theorem stopR_asc {R : Wr} {k : Ky} (h : Asc R.l) : Asc (stopR R k).2.l := by
  rcases atL_spec' k R.l 0 with ⟨h1, _⟩ | ⟨i, hi, h1, _, _⟩
  · rw [stopR_none h1]; exact h
  · rw [Nat.zero_add] at h1
    rw [stopR_some h1]
    refine List.Pairwise.sublist ?_ h
    show List.Sublist (R.l.take i ++ R.l.drop (i + 1)) R.l
    conv => rhs; rw [← List.take_append_drop i R.l]
    exact List.Sublist.append_left (by rw [show i + 1 = i + 1 from rfl, ← List.drop_drop]; exact List.drop_sublist _ _) _
theorem stopR_now (R : Wr) (k : Ky) : (stopR R k).2.now = R.now := by
  unfold stopR
  split <;> rfl
theorem stopN_one (R : Wr) (k : Ky) : (stopN R [k]).2 = (stopR R k).2 := rfl
theorem untilL_le (l : List Tm) (t : Int) : untilL l t ≤ l.length := List.countP_le_length
set_option maxHeartbeats 2000000 in
theorem SetC_any {B rb ac : Nat} {w : World} {R : Wr} {A : Option Addr} (h : WcAt B w rb R A ac) (k : Ky) (af : Int) (hB : B ≤ w.heap.size) (hs : Asc R.l) (h0 : 0 ≤ R.now) (hnow : R.now ≤ 1000000000000000) :
    Calls Try.prog 10 #[.pointer (some ⟨rb, 0, none⟩), k.val, .int .i64 af] w fun e w' => e = .returned (.int .i64 (setC R k af).1) ∧ WcStep B rb A w (setC R k af).2 w' := by
  obtain ⟨wa, hwa⟩ : ∃ W, W = w.alloc (.cells #[.int .i64 k.kind, .int .i64 k.cell, .int .i64 k.node, .int .i64 k.tn, .int .i64 k.te, .int .i64 k.ts] 34) := ⟨_, rfl⟩
  have hba : Below w.heap.size w wa := by rw [hwa]; exact below_alloc _ _
  have hca : Cells wa w.heap.size 34 k.vals := by rw [hwa]; exact cells_new _ _ _ _ rfl
  have z0 := hca.cell (j := 0) rfl
  have z1 := hca.cell (j := 1) rfl
  have z2 := hca.cell (j := 2) rfl
  have z3 := hca.cell (j := 3) rfl
  have z4 := hca.cell (j := 4) rfl
  have z5 := hca.cell (j := 5) rfl
  have hra := h.later hba
  have HB := Lib.hid hba
  have HRA := Lib.hid hra
  have HCA := Lib.hid hca
  have HW := Lib.hid h
  by_cases haf : af < 1 ∨ 1000 < af
  · have e0 : setC R k af = (1, R) := if_pos haf
    rw [e0]
    unfold Ky.val
    clear e0 h hba hca hra
    go_enter Try.func10, Try.ntmps10
    rcases haf with haf | haf
    · go_upto_region 1 with (fail)
      rw [← hwa]
      clear hwa
      go_wp2_with fail
      go_returns
      exact ⟨rfl, WxStep.same HW.out HB.out⟩
    · have haf2 : ¬ af < 1 := by omega
      go_upto_region 1 with (fail)
      rw [← hwa]
      clear hwa
      go_wp2_with fail
      go_returns
      exact ⟨rfl, WxStep.same HW.out HB.out⟩
  · obtain ⟨haf1, haf2⟩ : ¬ af < 1 ∧ ¬ 1000 < af := ⟨fun e => haf (Or.inl e), fun e => haf (Or.inr e)⟩
    have HAF := Lib.hid haf
    obtain ⟨ix, hix⟩ : ∃ X, atL k R.l 0 = X := ⟨_, rfl⟩
    have HC := Lib.hid (Place_any hra k)
    rw [hix] at HC
    obtain ⟨n, hn⟩ : ∃ X, R.l.length = X := ⟨_, rfl⟩
    have HIX := Lib.hid hix
    have HN := Lib.hid hn
    have HKV : Hid (k.val = .agg #[.int .i64 k.kind, .int .i64 k.cell, .int .i64 k.node, .int .i64 k.tn, .int .i64 k.te, .int .i64 k.ts]) := Lib.hid rfl
    rw [HKV.out] at HC ⊢
    have hn256 : n ≤ 256 := by rw [← hn]; exact h.len
    have HS := Lib.hid hs
    have HBW0 := Lib.hid hB
    clear h hba hca hra hix hn hs haf hB
    by_cases hfull : ix < 0 ∧ 256 ≤ n
    · have e0 : setC R k af = (6, R) := by
        unfold setC
        rw [if_neg HAF.out, HIX.out, HN.out, if_pos hfull]
      rw [e0]
      obtain ⟨hx1, hx2⟩ := hfull
      clear e0
      go_enter Try.func10, Try.ntmps10
      go_upto_region 3 with (fail)
      rw [← hwa]
      clear hwa
      go_wp2_with fail
      refine HC.out.mono ?_
      rintro e wc ⟨rfl, hbc⟩
      have c1 := (HRA.out.later hbc).cel.cell (j := 1) rfl
      rw [HN.out] at c1
      have HBC := Lib.hid (HB.out.trans (hbc.mono HB.out.size))
      clear hbc
      go_wp2_with fail
      go_returns
      exact ⟨rfl, WxStep.same HW.out HBC.out⟩
    · obtain ⟨due, hdue⟩ : ∃ X, R.now + af = X := ⟨_, rfl⟩
      obtain ⟨R1, hR1⟩ : ∃ X, (stopR R k).2 = X := ⟨_, rfl⟩
      obtain ⟨u, hu⟩ : ∃ X, untilL R1.l due = X := ⟨_, rfl⟩
      obtain ⟨l2, hl2⟩ : ∃ X, R1.l.take u ++ (k, due) :: R1.l.drop u = X := ⟨_, rfl⟩
      have hnow1 : R1.now = R.now := by rw [← hR1, stopR_now]
      have e0 : setC R k af = (0, { R1 with l := l2 }) := by
        unfold setC
        rw [if_neg HAF.out, HIX.out, HN.out, if_neg hfull, hdue, hR1, hu, hl2, ← hnow1]
      rw [e0]
      have HL2 := Lib.hid hl2
      have HU : Hid (u ≤ R1.l.length) := Lib.hid (by rw [← hu]; exact untilL_le _ _)
      have HLT : Hid (R1.l.length ≤ 255) := Lib.hid (by
        have h1 := stopR_len R k
        rw [hR1, HIX.out, HN.out] at h1
        by_cases hx : ix < 0
        · have : ¬ 256 ≤ n := fun e => hfull ⟨hx, e⟩
          omega
        · have := h1.2 hx
          omega)
      have HLL : Hid (l2.length ≤ 256) := Lib.hid (by
        rw [← HL2.out]
        have h1 := HLT.out
        have h2 := HU.out
        rw [List.length_append, List.length_cons, List.length_take, List.length_drop]
        omega)
      have HA1 : Hid (Asc R1.l) := Lib.hid (by rw [← hR1]; exact stopR_asc HS.out)
      have HDUE : Hid (IntKind.i64.wrap (R.now + af) = due) := Lib.hid (by rw [IntKind.wrap_i64]; omega)
      have HST : Hid (∀ L wx, Below w.heap.size w wx → Sl wx (some ⟨L, 0, none⟩) 6 ([k].map Ky.vals) → w.heap.size ≤ L → Calls Try.prog 13 #[.pointer (some ⟨rb, 0, none⟩), .slice (some ⟨L, 0, none⟩) 1 1] wx fun e w' => (∃ z, e = .returned (.int .i64 z)) ∧ WcAt B w' rb R1 A ac ∧ Only (wfoot rb A) wx w') := Lib.hid fun L wx hbx hsl hL => by
        have hS := Stop_any (HW.out.later hbx) (some ⟨L, 0, none⟩) [k] 1 (Nat.le_trans HBW0.out hbx.size) hsl (fun b hb hf => by
          have e1 : L = b := Option.some.inj hb
          rcases hf with e | e
          · have := HW.out.cel.lt
            omega
          · have := (HW.out.row.lt b (by rw [own_blk]; exact e.symm)).2
            omega) (by simp)
        refine hS.mono ?_
        rintro e w' ⟨rfl, h1, h2⟩
        rw [stopN_one, hR1] at h1
        exact ⟨⟨_, rfl⟩, h1, h2⟩
      have HUN : Hid (∀ wx, WcAt B wx rb R1 A ac → ∀ wi, Below wx.heap.size wx wi → Calls Try.prog 26 #[.pointer (some ⟨rb, 0, none⟩), .int .i64 due] wi fun e w' => e = .returned (.int .i64 (u : Int)) ∧ Below wi.heap.size wi w') := Lib.hid fun wx h1 wi hb => by
        have h2 := Until_any (h1.later hb) due HA1.out
        rw [hu] at h2
        exact h2
      have HNOW := Lib.hid hnow1
      have hcond : ix < 0 → ¬ 256 ≤ n := fun e f => hfull ⟨e, f⟩
      clear e0 hR1 hu hl2 hdue hnow1 hfull
      by_cases hx : ix < 0
      · have hx2 : ¬ 256 ≤ n := hcond hx
        clear hcond
        go_enter Try.func10, Try.ntmps10
        go_upto_region 3 with (fail)
        rw [← hwa]
        clear hwa
        go_wp2_with fail
        refine HC.out.mono ?_
        rintro e wc ⟨rfl, hbc⟩
        have c1 := (HRA.out.later hbc).cel.cell (j := 1) rfl
        rw [HN.out] at c1
        have hcc := HCA.out.later hbc
        have y0 := hcc.cell (j := 0) rfl
        have y1 := hcc.cell (j := 1) rfl
        have y2 := hcc.cell (j := 2) rfl
        have y3 := hcc.cell (j := 3) rfl
        have y4 := hcc.cell (j := 4) rfl
        have y5 := hcc.cell (j := 5) rfl
        have HBC := Lib.hid (HB.out.trans (hbc.mono HB.out.size))
        have HCC := Lib.hid hcc
        obtain ⟨wd, hwd⟩ : ∃ W, W = wc.alloc (.cells #[.int .i64 k.kind, .int .i64 k.cell, .int .i64 k.node, .int .i64 k.tn, .int .i64 k.te, .int .i64 k.ts] 34) := ⟨_, rfl⟩
        have hbd : Below wc.heap.size wc wd := by rw [hwd]; exact below_alloc _ _
        have hcd : Cells wd wc.heap.size 34 k.vals := by rw [hwd]; exact cells_new _ _ _ _ rfl
        have HS1 := Lib.hid (HST.out wc.heap.size wd (HBC.out.trans (hbd.mono HBC.out.size)) (cells_sl (by simpa using hcd) fun v hv => (fit_ks [k]).len v hv) HBC.out.size)
        have HBD := Lib.hid (HBC.out.trans (hbd.mono HBC.out.size))
        have HCD := Lib.hid (HCC.out.later hbd)
        clear hbc hcc HC hbd hcd z0 z1 z2 z3 z4 z5
        go_wp2_with (rw [← hwd])
        refine HS1.out.mono ?_
        rintro e we ⟨⟨z, rfl⟩, hr1, ho1⟩
        have hnb : ¬ wfoot rb A w.heap.size := fun hf => by
          rcases hf with e | e
          · have := HW.out.cel.lt
            omega
          · have := (HW.out.row.lt _ (by rw [own_blk]; exact e.symm)).2
            omega
        have HKB : Hid (∀ wi, Below we.heap.size we wi → Cells wi w.heap.size 34 k.vals) := Lib.hid fun wi hb => (cells_only HCD.out ho1 hnb).later hb
        have HR := Lib.hid hr1
        have c0 := hr1.cel.cell (j := 0) rfl
        rw [HNOW.out] at c0
        have HO1 : Hid (Only (wfoot rb A) w we) := Lib.hid ((Only.of_below (S := wfoot rb A) HBD.out).trans ho1 fun _ _ e => e)
        have HUN2 := Lib.hid (HUN.out we hr1)
        have HBW := Lib.hid (Nat.le_trans HBW0.out HO1.out.size)
        obtain ⟨n1, hn1⟩ : ∃ X, R1.l.length = X := ⟨_, rfl⟩
        have HN1 := Lib.hid hn1
        obtain ⟨kb, hkb⟩ : ∃ X, w.heap.size = X := ⟨_, rfl⟩
        rw [hkb] at HKB
        have HKS := Lib.hid hkb
        have hdue := HDUE.out
        clear hr1 ho1 hn1 y0 y1 y2 y3 y4 y5 c1 HS1 hnb hwd HUN HST
        go_upto_region 7 with (fail)
        clear c0 hdue
        have HUN := Lib.hid HUN2.out
        clear HUN2
        refine Reg.region_inv (by kernel_rfl) (fun i => ([some (.pointer (some ⟨rb, 0, none⟩)), some (.pointer (some ⟨rb, 0, none⟩)), some (.pointer (some ⟨rb, 0, none⟩)), some (.pointer (some ⟨rb, 1, none⟩)), some (.slice A n1 ac), some (.pointer (some ⟨rb, 0, none⟩)), some (.int .i64 due), some (.int .i64 (u : Int)), some (.agg #[.int .i64 k.kind, .int .i64 k.cell, .int .i64 k.node, .int .i64 k.tn, .int .i64 k.te, .int .i64 k.ts]), some (.int .i64 due), some (.agg #[.int .i64 k.kind, .int .i64 k.cell, .int .i64 k.node, .int .i64 k.tn, .int .i64 k.te, .int .i64 k.ts, .int .i64 due]), none, none, some (.pointer (some ⟨rb, 0, none⟩)), some (.pointer (some ⟨rb, 1, none⟩)), none] : List (Option Value)).getD i none) (fun D V W => (D 12 = false → Below we.heap.size we W ∧ (D 11 = true → One we (k, due) (V 11) W)) ∧ (D 12 = true → D 15 = false → PendC B we A l2 (V 12) W) ∧ (D 15 = true → WcStep B rb A we { R1 with l := l2 } W)) (fun V => [(some 40, V 0), (some 41, V 1), (some 42, V 2), (some 43, V 3), (some 44, V 4), (some 45, V 5), (some 46, V 6), (some 47, V 7), (some 48, V 8), (some 49, V 9), (some 50, V 10), (some 51, V 11), (some 52, V 12), (some 53, V 13), (some 54, V 14), (none, V 15)]) (by kernel_rfl) (by kernel_rfl) (fun V => rfl) ?_ ?_ ?_
        · intro V
          exact ⟨fun _ => ⟨(Below.refl _ _).drew, fun e => by cases e⟩, fun e => (by cases e), fun e => (by cases e)⟩
        · intro i o ho
          have hi : i < 16 := (Array.getElem?_eq_some_iff.1 ho).1
          rcases i with _ | _ | _ | _ | _ | _ | _ | _ | _ | _ | _ | _ | _ | _ | _ | _ | i
          rotate_right
          · omega
          all_goals obtain rfl := Option.some.inj ho
          all_goals intro D V ρ wi hE hI hDi hT hF hs hd hk
          · have e0 : ρ (.tmp 0) = .pointer (some ⟨rb, 0, none⟩) := hs 0; clear hT hF hk
            exact Reg.Gives.value (v := .pointer (some ⟨rb, 0, none⟩)) (w' := wi) (by go_simp) ⟨fun x h => Option.some.inj h, hI⟩
          · have e0 : ρ (.tmp 0) = .pointer (some ⟨rb, 0, none⟩) := hs 0; clear hT hF hk
            exact Reg.Gives.value (v := .pointer (some ⟨rb, 0, none⟩)) (w' := wi) (by go_simp) ⟨fun x h => Option.some.inj h, hI⟩
          · have e41 : ρ (.tmp 41) = .pointer (some ⟨rb, 0, none⟩) := (hd 1 41).trans (hk 1 _ rfl); clear hT hF hk
            exact Reg.Gives.value (v := .pointer (some ⟨rb, 0, none⟩)) (w' := wi) (by go_simp) ⟨fun x h => Option.some.inj h, hI⟩
          · have e42 : ρ (.tmp 42) = .pointer (some ⟨rb, 0, none⟩) := (hd 2 42).trans (hk 2 _ rfl); clear hT hF hk
            exact Reg.Gives.value (v := .pointer (some ⟨rb, 1, none⟩)) (w' := wi) (by go_simp) ⟨fun x h => Option.some.inj h, hI⟩
          · have e43 : ρ (.tmp 43) = .pointer (some ⟨rb, 1, none⟩) := (hd 3 43).trans (hk 3 _ rfl); have hD12 : D 12 = false := hF 1 12; clear hT hF; have hL : Below we.heap.size we wi := (hI.1 hD12).1; have x0 := (HR.out.later hL).cel.cell (j := 1) rfl
            rw [HN1.out] at x0
            exact Reg.Gives.value (v := .slice A n1 ac) (w' := wi) (by go_simp) ⟨fun x h => Option.some.inj h, hI⟩
          · have e0 : ρ (.tmp 0) = .pointer (some ⟨rb, 0, none⟩) := hs 0; clear hT hF hk
            exact Reg.Gives.value (v := .pointer (some ⟨rb, 0, none⟩)) (w' := wi) (by go_simp) ⟨fun x h => Option.some.inj h, hI⟩
          · have e7 : ρ (.tmp 7) = .int .i64 due := hs 7; clear hT hF hk
            exact Reg.Gives.value (v := .int .i64 due) (w' := wi) (by go_simp) ⟨fun x h => Option.some.inj h, hI⟩
          · have e45 : ρ (.tmp 45) = .pointer (some ⟨rb, 0, none⟩) := (hd 5 45).trans (hk 5 _ rfl); have e46 : ρ (.tmp 46) = .int .i64 due := (hd 6 46).trans (hk 6 _ rfl); have hf := hE.func; have hD12 : D 12 = false := hF 1 12; have hD15 : D 15 = false := hF 1 15; clear hT hF; have h1 := hI.1 hD12
            refine Reg.Gives.call (f := 26) (args := #[.pointer (some ⟨rb, 0, none⟩), .int .i64 due]) (w' := wi) (by go_simp) ?_
            refine (HUN.out wi h1.1).mono ?_
            rintro e w'' ⟨rfl, hb2⟩
            exact ⟨_, rfl, fun x h => Option.some.inj h, by show (D 12 = false → Below we.heap.size we w'' ∧ (D 11 = true → One we (k, due) (V 11) w'')) ∧ (D 12 = true → D 15 = false → PendC B we A l2 (V 12) w'') ∧ (D 15 = true → WcStep B rb A we { R1 with l := l2 } w''); exact ⟨fun _ => ⟨h1.1.trans (hb2.mono h1.1.size), fun e => (h1.2 e).later hb2⟩, fun e => (by rw [hD12] at e; cases e), fun e => (by rw [hD15] at e; cases e)⟩⟩
          · have e4 : ρ (.tmp 4) = .pointer (some ⟨kb, 0, none⟩) := hs 4; have hD12 : D 12 = false := hF 3 12; clear hT hF; have hL : Below we.heap.size we wi := (hI.1 hD12).1; have hq := HKB.out wi hL; have q0 := hq.cell (j := 0) rfl; have q1 := hq.cell (j := 1) rfl; have q2 := hq.cell (j := 2) rfl; have q3 := hq.cell (j := 3) rfl; have q4 := hq.cell (j := 4) rfl; have q5 := hq.cell (j := 5) rfl
            exact Reg.Gives.value (v := .agg #[.int .i64 k.kind, .int .i64 k.cell, .int .i64 k.node, .int .i64 k.tn, .int .i64 k.te, .int .i64 k.ts]) (w' := wi) (by go_simp) ⟨fun x h => Option.some.inj h, hI⟩
          · have e7 : ρ (.tmp 7) = .int .i64 due := hs 7; clear hT hF hk
            exact Reg.Gives.value (v := .int .i64 due) (w' := wi) (by go_simp) ⟨fun x h => Option.some.inj h, hI⟩
          · have e48 : ρ (.tmp 48) = .agg #[.int .i64 k.kind, .int .i64 k.cell, .int .i64 k.node, .int .i64 k.tn, .int .i64 k.te, .int .i64 k.ts] := (hd 8 48).trans (hk 8 _ rfl); have e49 : ρ (.tmp 49) = .int .i64 due := (hd 9 49).trans (hk 9 _ rfl); clear hT hF hk
            exact Reg.Gives.value (v := .agg #[.int .i64 k.kind, .int .i64 k.cell, .int .i64 k.node, .int .i64 k.tn, .int .i64 k.te, .int .i64 k.ts, .int .i64 due]) (w' := wi) (by go_simp) ⟨fun x h => Option.some.inj h, hI⟩
          · have e50 : ρ (.tmp 50) = .agg #[.int .i64 k.kind, .int .i64 k.cell, .int .i64 k.node, .int .i64 k.tn, .int .i64 k.te, .int .i64 k.ts, .int .i64 due] := (hd 10 50).trans (hk 10 _ rfl); have hD12 : D 12 = false := hF 1 12; have hD15 : D 15 = false := hF 1 15; clear hT hF; have h1 := hI.1 hD12
            have hal := below_alloc wi (.cells #[.int .i64 k.kind, .int .i64 k.cell, .int .i64 k.node, .int .i64 k.tn, .int .i64 k.te, .int .i64 k.ts, .int .i64 due] 67)
            exact Reg.Gives.value (v := .slice (some ⟨wi.heap.size, 0, none⟩) 1 1) (w' := wi.alloc (.cells #[.int .i64 k.kind, .int .i64 k.cell, .int .i64 k.node, .int .i64 k.tn, .int .i64 k.te, .int .i64 k.ts, .int .i64 due] 67)) (by go_simp) ⟨fun x h => (by cases h), by show (D 12 = false → Below we.heap.size we (wi.alloc (.cells #[.int .i64 k.kind, .int .i64 k.cell, .int .i64 k.node, .int .i64 k.tn, .int .i64 k.te, .int .i64 k.ts, .int .i64 due] 67)) ∧ (true = true → One we (k, due) (Value.slice (some ⟨wi.heap.size, 0, none⟩) 1 1) (wi.alloc (.cells #[.int .i64 k.kind, .int .i64 k.cell, .int .i64 k.node, .int .i64 k.tn, .int .i64 k.te, .int .i64 k.ts, .int .i64 due] 67)))) ∧ (D 12 = true → D 15 = false → PendC B we A l2 (V 12) (wi.alloc (.cells #[.int .i64 k.kind, .int .i64 k.cell, .int .i64 k.node, .int .i64 k.tn, .int .i64 k.te, .int .i64 k.ts, .int .i64 due] 67))) ∧ (D 15 = true → WcStep B rb A we { R1 with l := l2 } (wi.alloc (.cells #[.int .i64 k.kind, .int .i64 k.cell, .int .i64 k.node, .int .i64 k.tn, .int .i64 k.te, .int .i64 k.ts, .int .i64 due] 67))); exact ⟨fun _ => ⟨h1.1.trans (hal.mono h1.1.size), fun _ => One.new h1.1 (k, due)⟩, fun e => (by rw [hD12] at e; cases e), fun e => (by rw [hD15] at e; cases e)⟩⟩
          · have e44 : ρ (.tmp 44) = .slice A n1 ac := (hd 4 44).trans (hk 4 _ rfl); have e47 : ρ (.tmp 47) = .int .i64 (u : Int) := (hd 7 47).trans (hk 7 _ rfl); have e51 : ρ (.tmp 51) = V 11 := hd 11 51; have hf := hE.func; have hD11 : D 11 = true := hT 1 11; have hD12 : D 12 = false := hDi; have hD15 : D 15 = false := hF 1 15; clear hT hF; have h1 := hI.1 hD12
            obtain ⟨g2, hv2, hcs, hg2⟩ := h1.2 hD11
            rw [hv2] at e51
            refine Reg.Gives.call (f := 25) (args := #[.slice A n1 ac, .int .i64 (u : Int), .slice (some ⟨g2, 0, none⟩) 1 1]) (w' := wi) (by go_simp) ?_
            have hin := HR.out.ins HBW.out h1.1 hcs hg2 HU.out HLT.out
            rw [HN1.out] at hin
            refine hin.mono ?_
            rintro e w'' ⟨v2, rfl, hpd⟩
            rw [HL2.out] at hpd
            exact ⟨_, rfl, fun x h => (by cases h), by show (true = false → Below we.heap.size we w'' ∧ (D 11 = true → One we (k, due) (V 11) w'')) ∧ (true = true → D 15 = false → PendC B we A l2 (v2) w'') ∧ (D 15 = true → WcStep B rb A we { R1 with l := l2 } w''); exact ⟨fun e => (by cases e), fun _ _ => hpd, fun e => (by rw [hD15] at e; cases e)⟩⟩
          · have e40 : ρ (.tmp 40) = .pointer (some ⟨rb, 0, none⟩) := (hd 0 40).trans (hk 0 _ rfl); clear hT hF hk
            exact Reg.Gives.value (v := .pointer (some ⟨rb, 0, none⟩)) (w' := wi) (by go_simp) ⟨fun x h => Option.some.inj h, hI⟩
          · have e53 : ρ (.tmp 53) = .pointer (some ⟨rb, 0, none⟩) := (hd 13 53).trans (hk 13 _ rfl); clear hT hF hk
            exact Reg.Gives.value (v := .pointer (some ⟨rb, 1, none⟩)) (w' := wi) (by go_simp) ⟨fun x h => Option.some.inj h, hI⟩
          · have e54 : ρ (.tmp 54) = .pointer (some ⟨rb, 1, none⟩) := (hd 14 54).trans (hk 14 _ rfl); have e52 : ρ (.tmp 52) = V 12 := hd 12 52; have hD12 : D 12 = true := hT 1 12; have hD15 : D 15 = false := hDi; clear hT hF; have h2 := hI.2.1 hD12 hD15; obtain ⟨A2, c2, hv2, hrow, ho, hg⟩ := h2; obtain ⟨x0, x1, hfin, hfo⟩ := HR.out.put hrow ho hg HLL.out
            obtain ⟨n3, hn3⟩ : ∃ n3, l2.length = n3 := ⟨_, rfl⟩
            rw [hn3] at hv2 hfin hfo
            have e9 := e52
            rw [hv2] at e9
            clear e52
            exact Reg.Gives.skip (w' := wi.setCell ⟨rb, 1, none⟩ (.slice A2 n3 c2)) (by go_simp) ⟨fun x h => (by cases h), by show (D 12 = false → Below we.heap.size we (wi.setCell ⟨rb, 1, none⟩ (.slice A2 n3 c2)) ∧ (D 11 = true → One we (k, due) (V 11) (wi.setCell ⟨rb, 1, none⟩ (.slice A2 n3 c2)))) ∧ (D 12 = true → true = false → PendC B we A l2 (V 12) (wi.setCell ⟨rb, 1, none⟩ (.slice A2 n3 c2))) ∧ (true = true → WcStep B rb A we { R1 with l := l2 } (wi.setCell ⟨rb, 1, none⟩ (.slice A2 n3 c2))); exact ⟨fun e => (by rw [hD12] at e; cases e), fun _ e => (by cases e), fun _ => ⟨A2, c2, hfin, hfo, fun k e => hg k e.symm⟩⟩⟩
        · intro V wf hk hI
          simp only [Reg.putsO, List.foldl_cons, List.foldl_nil, Act.put, List.setIfInBounds_toArray, List.set_cons_succ, List.set_cons_zero]
          replace hI : ((fun _ => true) 12 = false → Below we.heap.size we wf ∧ ((fun _ => true) 11 = true → One we (k, due) (V 11) wf)) ∧ ((fun _ => true) 12 = true → (fun _ => true) 15 = false → PendC B we A l2 (V 12) wf) ∧ ((fun _ => true) 15 = true → WcStep B rb A we { R1 with l := l2 } wf) := hI
          clear hk
          obtain ⟨A2, ac2, hf1, hf2, hf3⟩ := hI.2.2 rfl
          have HF : Hid (WcStep B rb A w { R1 with l := l2 } wf) := Lib.hid (by
            refine ⟨A2, ac2, hf1, HO1.out.trans hf2 fun _ _ e => e, fun k e => ?_⟩
            rcases hf3 k e with e2 | e2
            · exact Or.inl e2
            · exact Or.inr (Nat.le_trans HO1.out.size e2))
          clear hI hf1 hf2 hf3
          go_wp2_with fail
          go_returns
          exact ⟨rfl, HF.out⟩
      · clear hcond
        go_enter Try.func10, Try.ntmps10
        go_upto_region 3 with (fail)
        rw [← hwa]
        clear hwa
        go_wp2_with fail
        refine HC.out.mono ?_
        rintro e wc ⟨rfl, hbc⟩
        have c1 := (HRA.out.later hbc).cel.cell (j := 1) rfl
        rw [HN.out] at c1
        have hcc := HCA.out.later hbc
        have y0 := hcc.cell (j := 0) rfl
        have y1 := hcc.cell (j := 1) rfl
        have y2 := hcc.cell (j := 2) rfl
        have y3 := hcc.cell (j := 3) rfl
        have y4 := hcc.cell (j := 4) rfl
        have y5 := hcc.cell (j := 5) rfl
        have HBC := Lib.hid (HB.out.trans (hbc.mono HB.out.size))
        have HCC := Lib.hid hcc
        obtain ⟨wd, hwd⟩ : ∃ W, W = wc.alloc (.cells #[.int .i64 k.kind, .int .i64 k.cell, .int .i64 k.node, .int .i64 k.tn, .int .i64 k.te, .int .i64 k.ts] 34) := ⟨_, rfl⟩
        have hbd : Below wc.heap.size wc wd := by rw [hwd]; exact below_alloc _ _
        have hcd : Cells wd wc.heap.size 34 k.vals := by rw [hwd]; exact cells_new _ _ _ _ rfl
        have HS1 := Lib.hid (HST.out wc.heap.size wd (HBC.out.trans (hbd.mono HBC.out.size)) (cells_sl (by simpa using hcd) fun v hv => (fit_ks [k]).len v hv) HBC.out.size)
        have HBD := Lib.hid (HBC.out.trans (hbd.mono HBC.out.size))
        have HCD := Lib.hid (HCC.out.later hbd)
        clear hbc hcc HC hbd hcd z0 z1 z2 z3 z4 z5
        go_wp2_with (rw [← hwd])
        refine HS1.out.mono ?_
        rintro e we ⟨⟨z, rfl⟩, hr1, ho1⟩
        have hnb : ¬ wfoot rb A w.heap.size := fun hf => by
          rcases hf with e | e
          · have := HW.out.cel.lt
            omega
          · have := (HW.out.row.lt _ (by rw [own_blk]; exact e.symm)).2
            omega
        have HKB : Hid (∀ wi, Below we.heap.size we wi → Cells wi w.heap.size 34 k.vals) := Lib.hid fun wi hb => (cells_only HCD.out ho1 hnb).later hb
        have HR := Lib.hid hr1
        have c0 := hr1.cel.cell (j := 0) rfl
        rw [HNOW.out] at c0
        have HO1 : Hid (Only (wfoot rb A) w we) := Lib.hid ((Only.of_below (S := wfoot rb A) HBD.out).trans ho1 fun _ _ e => e)
        have HUN2 := Lib.hid (HUN.out we hr1)
        have HBW := Lib.hid (Nat.le_trans HBW0.out HO1.out.size)
        obtain ⟨n1, hn1⟩ : ∃ X, R1.l.length = X := ⟨_, rfl⟩
        have HN1 := Lib.hid hn1
        obtain ⟨kb, hkb⟩ : ∃ X, w.heap.size = X := ⟨_, rfl⟩
        rw [hkb] at HKB
        have HKS := Lib.hid hkb
        have hdue := HDUE.out
        clear hr1 ho1 hn1 y0 y1 y2 y3 y4 y5 c1 HS1 hnb hwd HUN HST
        go_upto_region 7 with (fail)
        clear c0 hdue
        have HUN := Lib.hid HUN2.out
        clear HUN2
        refine Reg.region_inv (by kernel_rfl) (fun i => ([some (.pointer (some ⟨rb, 0, none⟩)), some (.pointer (some ⟨rb, 0, none⟩)), some (.pointer (some ⟨rb, 0, none⟩)), some (.pointer (some ⟨rb, 1, none⟩)), some (.slice A n1 ac), some (.pointer (some ⟨rb, 0, none⟩)), some (.int .i64 due), some (.int .i64 (u : Int)), some (.agg #[.int .i64 k.kind, .int .i64 k.cell, .int .i64 k.node, .int .i64 k.tn, .int .i64 k.te, .int .i64 k.ts]), some (.int .i64 due), some (.agg #[.int .i64 k.kind, .int .i64 k.cell, .int .i64 k.node, .int .i64 k.tn, .int .i64 k.te, .int .i64 k.ts, .int .i64 due]), none, none, some (.pointer (some ⟨rb, 0, none⟩)), some (.pointer (some ⟨rb, 1, none⟩)), none] : List (Option Value)).getD i none) (fun D V W => (D 12 = false → Below we.heap.size we W ∧ (D 11 = true → One we (k, due) (V 11) W)) ∧ (D 12 = true → D 15 = false → PendC B we A l2 (V 12) W) ∧ (D 15 = true → WcStep B rb A we { R1 with l := l2 } W)) (fun V => [(some 40, V 0), (some 41, V 1), (some 42, V 2), (some 43, V 3), (some 44, V 4), (some 45, V 5), (some 46, V 6), (some 47, V 7), (some 48, V 8), (some 49, V 9), (some 50, V 10), (some 51, V 11), (some 52, V 12), (some 53, V 13), (some 54, V 14), (none, V 15)]) (by kernel_rfl) (by kernel_rfl) (fun V => rfl) ?_ ?_ ?_
        · intro V
          exact ⟨fun _ => ⟨(Below.refl _ _).drew, fun e => by cases e⟩, fun e => (by cases e), fun e => (by cases e)⟩
        · intro i o ho
          have hi : i < 16 := (Array.getElem?_eq_some_iff.1 ho).1
          rcases i with _ | _ | _ | _ | _ | _ | _ | _ | _ | _ | _ | _ | _ | _ | _ | _ | i
          rotate_right
          · omega
          all_goals obtain rfl := Option.some.inj ho
          all_goals intro D V ρ wi hE hI hDi hT hF hs hd hk
          · have e0 : ρ (.tmp 0) = .pointer (some ⟨rb, 0, none⟩) := hs 0; clear hT hF hk
            exact Reg.Gives.value (v := .pointer (some ⟨rb, 0, none⟩)) (w' := wi) (by go_simp) ⟨fun x h => Option.some.inj h, hI⟩
          · have e0 : ρ (.tmp 0) = .pointer (some ⟨rb, 0, none⟩) := hs 0; clear hT hF hk
            exact Reg.Gives.value (v := .pointer (some ⟨rb, 0, none⟩)) (w' := wi) (by go_simp) ⟨fun x h => Option.some.inj h, hI⟩
          · have e41 : ρ (.tmp 41) = .pointer (some ⟨rb, 0, none⟩) := (hd 1 41).trans (hk 1 _ rfl); clear hT hF hk
            exact Reg.Gives.value (v := .pointer (some ⟨rb, 0, none⟩)) (w' := wi) (by go_simp) ⟨fun x h => Option.some.inj h, hI⟩
          · have e42 : ρ (.tmp 42) = .pointer (some ⟨rb, 0, none⟩) := (hd 2 42).trans (hk 2 _ rfl); clear hT hF hk
            exact Reg.Gives.value (v := .pointer (some ⟨rb, 1, none⟩)) (w' := wi) (by go_simp) ⟨fun x h => Option.some.inj h, hI⟩
          · have e43 : ρ (.tmp 43) = .pointer (some ⟨rb, 1, none⟩) := (hd 3 43).trans (hk 3 _ rfl); have hD12 : D 12 = false := hF 1 12; clear hT hF; have hL : Below we.heap.size we wi := (hI.1 hD12).1; have x0 := (HR.out.later hL).cel.cell (j := 1) rfl
            rw [HN1.out] at x0
            exact Reg.Gives.value (v := .slice A n1 ac) (w' := wi) (by go_simp) ⟨fun x h => Option.some.inj h, hI⟩
          · have e0 : ρ (.tmp 0) = .pointer (some ⟨rb, 0, none⟩) := hs 0; clear hT hF hk
            exact Reg.Gives.value (v := .pointer (some ⟨rb, 0, none⟩)) (w' := wi) (by go_simp) ⟨fun x h => Option.some.inj h, hI⟩
          · have e7 : ρ (.tmp 7) = .int .i64 due := hs 7; clear hT hF hk
            exact Reg.Gives.value (v := .int .i64 due) (w' := wi) (by go_simp) ⟨fun x h => Option.some.inj h, hI⟩
          · have e45 : ρ (.tmp 45) = .pointer (some ⟨rb, 0, none⟩) := (hd 5 45).trans (hk 5 _ rfl); have e46 : ρ (.tmp 46) = .int .i64 due := (hd 6 46).trans (hk 6 _ rfl); have hf := hE.func; have hD12 : D 12 = false := hF 1 12; have hD15 : D 15 = false := hF 1 15; clear hT hF; have h1 := hI.1 hD12
            refine Reg.Gives.call (f := 26) (args := #[.pointer (some ⟨rb, 0, none⟩), .int .i64 due]) (w' := wi) (by go_simp) ?_
            refine (HUN.out wi h1.1).mono ?_
            rintro e w'' ⟨rfl, hb2⟩
            exact ⟨_, rfl, fun x h => Option.some.inj h, by show (D 12 = false → Below we.heap.size we w'' ∧ (D 11 = true → One we (k, due) (V 11) w'')) ∧ (D 12 = true → D 15 = false → PendC B we A l2 (V 12) w'') ∧ (D 15 = true → WcStep B rb A we { R1 with l := l2 } w''); exact ⟨fun _ => ⟨h1.1.trans (hb2.mono h1.1.size), fun e => (h1.2 e).later hb2⟩, fun e => (by rw [hD12] at e; cases e), fun e => (by rw [hD15] at e; cases e)⟩⟩
          · have e4 : ρ (.tmp 4) = .pointer (some ⟨kb, 0, none⟩) := hs 4; have hD12 : D 12 = false := hF 3 12; clear hT hF; have hL : Below we.heap.size we wi := (hI.1 hD12).1; have hq := HKB.out wi hL; have q0 := hq.cell (j := 0) rfl; have q1 := hq.cell (j := 1) rfl; have q2 := hq.cell (j := 2) rfl; have q3 := hq.cell (j := 3) rfl; have q4 := hq.cell (j := 4) rfl; have q5 := hq.cell (j := 5) rfl
            exact Reg.Gives.value (v := .agg #[.int .i64 k.kind, .int .i64 k.cell, .int .i64 k.node, .int .i64 k.tn, .int .i64 k.te, .int .i64 k.ts]) (w' := wi) (by go_simp) ⟨fun x h => Option.some.inj h, hI⟩
          · have e7 : ρ (.tmp 7) = .int .i64 due := hs 7; clear hT hF hk
            exact Reg.Gives.value (v := .int .i64 due) (w' := wi) (by go_simp) ⟨fun x h => Option.some.inj h, hI⟩
          · have e48 : ρ (.tmp 48) = .agg #[.int .i64 k.kind, .int .i64 k.cell, .int .i64 k.node, .int .i64 k.tn, .int .i64 k.te, .int .i64 k.ts] := (hd 8 48).trans (hk 8 _ rfl); have e49 : ρ (.tmp 49) = .int .i64 due := (hd 9 49).trans (hk 9 _ rfl); clear hT hF hk
            exact Reg.Gives.value (v := .agg #[.int .i64 k.kind, .int .i64 k.cell, .int .i64 k.node, .int .i64 k.tn, .int .i64 k.te, .int .i64 k.ts, .int .i64 due]) (w' := wi) (by go_simp) ⟨fun x h => Option.some.inj h, hI⟩
          · have e50 : ρ (.tmp 50) = .agg #[.int .i64 k.kind, .int .i64 k.cell, .int .i64 k.node, .int .i64 k.tn, .int .i64 k.te, .int .i64 k.ts, .int .i64 due] := (hd 10 50).trans (hk 10 _ rfl); have hD12 : D 12 = false := hF 1 12; have hD15 : D 15 = false := hF 1 15; clear hT hF; have h1 := hI.1 hD12
            have hal := below_alloc wi (.cells #[.int .i64 k.kind, .int .i64 k.cell, .int .i64 k.node, .int .i64 k.tn, .int .i64 k.te, .int .i64 k.ts, .int .i64 due] 67)
            exact Reg.Gives.value (v := .slice (some ⟨wi.heap.size, 0, none⟩) 1 1) (w' := wi.alloc (.cells #[.int .i64 k.kind, .int .i64 k.cell, .int .i64 k.node, .int .i64 k.tn, .int .i64 k.te, .int .i64 k.ts, .int .i64 due] 67)) (by go_simp) ⟨fun x h => (by cases h), by show (D 12 = false → Below we.heap.size we (wi.alloc (.cells #[.int .i64 k.kind, .int .i64 k.cell, .int .i64 k.node, .int .i64 k.tn, .int .i64 k.te, .int .i64 k.ts, .int .i64 due] 67)) ∧ (true = true → One we (k, due) (Value.slice (some ⟨wi.heap.size, 0, none⟩) 1 1) (wi.alloc (.cells #[.int .i64 k.kind, .int .i64 k.cell, .int .i64 k.node, .int .i64 k.tn, .int .i64 k.te, .int .i64 k.ts, .int .i64 due] 67)))) ∧ (D 12 = true → D 15 = false → PendC B we A l2 (V 12) (wi.alloc (.cells #[.int .i64 k.kind, .int .i64 k.cell, .int .i64 k.node, .int .i64 k.tn, .int .i64 k.te, .int .i64 k.ts, .int .i64 due] 67))) ∧ (D 15 = true → WcStep B rb A we { R1 with l := l2 } (wi.alloc (.cells #[.int .i64 k.kind, .int .i64 k.cell, .int .i64 k.node, .int .i64 k.tn, .int .i64 k.te, .int .i64 k.ts, .int .i64 due] 67))); exact ⟨fun _ => ⟨h1.1.trans (hal.mono h1.1.size), fun _ => One.new h1.1 (k, due)⟩, fun e => (by rw [hD12] at e; cases e), fun e => (by rw [hD15] at e; cases e)⟩⟩
          · have e44 : ρ (.tmp 44) = .slice A n1 ac := (hd 4 44).trans (hk 4 _ rfl); have e47 : ρ (.tmp 47) = .int .i64 (u : Int) := (hd 7 47).trans (hk 7 _ rfl); have e51 : ρ (.tmp 51) = V 11 := hd 11 51; have hf := hE.func; have hD11 : D 11 = true := hT 1 11; have hD12 : D 12 = false := hDi; have hD15 : D 15 = false := hF 1 15; clear hT hF; have h1 := hI.1 hD12
            obtain ⟨g2, hv2, hcs, hg2⟩ := h1.2 hD11
            rw [hv2] at e51
            refine Reg.Gives.call (f := 25) (args := #[.slice A n1 ac, .int .i64 (u : Int), .slice (some ⟨g2, 0, none⟩) 1 1]) (w' := wi) (by go_simp) ?_
            have hin := HR.out.ins HBW.out h1.1 hcs hg2 HU.out HLT.out
            rw [HN1.out] at hin
            refine hin.mono ?_
            rintro e w'' ⟨v2, rfl, hpd⟩
            rw [HL2.out] at hpd
            exact ⟨_, rfl, fun x h => (by cases h), by show (true = false → Below we.heap.size we w'' ∧ (D 11 = true → One we (k, due) (V 11) w'')) ∧ (true = true → D 15 = false → PendC B we A l2 (v2) w'') ∧ (D 15 = true → WcStep B rb A we { R1 with l := l2 } w''); exact ⟨fun e => (by cases e), fun _ _ => hpd, fun e => (by rw [hD15] at e; cases e)⟩⟩
          · have e40 : ρ (.tmp 40) = .pointer (some ⟨rb, 0, none⟩) := (hd 0 40).trans (hk 0 _ rfl); clear hT hF hk
            exact Reg.Gives.value (v := .pointer (some ⟨rb, 0, none⟩)) (w' := wi) (by go_simp) ⟨fun x h => Option.some.inj h, hI⟩
          · have e53 : ρ (.tmp 53) = .pointer (some ⟨rb, 0, none⟩) := (hd 13 53).trans (hk 13 _ rfl); clear hT hF hk
            exact Reg.Gives.value (v := .pointer (some ⟨rb, 1, none⟩)) (w' := wi) (by go_simp) ⟨fun x h => Option.some.inj h, hI⟩
          · have e54 : ρ (.tmp 54) = .pointer (some ⟨rb, 1, none⟩) := (hd 14 54).trans (hk 14 _ rfl); have e52 : ρ (.tmp 52) = V 12 := hd 12 52; have hD12 : D 12 = true := hT 1 12; have hD15 : D 15 = false := hDi; clear hT hF; have h2 := hI.2.1 hD12 hD15; obtain ⟨A2, c2, hv2, hrow, ho, hg⟩ := h2; obtain ⟨x0, x1, hfin, hfo⟩ := HR.out.put hrow ho hg HLL.out
            obtain ⟨n3, hn3⟩ : ∃ n3, l2.length = n3 := ⟨_, rfl⟩
            rw [hn3] at hv2 hfin hfo
            have e9 := e52
            rw [hv2] at e9
            clear e52
            exact Reg.Gives.skip (w' := wi.setCell ⟨rb, 1, none⟩ (.slice A2 n3 c2)) (by go_simp) ⟨fun x h => (by cases h), by show (D 12 = false → Below we.heap.size we (wi.setCell ⟨rb, 1, none⟩ (.slice A2 n3 c2)) ∧ (D 11 = true → One we (k, due) (V 11) (wi.setCell ⟨rb, 1, none⟩ (.slice A2 n3 c2)))) ∧ (D 12 = true → true = false → PendC B we A l2 (V 12) (wi.setCell ⟨rb, 1, none⟩ (.slice A2 n3 c2))) ∧ (true = true → WcStep B rb A we { R1 with l := l2 } (wi.setCell ⟨rb, 1, none⟩ (.slice A2 n3 c2))); exact ⟨fun e => (by rw [hD12] at e; cases e), fun _ e => (by cases e), fun _ => ⟨A2, c2, hfin, hfo, fun k e => hg k e.symm⟩⟩⟩
        · intro V wf hk hI
          simp only [Reg.putsO, List.foldl_cons, List.foldl_nil, Act.put, List.setIfInBounds_toArray, List.set_cons_succ, List.set_cons_zero]
          replace hI : ((fun _ => true) 12 = false → Below we.heap.size we wf ∧ ((fun _ => true) 11 = true → One we (k, due) (V 11) wf)) ∧ ((fun _ => true) 12 = true → (fun _ => true) 15 = false → PendC B we A l2 (V 12) wf) ∧ ((fun _ => true) 15 = true → WcStep B rb A we { R1 with l := l2 } wf) := hI
          clear hk
          obtain ⟨A2, ac2, hf1, hf2, hf3⟩ := hI.2.2 rfl
          have HF : Hid (WcStep B rb A w { R1 with l := l2 } wf) := Lib.hid (by
            refine ⟨A2, ac2, hf1, HO1.out.trans hf2 fun _ _ e => e, fun k e => ?_⟩
            rcases hf3 k e with e2 | e2
            · exact Or.inl e2
            · exact Or.inr (Nat.le_trans HO1.out.size e2))
          clear hI hf1 hf2 hf3
          go_wp2_with fail
          go_returns
          exact ⟨rfl, HF.out⟩
end Go.Proofs.Ytnbdgjaekjneaaa.Whl
