/-
  Layer 12, the document's wheel: Set. Conditions: none.
-/
import Derived.Test.YtnbdgjaekjneaaaWhlStop
namespace Go.Proofs.Ytnbdgjaekjneaaa.Whl
set_option maxRecDepth 100000
open Go.RowKit Go.Deep Go.Proofs.Ytnbdgjaekjneaaa.Mem

/-- A timer is appended, the struct doesn't hold the new row yet. -/
def Pend (B : Nat) (we : World) (rb : Nat) (R : Wr) (A : Option Addr) (ac : Nat) (p : Tm) (v : Value) (W : World) : Prop :=
  ∃ A2 c2, v = .slice A2 (R.l ++ [p]).length c2 ∧ W.ownsRow B 53 7 v (R.l ++ [p]).length ((R.l ++ [p]).map Tm.vals).flatten ∧ Only (fun k => some k = blk A) we W ∧ (∀ k, blk A2 = some k → some k = blk A ∨ we.heap.size ≤ k) ∧ Cells W rb 30 [.int .i64 R.now, .slice A R.l.length ac]
theorem WxAt.grow {B rb ac g : Nat} {we wi : World} {R : Wr} {A : Option Addr} {p : Tm} (h : WrAt B we rb R A ac) (hB : B ≤ we.heap.size) (hb : Below we.heap.size we wi) (hc : Cells wi g 53 p.vals) (hl : R.l.length < 256) :
    ∃ v w2, (Builtin.append_ #[28, 28] 28 #[.slice A R.l.length ac, .slice (some ⟨g, 0, none⟩) 1 1]).run Try.prog wi = .ok v w2 ∧ Pend B we rb R A ac p v w2 := by
  have hi := h.later hb
  have hsl : Sl wi (some ⟨g, 0, none⟩) 7 ([p].map Tm.vals) := cells_sl (by simpa using hc) fun v hv => (fit_tms [p]).len v hv
  obtain ⟨v', w2, hrun, hrow, hg, hnb⟩ := run_append_rows el_tm wi 28 B (.slice A R.l.length ac) (R.l.map Tm.vals) ([p].map Tm.vals) (some ⟨g, 0, none⟩) 1 (fit_tms _) (fit_tms [p])
    (by rw [List.length_map]; exact hi.row) hsl (fun e => by cases e) (by simp; omega) (Nat.le_trans hB hb.size)
  obtain ⟨A2, c2, rfl⟩ := row_slice hrow
  rw [← List.map_append] at hrow hrun hnb
  have ho := Only.of_grown hg
  rw [own_blk] at ho
  rw [own_blk, own_blk] at hnb
  refine ⟨_, w2, hrun, A2, c2, by rw [List.length_map], by rw [List.length_map] at hrow ⊢; exact hrow, (Only.of_below hb).trans ho fun _ _ e => e, fun k e => ?_, cells_only hi.cel ho fun e => ?_⟩
  · rcases hnb with e2 | e2
    · exact Or.inl (by rw [← e2, e])
    · have e3 : k = wi.heap.size := by rw [e] at e2; exact Option.some.inj e2
      have := hb.size
      exact Or.inr (by omega)
  · exact h.nA rb (by rw [own_blk]; exact e.symm) rfl
theorem Pend.put {B rb ac : Nat} {we wi : World} {R : Wr} {A : Option Addr} {p : Tm} {v : Value} (hp : Pend B we rb R A ac p v wi) (h : WrAt B we rb R A ac) (hl : R.l.length < 256) :
    (∃ u, wi.cell? ⟨rb, 1, none⟩ = some u) ∧ wi.frozen? ⟨rb, 1, none⟩ = false ∧ WStep B rb A we { R with l := R.l ++ [p] } (wi.setCell ⟨rb, 1, none⟩ v) := by
  obtain ⟨A2, c2, rfl, hrow, ho, hg, hc⟩ := hp
  have hrb := h.cel.lt
  have hne : ∀ k, blk A2 = some k → k ≠ rb := fun k e e2 => by
    rcases hg k e with e3 | e3
    · exact h.nA k (by rw [own_blk]; exact e3.symm) e2
    · omega
  refine ⟨⟨_, hc.cell (j := 1) rfl⟩, hc.frozen (j := 1) (by simp), A2, c2, ⟨hc.set_ 1 _, row_only hrow (Only.of_set wi ⟨rb, 1, none⟩ _) fun k hk e => hne k (by rw [own_blk] at hk; exact hk) e, h.low, fun k hk e => hne k (by rw [own_blk] at hk; exact hk) e, by show (R.l ++ [p]).length ≤ 256; rw [List.length_append, List.length_singleton]; omega⟩, ?_, fun k e => hg k e.symm⟩
  exact (ho.mono fun k _ e => Or.inr e).trans ((Only.of_set wi ⟨rb, 1, none⟩ _).mono (S' := wfoot rb A) fun k _ e => Or.inl e) fun _ _ e => e
theorem WxStep.next {B rb : Nat} {A A1 : Option Addr} {w w1 w' : World} {R' : Wr} (ho : Only (wfoot rb A) w w1) (hg : ∀ k, some k = blk A1 → some k = blk A ∨ w.heap.size ≤ k) (h : WStep B rb A1 w1 R' w') : WStep B rb A w R' w' := by
  obtain ⟨A', ac', k1, k2, k3⟩ := h
  refine ⟨A', ac', k1, ho.trans k2 fun k hk e => ?_, fun k e => ?_⟩
  · rcases e with e | e
    · exact Or.inl e
    · rcases hg k e with e2 | e2
      · exact Or.inr e2
      · omega
  · rcases k3 k e with e | e
    · exact hg k e
    · exact Or.inr (Nat.le_trans ho.size e)
/-- A timer is set: the error's number. -/
def setR (R : Wr) (k : Ky) (af : Int) : Int × Wr := if af < 1 ∨ 1000 < af then (1, R) else if atL k R.l 0 < 0 ∧ 256 ≤ R.l.length then (6, R) else (0, { R with l := (stopR R k).2.l ++ [(k, R.now + af)] })
theorem stop_len (R : Wr) (k : Ky) : (stopR R k).2.l.length ≤ R.l.length ∧ (stopR R k).2.now = R.now ∧ (0 ≤ atL k R.l 0 → (stopR R k).2.l.length < R.l.length) := by
  unfold stopR
  rcases atL_spec k R.l 0 with h | ⟨i, h, hi⟩
  · rw [h]
    exact ⟨Nat.le_refl _, rfl, fun e => absurd e (by decide)⟩
  · rw [h, Nat.zero_add, if_neg (by omega), Int.toNat_natCast]
    refine ⟨?_, rfl, fun _ => ?_⟩
    · show (R.l.take i ++ R.l.drop (i + 1)).length ≤ _
      rw [List.length_append, List.length_take, List.length_drop]; omega
    · show (R.l.take i ++ R.l.drop (i + 1)).length < _
      rw [List.length_append, List.length_take, List.length_drop]; omega
set_option maxHeartbeats 2000000 in
theorem RSet_any {B rb ac : Nat} {R : Wr} {A : Option Addr} {w : World} (h : WrAt B w rb R A ac) (k : Ky) (af : Int) (hB : B ≤ w.heap.size) (hnow : 0 ≤ R.now ∧ R.now ≤ 1099511627776) :
    Calls Try.prog 11 #[.pointer (some ⟨rb, 0, none⟩), k.val, .int .i64 af] w fun e w' => e = .returned (.int .i64 (setR R k af).1) ∧ WStep B rb A w (setR R k af).2 w' := by
  obtain ⟨wa, hwa⟩ : ∃ W, W = w.alloc (.cells #[.int .i64 k.kind, .int .i64 k.cell, .int .i64 k.node, .int .i64 k.tn, .int .i64 k.te, .int .i64 k.ts] 41) := ⟨_, rfl⟩
  have hba : Below w.heap.size w wa := by rw [hwa]; exact below_alloc _ _
  have hca : Cells wa w.heap.size 41 k.vals := by rw [hwa]; exact cells_new _ _ _ _ rfl
  have HRA := Lib.hid (h.later hba)
  have HB := Lib.hid hba
  have HH := Lib.hid h
  have HCA := Lib.hid hca
  have HBW0 := Lib.hid hB
  unfold setR
  by_cases haf : af < 1 ∨ 1000 < af
  · rw [if_pos haf]
    unfold Ky.val
    clear h hB hba hca
    by_cases h1 : af < 1
    · have e1 : decide (af < 1) = true := by simpa using h1
      go_enter Try.func11, Try.ntmps11
      go_wp2_with fail
      go_returns
      exact ⟨rfl, by rw [← hwa]; exact WxStep.same HH.out HB.out⟩
    · have e1 : decide (af < 1) = false := by simpa using h1
      have e2 : decide (af > 1000) = true := by simp; omega
      go_enter Try.func11, Try.ntmps11
      go_wp2_with fail
      go_returns
      exact ⟨rfl, by rw [← hwa]; exact WxStep.same HH.out HB.out⟩
  · rw [if_neg haf]
    have e1 : decide (af < 1) = false := by simp; omega
    have e2 : decide (af > 1000) = false := by simp; omega
    have z0 := hca.cell (j := 0) rfl
    have z1 := hca.cell (j := 1) rfl
    have z2 := hca.cell (j := 2) rfl
    have z3 := hca.cell (j := 3) rfl
    have z4 := hca.cell (j := 4) rfl
    have z5 := hca.cell (j := 5) rfl
    have HAT := RAt_any (h.later hba) k
    have HSL := Lib.hid (stop_len R k)
    obtain ⟨ix, hix⟩ : ∃ X, atL k R.l 0 = X := ⟨_, rfl⟩
    rw [hix] at HAT ⊢
    have HIX := Lib.hid hix
    obtain ⟨n, hn⟩ : ∃ n, R.l.length = n := ⟨_, rfl⟩
    have HN := Lib.hid hn
    rw [hn]
    have HNOW0 := Lib.hid hnow
    have HST := Lib.hid (fun (wi : World) (hb : Below wa.heap.size wa wi) => RStop_any ((h.later hba).later hb) k (Nat.le_trans hB (Nat.le_trans hba.size hb.size)))
    have HAF : Hid (1 ≤ af ∧ af ≤ 1000) := Lib.hid (by omega)
    have hnl : n ≤ 256 := by rw [← hn]; exact h.len
    unfold Ky.val at HAT HST ⊢
    have HC := Lib.hid HAT
    clear h hB hba hca HAT hix hn hnow haf
    by_cases hfull : ix < 0 ∧ 256 ≤ n
    · rw [if_pos hfull]
      have e3 : decide (ix < 0) = true := by simpa using hfull.1
      have e4 : decide ((n : Int) ≥ 256) = true := by simp; omega
      go_enter Try.func11, Try.ntmps11
      go_upto_region 3 with (fail)
      rw [← hwa]
      clear hwa
      go_wp2_with fail
      refine HC.out.mono ?_
      rintro e we ⟨rfl, hbe⟩
      have c1 := (HRA.out.later hbe).cel.cell (j := 1) rfl
      rw [HN.out] at c1
      have HBE := Lib.hid hbe
      clear hbe
      go_wp2_with fail
      go_returns
      exact ⟨rfl, WxStep.before HB.out (WxStep.same HRA.out HBE.out)⟩
    · rw [if_neg hfull]
      obtain ⟨R1, hR1⟩ : ∃ X, (stopR R k).2 = X := ⟨_, rfl⟩
      obtain ⟨st, hst0⟩ : ∃ X, (stopR R k).1 = X := ⟨_, rfl⟩
      obtain ⟨due, hdue⟩ : ∃ X, R.now + af = X := ⟨_, rfl⟩
      obtain ⟨now, hnw⟩ : ∃ X, R1.now = X := ⟨_, rfl⟩
      have hsl := HSL.out
      rw [hR1, HN.out, HIX.out] at hsl
      rw [hR1, hst0] at HST
      rw [hR1, hdue]
      have HFL : Hid (R1.l.length < 256) := Lib.hid (by
        by_cases e : ix < 0
        · have := hsl.1; omega
        · have := hsl.2.2 (by omega); omega)
      have HNOW := Lib.hid hnw
      have HDUE : Hid (IntKind.i64.wrap (now + af) = due) := Lib.hid (by rw [← hnw, hsl.2.1, hdue]; exact IntWalk.i64_in _ (by have h1 := HNOW0.out; have h2 := HAF.out; omega))
      have HEQW : Hid (({ R1 with l := R1.l ++ [(k, due)] } : Wr) = { R with l := R1.l ++ [(k, due)] }) := Lib.hid (by rw [hsl.2.1])
      have HFT : Hid (∀ j, wfoot rb A j → j ≠ w.heap.size) := Lib.hid (fun j e e2 => by
        rcases e with e | e
        · have := HH.out.cel.lt; omega
        · have := (HH.out.row.lt j (by rw [own_blk]; exact e.symm)).2; omega)
      clear hR1 hst0 hdue hnw hsl HSL
      by_cases hix0 : ix < 0
      · have e3 : decide (ix < 0) = true := by simpa using hix0
        have e4 : decide ((n : Int) ≥ 256) = false := by simp; omega
        go_enter Try.func11, Try.ntmps11
        go_upto_region 3 with (fail)
        rw [← hwa]
        clear hwa
        go_wp2_with fail
        refine HC.out.mono ?_
        rintro e wc ⟨rfl, hbc⟩
        have c1 := (HRA.out.later hbc).cel.cell (j := 1) rfl
        rw [HN.out] at c1
        have hcc := HCA.out.later hbc
        have y0 := hcc.cell (j := 0) rfl
        have y1 := hcc.cell (j := 1) rfl
        have y2 := hcc.cell (j := 2) rfl
        have y3 := hcc.cell (j := 3) rfl
        have y4 := hcc.cell (j := 4) rfl
        have y5 := hcc.cell (j := 5) rfl
        have HCC := Lib.hid hcc
        have HBC := Lib.hid (HB.out.trans (hbc.mono HB.out.size))
        have HS1 := Lib.hid (HST.out wc hbc)
        clear hbc hcc HST HC
        go_wp2_with fail
        refine HS1.out.mono ?_
        rintro e we ⟨rfl, hst⟩
        obtain ⟨A1, ac1, hr1, ho1, hg1⟩ := hst
        have HKB : Hid (∀ wi, Below we.heap.size we wi → Cells wi w.heap.size 41 k.vals) := Lib.hid fun wi hb => (cells_only HCC.out ho1 fun e => HFT.out _ e rfl).later hb
        have HR := Lib.hid hr1
        have HO1 := Lib.hid ho1
        have HG1 := Lib.hid hg1
        have HBW := Lib.hid (Nat.le_trans (Nat.le_trans HBW0.out HBC.out.size) ho1.size)
        obtain ⟨n1, hn1⟩ : ∃ X, R1.l.length = X := ⟨_, rfl⟩
        have HN1 := Lib.hid hn1
        obtain ⟨kb, hkb⟩ : ∃ X, w.heap.size = X := ⟨_, rfl⟩
        rw [hkb] at HKB
        have HKS := Lib.hid hkb
        clear hr1 ho1 hg1 hn1 y0 y1 y2 y3 y4 y5 z0 z1 z2 z3 z4 z5 c1 HS1
        go_upto_region 6 with (fail)
        refine Reg.region_inv (by kernel_rfl) (fun i => ([some (.pointer (some ⟨rb, 0, none⟩)), some (.pointer (some ⟨rb, 0, none⟩)), some (.pointer (some ⟨rb, 0, none⟩)), some (.pointer (some ⟨rb, 1, none⟩)), some (.slice A1 n1 ac1), some (.agg #[.int .i64 k.kind, .int .i64 k.cell, .int .i64 k.node, .int .i64 k.tn, .int .i64 k.te, .int .i64 k.ts]), some (.pointer (some ⟨rb, 0, none⟩)), some (.pointer (some ⟨rb, 0, none⟩)), some (.pointer (some ⟨rb, 0, none⟩)), some (.int .i64 now), some (.int .i64 af), some (.int .i64 due), some (.agg #[.int .i64 k.kind, .int .i64 k.cell, .int .i64 k.node, .int .i64 k.tn, .int .i64 k.te, .int .i64 k.ts, .int .i64 due]), none, none, some (.pointer (some ⟨rb, 0, none⟩)), some (.pointer (some ⟨rb, 1, none⟩)), none] : List (Option Value)).getD i none) (fun D V W => (D 14 = false → Below we.heap.size we W ∧ (D 13 = true → ∃ g, V 13 = Value.slice (some ⟨g, 0, none⟩) 1 1 ∧ Cells W g 53 (Tm.vals (k, due)))) ∧ (D 14 = true → D 17 = false → Pend B we rb R1 A1 ac1 (k, due) (V 14) W) ∧ (D 17 = true → WStep B rb A1 we { R1 with l := R1.l ++ [(k, due)] } W)) (fun V => [(some 28, V 0), (some 29, V 1), (some 30, V 2), (some 31, V 3), (some 32, V 4), (some 33, V 5), (some 34, V 6), (some 35, V 7), (some 36, V 8), (some 37, V 9), (some 38, V 10), (some 39, V 11), (some 40, V 12), (some 41, V 13), (some 42, V 14), (some 43, V 15), (some 44, V 16), (none, V 17)]) (by kernel_rfl) (by kernel_rfl) (fun V => rfl) ?_ ?_ ?_
        · intro V
          exact ⟨fun _ => ⟨(Below.refl _ _).drew, fun e => by cases e⟩, fun e => (by cases e), fun e => (by cases e)⟩
        · intro i o ho
          have hi : i < 18 := (Array.getElem?_eq_some_iff.1 ho).1
          rcases i with _ | _ | _ | _ | _ | _ | _ | _ | _ | _ | _ | _ | _ | _ | _ | _ | _ | _ | i
          rotate_right
          · omega
          all_goals obtain rfl := Option.some.inj ho
          all_goals intro D V ρ wi hE hI hDi hT hF hs hd hk
          · have e0 : ρ (.tmp 0) = .pointer (some ⟨rb, 0, none⟩) := hs 0; clear hT hF hk
            exact Reg.Gives.value (v := .pointer (some ⟨rb, 0, none⟩)) (w' := wi) (by go_simp) ⟨fun x h => Option.some.inj h, hI⟩
          · have e0 : ρ (.tmp 0) = .pointer (some ⟨rb, 0, none⟩) := hs 0; clear hT hF hk
            exact Reg.Gives.value (v := .pointer (some ⟨rb, 0, none⟩)) (w' := wi) (by go_simp) ⟨fun x h => Option.some.inj h, hI⟩
          · have e29 : ρ (.tmp 29) = .pointer (some ⟨rb, 0, none⟩) := (hd 1 29).trans (hk 1 _ rfl); clear hT hF hk
            exact Reg.Gives.value (v := .pointer (some ⟨rb, 0, none⟩)) (w' := wi) (by go_simp) ⟨fun x h => Option.some.inj h, hI⟩
          · have e30 : ρ (.tmp 30) = .pointer (some ⟨rb, 0, none⟩) := (hd 2 30).trans (hk 2 _ rfl); clear hT hF hk
            exact Reg.Gives.value (v := .pointer (some ⟨rb, 1, none⟩)) (w' := wi) (by go_simp) ⟨fun x h => Option.some.inj h, hI⟩
          · have e31 : ρ (.tmp 31) = .pointer (some ⟨rb, 1, none⟩) := (hd 3 31).trans (hk 3 _ rfl); have hD14 : D 14 = false := hF 1 14; clear hT hF; have hL : Below we.heap.size we wi := (hI.1 hD14).1; have x0 := (HR.out.later hL).cel.cell (j := 1) rfl
            rw [HN1.out] at x0
            exact Reg.Gives.value (v := .slice A1 n1 ac1) (w' := wi) (by go_simp) ⟨fun x h => Option.some.inj h, hI⟩
          · have e4 : ρ (.tmp 4) = .pointer (some ⟨kb, 0, none⟩) := hs 4; have hD14 : D 14 = false := hF 3 14; clear hT hF; have hL : Below we.heap.size we wi := (hI.1 hD14).1; have hq := HKB.out wi hL; have q0 := hq.cell (j := 0) rfl; have q1 := hq.cell (j := 1) rfl; have q2 := hq.cell (j := 2) rfl; have q3 := hq.cell (j := 3) rfl; have q4 := hq.cell (j := 4) rfl; have q5 := hq.cell (j := 5) rfl
            exact Reg.Gives.value (v := .agg #[.int .i64 k.kind, .int .i64 k.cell, .int .i64 k.node, .int .i64 k.tn, .int .i64 k.te, .int .i64 k.ts]) (w' := wi) (by go_simp) ⟨fun x h => Option.some.inj h, hI⟩
          · have e0 : ρ (.tmp 0) = .pointer (some ⟨rb, 0, none⟩) := hs 0; clear hT hF hk
            exact Reg.Gives.value (v := .pointer (some ⟨rb, 0, none⟩)) (w' := wi) (by go_simp) ⟨fun x h => Option.some.inj h, hI⟩
          · have e34 : ρ (.tmp 34) = .pointer (some ⟨rb, 0, none⟩) := (hd 6 34).trans (hk 6 _ rfl); clear hT hF hk
            exact Reg.Gives.value (v := .pointer (some ⟨rb, 0, none⟩)) (w' := wi) (by go_simp) ⟨fun x h => Option.some.inj h, hI⟩
          · have e35 : ρ (.tmp 35) = .pointer (some ⟨rb, 0, none⟩) := (hd 7 35).trans (hk 7 _ rfl); clear hT hF hk
            exact Reg.Gives.value (v := .pointer (some ⟨rb, 0, none⟩)) (w' := wi) (by go_simp) ⟨fun x h => Option.some.inj h, hI⟩
          · have e36 : ρ (.tmp 36) = .pointer (some ⟨rb, 0, none⟩) := (hd 8 36).trans (hk 8 _ rfl); have hD14 : D 14 = false := hF 4 14; clear hT hF; have hL : Below we.heap.size we wi := (hI.1 hD14).1; have x0 := (HR.out.later hL).cel.cell (j := 0) rfl
            rw [HNOW.out] at x0
            exact Reg.Gives.value (v := .int .i64 now) (w' := wi) (by go_simp) ⟨fun x h => Option.some.inj h, hI⟩
          · have e2 : ρ (.tmp 2) = .int .i64 af := hs 2; clear hT hF hk
            exact Reg.Gives.value (v := .int .i64 af) (w' := wi) (by go_simp) ⟨fun x h => Option.some.inj h, hI⟩
          · have e37 : ρ (.tmp 37) = .int .i64 now := (hd 9 37).trans (hk 9 _ rfl); have e38 : ρ (.tmp 38) = .int .i64 af := (hd 10 38).trans (hk 10 _ rfl); clear hT hF; have z0 := HDUE.out
            exact Reg.Gives.value (v := .int .i64 due) (w' := wi) (by go_simp) ⟨fun x h => Option.some.inj h, hI⟩
          · have e33 : ρ (.tmp 33) = .agg #[.int .i64 k.kind, .int .i64 k.cell, .int .i64 k.node, .int .i64 k.tn, .int .i64 k.te, .int .i64 k.ts] := (hd 5 33).trans (hk 5 _ rfl); have e39 : ρ (.tmp 39) = .int .i64 due := (hd 11 39).trans (hk 11 _ rfl); clear hT hF hk
            exact Reg.Gives.value (v := .agg #[.int .i64 k.kind, .int .i64 k.cell, .int .i64 k.node, .int .i64 k.tn, .int .i64 k.te, .int .i64 k.ts, .int .i64 due]) (w' := wi) (by go_simp) ⟨fun x h => Option.some.inj h, hI⟩
          · have e40 : ρ (.tmp 40) = .agg #[.int .i64 k.kind, .int .i64 k.cell, .int .i64 k.node, .int .i64 k.tn, .int .i64 k.te, .int .i64 k.ts, .int .i64 due] := (hd 12 40).trans (hk 12 _ rfl); have hD14 : D 14 = false := hF 1 14; have hD17 : D 17 = false := hF 1 17; clear hT hF; have h1 := hI.1 hD14
            have hal := below_alloc wi (.cells #[.int .i64 k.kind, .int .i64 k.cell, .int .i64 k.node, .int .i64 k.tn, .int .i64 k.te, .int .i64 k.ts, .int .i64 due] 53)
            exact Reg.Gives.value (v := .slice (some ⟨wi.heap.size, 0, none⟩) 1 1) (w' := wi.alloc (.cells #[.int .i64 k.kind, .int .i64 k.cell, .int .i64 k.node, .int .i64 k.tn, .int .i64 k.te, .int .i64 k.ts, .int .i64 due] 53)) (by go_simp) ⟨fun x h => (by cases h), by show (D 14 = false → Below we.heap.size we (wi.alloc (.cells #[.int .i64 k.kind, .int .i64 k.cell, .int .i64 k.node, .int .i64 k.tn, .int .i64 k.te, .int .i64 k.ts, .int .i64 due] 53)) ∧ (true = true → ∃ g, (Value.slice (some ⟨wi.heap.size, 0, none⟩) 1 1) = Value.slice (some ⟨g, 0, none⟩) 1 1 ∧ Cells (wi.alloc (.cells #[.int .i64 k.kind, .int .i64 k.cell, .int .i64 k.node, .int .i64 k.tn, .int .i64 k.te, .int .i64 k.ts, .int .i64 due] 53)) g 53 (Tm.vals (k, due)))) ∧ (D 14 = true → D 17 = false → Pend B we rb R1 A1 ac1 (k, due) (V 14) (wi.alloc (.cells #[.int .i64 k.kind, .int .i64 k.cell, .int .i64 k.node, .int .i64 k.tn, .int .i64 k.te, .int .i64 k.ts, .int .i64 due] 53))) ∧ (D 17 = true → WStep B rb A1 we { R1 with l := R1.l ++ [(k, due)] } (wi.alloc (.cells #[.int .i64 k.kind, .int .i64 k.cell, .int .i64 k.node, .int .i64 k.tn, .int .i64 k.te, .int .i64 k.ts, .int .i64 due] 53))); exact ⟨fun _ => ⟨h1.1.trans (hal.mono h1.1.size), fun _ => ⟨_, rfl, cells_new _ _ _ _ rfl⟩⟩, fun e => (by rw [hD14] at e; cases e), fun e => (by rw [hD17] at e; cases e)⟩⟩
          · have e32 : ρ (.tmp 32) = .slice A1 n1 ac1 := (hd 4 32).trans (hk 4 _ rfl); have e41 : ρ (.tmp 41) = V 13 := hd 13 41; have hD13 : D 13 = true := hT 1 13; have hD14 : D 14 = false := hDi; have hD17 : D 17 = false := hF 1 17; clear hT hF; have h1 := hI.1 hD14; obtain ⟨g2, hv2, hcs⟩ := h1.2 hD13
            rw [hv2] at e41
            obtain ⟨v2, w2, hrun, hpd⟩ := HR.out.grow HBW.out h1.1 hcs HFL.out
            rw [HN1.out] at hrun
            exact Reg.Gives.value (v := v2) (w' := w2) (Reg.exec_append rfl e32 e41 hrun) ⟨fun x h => (by cases h), by show (true = false → Below we.heap.size we w2 ∧ (D 13 = true → ∃ g, V 13 = Value.slice (some ⟨g, 0, none⟩) 1 1 ∧ Cells w2 g 53 (Tm.vals (k, due)))) ∧ (true = true → D 17 = false → Pend B we rb R1 A1 ac1 (k, due) (v2) w2) ∧ (D 17 = true → WStep B rb A1 we { R1 with l := R1.l ++ [(k, due)] } w2); exact ⟨fun e => (by cases e), fun _ _ => hpd, fun e => (by rw [hD17] at e; cases e)⟩⟩
          · have e28 : ρ (.tmp 28) = .pointer (some ⟨rb, 0, none⟩) := (hd 0 28).trans (hk 0 _ rfl); clear hT hF hk
            exact Reg.Gives.value (v := .pointer (some ⟨rb, 0, none⟩)) (w' := wi) (by go_simp) ⟨fun x h => Option.some.inj h, hI⟩
          · have e43 : ρ (.tmp 43) = .pointer (some ⟨rb, 0, none⟩) := (hd 15 43).trans (hk 15 _ rfl); clear hT hF hk
            exact Reg.Gives.value (v := .pointer (some ⟨rb, 1, none⟩)) (w' := wi) (by go_simp) ⟨fun x h => Option.some.inj h, hI⟩
          · have e44 : ρ (.tmp 44) = .pointer (some ⟨rb, 1, none⟩) := (hd 16 44).trans (hk 16 _ rfl); have e42 : ρ (.tmp 42) = V 14 := hd 14 42; have hD14 : D 14 = true := hT 1 14; have hD17 : D 17 = false := hDi; clear hT hF; have h2 := hI.2.1 hD14 hD17; obtain ⟨⟨u9, x1⟩, x2, hfin⟩ := h2.put HR.out HFL.out; obtain ⟨A2, c2, hv2, _⟩ := h2
            obtain ⟨n3, hn3⟩ : ∃ n3, (R1.l ++ [(k, due)]).length = n3 := ⟨_, rfl⟩
            rw [hn3] at hv2
            rw [hv2] at hfin
            have e9 := e42
            rw [hv2] at e9
            clear e42
            exact Reg.Gives.skip (w' := wi.setCell ⟨rb, 1, none⟩ (.slice A2 n3 c2)) (by go_simp) ⟨fun x h => (by cases h), by show (D 14 = false → Below we.heap.size we (wi.setCell ⟨rb, 1, none⟩ (.slice A2 n3 c2)) ∧ (D 13 = true → ∃ g, V 13 = Value.slice (some ⟨g, 0, none⟩) 1 1 ∧ Cells (wi.setCell ⟨rb, 1, none⟩ (.slice A2 n3 c2)) g 53 (Tm.vals (k, due)))) ∧ (D 14 = true → true = false → Pend B we rb R1 A1 ac1 (k, due) (V 14) (wi.setCell ⟨rb, 1, none⟩ (.slice A2 n3 c2))) ∧ (true = true → WStep B rb A1 we { R1 with l := R1.l ++ [(k, due)] } (wi.setCell ⟨rb, 1, none⟩ (.slice A2 n3 c2))); exact ⟨fun e => (by rw [hD14] at e; cases e), fun _ e => (by cases e), fun _ => hfin⟩⟩
        · intro V wf hk hI
          simp only [Reg.putsO, List.foldl_cons, List.foldl_nil, Act.put, List.setIfInBounds_toArray, List.set_cons_succ, List.set_cons_zero]
          replace hI : ((fun _ => true) 14 = false → Below we.heap.size we wf ∧ ((fun _ => true) 13 = true → ∃ g, V 13 = Value.slice (some ⟨g, 0, none⟩) 1 1 ∧ Cells wf g 53 (Tm.vals (k, due)))) ∧ ((fun _ => true) 14 = true → (fun _ => true) 17 = false → Pend B we rb R1 A1 ac1 (k, due) (V 14) wf) ∧ ((fun _ => true) 17 = true → WStep B rb A1 we { R1 with l := R1.l ++ [(k, due)] } wf) := hI
          clear hk
          have HS := Lib.hid (hI.2.2 rfl)
          clear hI
          go_wp2_with fail
          go_returns
          exact ⟨rfl, by rw [← HEQW.out]; exact WxStep.before HBC.out (WxStep.next HO1.out HG1.out HS.out)⟩
      · have e3 : decide (ix < 0) = false := by simpa using hix0
        go_enter Try.func11, Try.ntmps11
        go_upto_region 3 with (fail)
        rw [← hwa]
        clear hwa
        go_wp2_with fail
        refine HC.out.mono ?_
        rintro e wc ⟨rfl, hbc⟩
        have c1 := (HRA.out.later hbc).cel.cell (j := 1) rfl
        rw [HN.out] at c1
        have hcc := HCA.out.later hbc
        have y0 := hcc.cell (j := 0) rfl
        have y1 := hcc.cell (j := 1) rfl
        have y2 := hcc.cell (j := 2) rfl
        have y3 := hcc.cell (j := 3) rfl
        have y4 := hcc.cell (j := 4) rfl
        have y5 := hcc.cell (j := 5) rfl
        have HCC := Lib.hid hcc
        have HBC := Lib.hid (HB.out.trans (hbc.mono HB.out.size))
        have HS1 := Lib.hid (HST.out wc hbc)
        clear hbc hcc HST HC
        go_wp2_with fail
        refine HS1.out.mono ?_
        rintro e we ⟨rfl, hst⟩
        obtain ⟨A1, ac1, hr1, ho1, hg1⟩ := hst
        have HKB : Hid (∀ wi, Below we.heap.size we wi → Cells wi w.heap.size 41 k.vals) := Lib.hid fun wi hb => (cells_only HCC.out ho1 fun e => HFT.out _ e rfl).later hb
        have HR := Lib.hid hr1
        have HO1 := Lib.hid ho1
        have HG1 := Lib.hid hg1
        have HBW := Lib.hid (Nat.le_trans (Nat.le_trans HBW0.out HBC.out.size) ho1.size)
        obtain ⟨n1, hn1⟩ : ∃ X, R1.l.length = X := ⟨_, rfl⟩
        have HN1 := Lib.hid hn1
        obtain ⟨kb, hkb⟩ : ∃ X, w.heap.size = X := ⟨_, rfl⟩
        rw [hkb] at HKB
        have HKS := Lib.hid hkb
        clear hr1 ho1 hg1 hn1 y0 y1 y2 y3 y4 y5 z0 z1 z2 z3 z4 z5 c1 HS1
        go_upto_region 6 with (fail)
        refine Reg.region_inv (by kernel_rfl) (fun i => ([some (.pointer (some ⟨rb, 0, none⟩)), some (.pointer (some ⟨rb, 0, none⟩)), some (.pointer (some ⟨rb, 0, none⟩)), some (.pointer (some ⟨rb, 1, none⟩)), some (.slice A1 n1 ac1), some (.agg #[.int .i64 k.kind, .int .i64 k.cell, .int .i64 k.node, .int .i64 k.tn, .int .i64 k.te, .int .i64 k.ts]), some (.pointer (some ⟨rb, 0, none⟩)), some (.pointer (some ⟨rb, 0, none⟩)), some (.pointer (some ⟨rb, 0, none⟩)), some (.int .i64 now), some (.int .i64 af), some (.int .i64 due), some (.agg #[.int .i64 k.kind, .int .i64 k.cell, .int .i64 k.node, .int .i64 k.tn, .int .i64 k.te, .int .i64 k.ts, .int .i64 due]), none, none, some (.pointer (some ⟨rb, 0, none⟩)), some (.pointer (some ⟨rb, 1, none⟩)), none] : List (Option Value)).getD i none) (fun D V W => (D 14 = false → Below we.heap.size we W ∧ (D 13 = true → ∃ g, V 13 = Value.slice (some ⟨g, 0, none⟩) 1 1 ∧ Cells W g 53 (Tm.vals (k, due)))) ∧ (D 14 = true → D 17 = false → Pend B we rb R1 A1 ac1 (k, due) (V 14) W) ∧ (D 17 = true → WStep B rb A1 we { R1 with l := R1.l ++ [(k, due)] } W)) (fun V => [(some 28, V 0), (some 29, V 1), (some 30, V 2), (some 31, V 3), (some 32, V 4), (some 33, V 5), (some 34, V 6), (some 35, V 7), (some 36, V 8), (some 37, V 9), (some 38, V 10), (some 39, V 11), (some 40, V 12), (some 41, V 13), (some 42, V 14), (some 43, V 15), (some 44, V 16), (none, V 17)]) (by kernel_rfl) (by kernel_rfl) (fun V => rfl) ?_ ?_ ?_
        · intro V
          exact ⟨fun _ => ⟨(Below.refl _ _).drew, fun e => by cases e⟩, fun e => (by cases e), fun e => (by cases e)⟩
        · intro i o ho
          have hi : i < 18 := (Array.getElem?_eq_some_iff.1 ho).1
          rcases i with _ | _ | _ | _ | _ | _ | _ | _ | _ | _ | _ | _ | _ | _ | _ | _ | _ | _ | i
          rotate_right
          · omega
          all_goals obtain rfl := Option.some.inj ho
          all_goals intro D V ρ wi hE hI hDi hT hF hs hd hk
          · have e0 : ρ (.tmp 0) = .pointer (some ⟨rb, 0, none⟩) := hs 0; clear hT hF hk
            exact Reg.Gives.value (v := .pointer (some ⟨rb, 0, none⟩)) (w' := wi) (by go_simp) ⟨fun x h => Option.some.inj h, hI⟩
          · have e0 : ρ (.tmp 0) = .pointer (some ⟨rb, 0, none⟩) := hs 0; clear hT hF hk
            exact Reg.Gives.value (v := .pointer (some ⟨rb, 0, none⟩)) (w' := wi) (by go_simp) ⟨fun x h => Option.some.inj h, hI⟩
          · have e29 : ρ (.tmp 29) = .pointer (some ⟨rb, 0, none⟩) := (hd 1 29).trans (hk 1 _ rfl); clear hT hF hk
            exact Reg.Gives.value (v := .pointer (some ⟨rb, 0, none⟩)) (w' := wi) (by go_simp) ⟨fun x h => Option.some.inj h, hI⟩
          · have e30 : ρ (.tmp 30) = .pointer (some ⟨rb, 0, none⟩) := (hd 2 30).trans (hk 2 _ rfl); clear hT hF hk
            exact Reg.Gives.value (v := .pointer (some ⟨rb, 1, none⟩)) (w' := wi) (by go_simp) ⟨fun x h => Option.some.inj h, hI⟩
          · have e31 : ρ (.tmp 31) = .pointer (some ⟨rb, 1, none⟩) := (hd 3 31).trans (hk 3 _ rfl); have hD14 : D 14 = false := hF 1 14; clear hT hF; have hL : Below we.heap.size we wi := (hI.1 hD14).1; have x0 := (HR.out.later hL).cel.cell (j := 1) rfl
            rw [HN1.out] at x0
            exact Reg.Gives.value (v := .slice A1 n1 ac1) (w' := wi) (by go_simp) ⟨fun x h => Option.some.inj h, hI⟩
          · have e4 : ρ (.tmp 4) = .pointer (some ⟨kb, 0, none⟩) := hs 4; have hD14 : D 14 = false := hF 3 14; clear hT hF; have hL : Below we.heap.size we wi := (hI.1 hD14).1; have hq := HKB.out wi hL; have q0 := hq.cell (j := 0) rfl; have q1 := hq.cell (j := 1) rfl; have q2 := hq.cell (j := 2) rfl; have q3 := hq.cell (j := 3) rfl; have q4 := hq.cell (j := 4) rfl; have q5 := hq.cell (j := 5) rfl
            exact Reg.Gives.value (v := .agg #[.int .i64 k.kind, .int .i64 k.cell, .int .i64 k.node, .int .i64 k.tn, .int .i64 k.te, .int .i64 k.ts]) (w' := wi) (by go_simp) ⟨fun x h => Option.some.inj h, hI⟩
          · have e0 : ρ (.tmp 0) = .pointer (some ⟨rb, 0, none⟩) := hs 0; clear hT hF hk
            exact Reg.Gives.value (v := .pointer (some ⟨rb, 0, none⟩)) (w' := wi) (by go_simp) ⟨fun x h => Option.some.inj h, hI⟩
          · have e34 : ρ (.tmp 34) = .pointer (some ⟨rb, 0, none⟩) := (hd 6 34).trans (hk 6 _ rfl); clear hT hF hk
            exact Reg.Gives.value (v := .pointer (some ⟨rb, 0, none⟩)) (w' := wi) (by go_simp) ⟨fun x h => Option.some.inj h, hI⟩
          · have e35 : ρ (.tmp 35) = .pointer (some ⟨rb, 0, none⟩) := (hd 7 35).trans (hk 7 _ rfl); clear hT hF hk
            exact Reg.Gives.value (v := .pointer (some ⟨rb, 0, none⟩)) (w' := wi) (by go_simp) ⟨fun x h => Option.some.inj h, hI⟩
          · have e36 : ρ (.tmp 36) = .pointer (some ⟨rb, 0, none⟩) := (hd 8 36).trans (hk 8 _ rfl); have hD14 : D 14 = false := hF 4 14; clear hT hF; have hL : Below we.heap.size we wi := (hI.1 hD14).1; have x0 := (HR.out.later hL).cel.cell (j := 0) rfl
            rw [HNOW.out] at x0
            exact Reg.Gives.value (v := .int .i64 now) (w' := wi) (by go_simp) ⟨fun x h => Option.some.inj h, hI⟩
          · have e2 : ρ (.tmp 2) = .int .i64 af := hs 2; clear hT hF hk
            exact Reg.Gives.value (v := .int .i64 af) (w' := wi) (by go_simp) ⟨fun x h => Option.some.inj h, hI⟩
          · have e37 : ρ (.tmp 37) = .int .i64 now := (hd 9 37).trans (hk 9 _ rfl); have e38 : ρ (.tmp 38) = .int .i64 af := (hd 10 38).trans (hk 10 _ rfl); clear hT hF; have z0 := HDUE.out
            exact Reg.Gives.value (v := .int .i64 due) (w' := wi) (by go_simp) ⟨fun x h => Option.some.inj h, hI⟩
          · have e33 : ρ (.tmp 33) = .agg #[.int .i64 k.kind, .int .i64 k.cell, .int .i64 k.node, .int .i64 k.tn, .int .i64 k.te, .int .i64 k.ts] := (hd 5 33).trans (hk 5 _ rfl); have e39 : ρ (.tmp 39) = .int .i64 due := (hd 11 39).trans (hk 11 _ rfl); clear hT hF hk
            exact Reg.Gives.value (v := .agg #[.int .i64 k.kind, .int .i64 k.cell, .int .i64 k.node, .int .i64 k.tn, .int .i64 k.te, .int .i64 k.ts, .int .i64 due]) (w' := wi) (by go_simp) ⟨fun x h => Option.some.inj h, hI⟩
          · have e40 : ρ (.tmp 40) = .agg #[.int .i64 k.kind, .int .i64 k.cell, .int .i64 k.node, .int .i64 k.tn, .int .i64 k.te, .int .i64 k.ts, .int .i64 due] := (hd 12 40).trans (hk 12 _ rfl); have hD14 : D 14 = false := hF 1 14; have hD17 : D 17 = false := hF 1 17; clear hT hF; have h1 := hI.1 hD14
            have hal := below_alloc wi (.cells #[.int .i64 k.kind, .int .i64 k.cell, .int .i64 k.node, .int .i64 k.tn, .int .i64 k.te, .int .i64 k.ts, .int .i64 due] 53)
            exact Reg.Gives.value (v := .slice (some ⟨wi.heap.size, 0, none⟩) 1 1) (w' := wi.alloc (.cells #[.int .i64 k.kind, .int .i64 k.cell, .int .i64 k.node, .int .i64 k.tn, .int .i64 k.te, .int .i64 k.ts, .int .i64 due] 53)) (by go_simp) ⟨fun x h => (by cases h), by show (D 14 = false → Below we.heap.size we (wi.alloc (.cells #[.int .i64 k.kind, .int .i64 k.cell, .int .i64 k.node, .int .i64 k.tn, .int .i64 k.te, .int .i64 k.ts, .int .i64 due] 53)) ∧ (true = true → ∃ g, (Value.slice (some ⟨wi.heap.size, 0, none⟩) 1 1) = Value.slice (some ⟨g, 0, none⟩) 1 1 ∧ Cells (wi.alloc (.cells #[.int .i64 k.kind, .int .i64 k.cell, .int .i64 k.node, .int .i64 k.tn, .int .i64 k.te, .int .i64 k.ts, .int .i64 due] 53)) g 53 (Tm.vals (k, due)))) ∧ (D 14 = true → D 17 = false → Pend B we rb R1 A1 ac1 (k, due) (V 14) (wi.alloc (.cells #[.int .i64 k.kind, .int .i64 k.cell, .int .i64 k.node, .int .i64 k.tn, .int .i64 k.te, .int .i64 k.ts, .int .i64 due] 53))) ∧ (D 17 = true → WStep B rb A1 we { R1 with l := R1.l ++ [(k, due)] } (wi.alloc (.cells #[.int .i64 k.kind, .int .i64 k.cell, .int .i64 k.node, .int .i64 k.tn, .int .i64 k.te, .int .i64 k.ts, .int .i64 due] 53))); exact ⟨fun _ => ⟨h1.1.trans (hal.mono h1.1.size), fun _ => ⟨_, rfl, cells_new _ _ _ _ rfl⟩⟩, fun e => (by rw [hD14] at e; cases e), fun e => (by rw [hD17] at e; cases e)⟩⟩
          · have e32 : ρ (.tmp 32) = .slice A1 n1 ac1 := (hd 4 32).trans (hk 4 _ rfl); have e41 : ρ (.tmp 41) = V 13 := hd 13 41; have hD13 : D 13 = true := hT 1 13; have hD14 : D 14 = false := hDi; have hD17 : D 17 = false := hF 1 17; clear hT hF; have h1 := hI.1 hD14; obtain ⟨g2, hv2, hcs⟩ := h1.2 hD13
            rw [hv2] at e41
            obtain ⟨v2, w2, hrun, hpd⟩ := HR.out.grow HBW.out h1.1 hcs HFL.out
            rw [HN1.out] at hrun
            exact Reg.Gives.value (v := v2) (w' := w2) (Reg.exec_append rfl e32 e41 hrun) ⟨fun x h => (by cases h), by show (true = false → Below we.heap.size we w2 ∧ (D 13 = true → ∃ g, V 13 = Value.slice (some ⟨g, 0, none⟩) 1 1 ∧ Cells w2 g 53 (Tm.vals (k, due)))) ∧ (true = true → D 17 = false → Pend B we rb R1 A1 ac1 (k, due) (v2) w2) ∧ (D 17 = true → WStep B rb A1 we { R1 with l := R1.l ++ [(k, due)] } w2); exact ⟨fun e => (by cases e), fun _ _ => hpd, fun e => (by rw [hD17] at e; cases e)⟩⟩
          · have e28 : ρ (.tmp 28) = .pointer (some ⟨rb, 0, none⟩) := (hd 0 28).trans (hk 0 _ rfl); clear hT hF hk
            exact Reg.Gives.value (v := .pointer (some ⟨rb, 0, none⟩)) (w' := wi) (by go_simp) ⟨fun x h => Option.some.inj h, hI⟩
          · have e43 : ρ (.tmp 43) = .pointer (some ⟨rb, 0, none⟩) := (hd 15 43).trans (hk 15 _ rfl); clear hT hF hk
            exact Reg.Gives.value (v := .pointer (some ⟨rb, 1, none⟩)) (w' := wi) (by go_simp) ⟨fun x h => Option.some.inj h, hI⟩
          · have e44 : ρ (.tmp 44) = .pointer (some ⟨rb, 1, none⟩) := (hd 16 44).trans (hk 16 _ rfl); have e42 : ρ (.tmp 42) = V 14 := hd 14 42; have hD14 : D 14 = true := hT 1 14; have hD17 : D 17 = false := hDi; clear hT hF; have h2 := hI.2.1 hD14 hD17; obtain ⟨⟨u9, x1⟩, x2, hfin⟩ := h2.put HR.out HFL.out; obtain ⟨A2, c2, hv2, _⟩ := h2
            obtain ⟨n3, hn3⟩ : ∃ n3, (R1.l ++ [(k, due)]).length = n3 := ⟨_, rfl⟩
            rw [hn3] at hv2
            rw [hv2] at hfin
            have e9 := e42
            rw [hv2] at e9
            clear e42
            exact Reg.Gives.skip (w' := wi.setCell ⟨rb, 1, none⟩ (.slice A2 n3 c2)) (by go_simp) ⟨fun x h => (by cases h), by show (D 14 = false → Below we.heap.size we (wi.setCell ⟨rb, 1, none⟩ (.slice A2 n3 c2)) ∧ (D 13 = true → ∃ g, V 13 = Value.slice (some ⟨g, 0, none⟩) 1 1 ∧ Cells (wi.setCell ⟨rb, 1, none⟩ (.slice A2 n3 c2)) g 53 (Tm.vals (k, due)))) ∧ (D 14 = true → true = false → Pend B we rb R1 A1 ac1 (k, due) (V 14) (wi.setCell ⟨rb, 1, none⟩ (.slice A2 n3 c2))) ∧ (true = true → WStep B rb A1 we { R1 with l := R1.l ++ [(k, due)] } (wi.setCell ⟨rb, 1, none⟩ (.slice A2 n3 c2))); exact ⟨fun e => (by rw [hD14] at e; cases e), fun _ e => (by cases e), fun _ => hfin⟩⟩
        · intro V wf hk hI
          simp only [Reg.putsO, List.foldl_cons, List.foldl_nil, Act.put, List.setIfInBounds_toArray, List.set_cons_succ, List.set_cons_zero]
          replace hI : ((fun _ => true) 14 = false → Below we.heap.size we wf ∧ ((fun _ => true) 13 = true → ∃ g, V 13 = Value.slice (some ⟨g, 0, none⟩) 1 1 ∧ Cells wf g 53 (Tm.vals (k, due)))) ∧ ((fun _ => true) 14 = true → (fun _ => true) 17 = false → Pend B we rb R1 A1 ac1 (k, due) (V 14) wf) ∧ ((fun _ => true) 17 = true → WStep B rb A1 we { R1 with l := R1.l ++ [(k, due)] } wf) := hI
          clear hk
          have HS := Lib.hid (hI.2.2 rfl)
          clear hI
          go_wp2_with fail
          go_returns
          exact ⟨rfl, by rw [← HEQW.out]; exact WxStep.before HBC.out (WxStep.next HO1.out HG1.out HS.out)⟩
end Go.Proofs.Ytnbdgjaekjneaaa.Whl
