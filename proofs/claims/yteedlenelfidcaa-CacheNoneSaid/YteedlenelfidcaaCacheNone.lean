/-
  P17.1: A cache that isn't there has nothing. Conditions: none.
-/
import Derived.Test.YteedlenelfidcaaCacAwk
namespace Go.Proofs.Yteedlenelfidcaa.CacheNone
set_option maxRecDepth 100000
open Go.ChangeShapes Go.WideShapes Go.ChangeAt Go.RowKit Go.Deep Go.Proofs.Yteedlenelfidcaa.Mem Go.Proofs.Yteedlenelfidcaa.Cac

theorem en_eqc (p q : En) (w : World) : (binOp .eql 38 p.v q.v).run Try.prog w = .ok (.bool (decide (p = q))) w := by
  have h := en_cmp 38 (by kernel_rfl) (by kernel_rfl) ⟨_, _, _, _, rfl, rfl, rfl, rfl, rfl, rfl, rfl, rfl, rfl, by decide, by decide, by decide, by decide⟩ p q w
  show (binOp .eql 38 (.agg _) (.agg _)).run Try.prog w = _
  rw [run_eql_struct]
  unfold En.v at h
  rw [h]
  rfl
set_option maxHeartbeats 2000000 in
theorem walk (x : En) (w : World) : Calls Try.prog 5 #[x.v] w fun e w' => e = .returned (.bool true) ∧ Below w.heap.size w w' := by
  obtain ⟨wa, hwa⟩ : ∃ W, W = w.alloc (.cells #[.int .i64 x.cell, .int .i64 x.ver, .int .i64 x.val, .int .i64 x.frm] 38) := ⟨_, rfl⟩
  have hba : Below w.heap.size w wa := by rw [hwa]; exact below_alloc _ _
  have hca : Cells wa w.heap.size 38 x.vals := by rw [hwa]; exact cells_new _ _ _ _ rfl
  have HA := Lib.hid (awake_any wa)
  have HB0 := Lib.hid hba
  have HC0 := Lib.hid hca
  have hq : ∀ W, (binOp .eql 38 (.agg #[.int .i64 0, .int .i64 0, .int .i64 0, .int .i64 0]) (.agg #[.int .i64 0, .int .i64 0, .int .i64 0, .int .i64 0])).run Try.prog W = .ok (.bool true) W := fun W => en_eqc en0 en0 W
  unfold En.v
  clear hba hca
  go_enter Try.func5, Try.ntmps5
  go_upto_region 1 with (fail)
  rw [← hwa]
  clear hwa
  go_wp2_with fail
  refine HA.out.mono ?_
  rintro e w1 ⟨rfl, hb1⟩
  have HB1 := Lib.hid (HB0.out.trans (hb1.mono HB0.out.size))
  have hc1 := HC0.out.later hb1
  have HC1 := Lib.hid hc1
  have z0 := hc1.cell (j := 0) rfl
  clear hb1 hc1 HA HC0 HB0
  go_wp2_with fail
  refine (Clear_nil w1).mono ?_
  rintro e w2 ⟨rfl, hw2⟩
  rw [hw2]
  clear hw2 w2
  go_wp2_with fail
  refine (Get_nil (w := w1) x.cell).mono ?_
  rintro e w3 ⟨rfl, hb3⟩
  unfold En.v en0
  obtain ⟨w4, hw4⟩ : ∃ W, W = w3.alloc (.cells #[.int .i64 0, .int .i64 0, .int .i64 0, .int .i64 0] 38) := ⟨_, rfl⟩
  have hb4 : Below w3.heap.size w3 w4 := by rw [hw4]; exact below_alloc _ _
  have hc4 : Cells w4 w3.heap.size 38 en0.vals := by rw [hw4]; exact cells_new _ _ _ _ rfl
  have hb14 := hb3.trans (hb4.mono hb3.size)
  have hx4 := HC1.out.later hb14
  have HB4 := Lib.hid (HB1.out.trans (hb14.mono HB1.out.size))
  have HC4 := Lib.hid hc4
  have HX4 := Lib.hid hx4
  have z0' := hx4.cell (j := 0) rfl
  clear hb3 hb4 hc4 hb14 hx4 z0 HB1 HC1
  go_upto_region 6 with (fail)
  rw [← hw4]
  clear hw4
  go_wp2_with fail
  refine (Peek_nil (w := w4) x.cell).mono ?_
  rintro e w5 ⟨rfl, hb5⟩
  unfold En.v en0
  obtain ⟨w6, hw6⟩ : ∃ W, W = w5.alloc (.cells #[.int .i64 0, .int .i64 0, .int .i64 0, .int .i64 0] 38) := ⟨_, rfl⟩
  have hb6 : Below w5.heap.size w5 w6 := by rw [hw6]; exact below_alloc _ _
  have hc6 : Cells w6 w5.heap.size 38 en0.vals := by rw [hw6]; exact cells_new _ _ _ _ rfl
  have hb46 := hb5.trans (hb6.mono hb5.size)
  have hx6 := HX4.out.later hb46
  have hy6 := HC4.out.later hb46
  have HB6 := Lib.hid (HB4.out.trans (hb46.mono HB4.out.size))
  have HC6 := Lib.hid hc6
  have HX6 := Lib.hid hx6
  have HY6 := Lib.hid hy6
  have y0 := hx6.cell (j := 0) rfl
  have y1 := hx6.cell (j := 1) rfl
  have y2 := hx6.cell (j := 2) rfl
  have y3 := hx6.cell (j := 3) rfl
  clear hb5 hb6 hc6 hb46 hx6 hy6 z0' HB4 HC4 HX4
  go_upto_region 7 with (fail)
  rw [← hw6]
  clear hw6
  obtain ⟨w7, hw7⟩ : ∃ W, W = w6.alloc (.cells #[.int .i64 x.cell, .int .i64 x.ver, .int .i64 x.val, .int .i64 x.frm] 38) := ⟨_, rfl⟩
  have hb7 : Below w6.heap.size w6 w7 := by rw [hw7]; exact below_alloc _ _
  have hc7 : Cells w7 w6.heap.size 38 (([x].map En.vals).flatten) := by rw [hw7]; exact cells_new _ _ _ _ (by simp [En.vals])
  have HP := Lib.hid (Puts_nil (w := w7) (lc := 1) (l := [x]) (cells_sl hc7 (fit_es [x]).len) (by simp))
  rw [hw7] at HP
  have HB7 : Hid (Below w6.heap.size w6 w7) := Lib.hid hb7
  have HW7 := Lib.hid hw7
  clear hb7 hc7
  go_wp2_with fail
  refine (show Calls Try.prog 11 #[.pointer none, .slice (some ⟨w6.heap.size, 0, none⟩) 1 1] _ _ from HP.out).mono ?_
  rintro e w8 ⟨rfl, hb8⟩
  rw [← HW7.out] at hb8
  have hb68 := HB7.out.trans (hb8.mono HB7.out.size)
  have hx8 := HX6.out.later hb68
  have hy8 := HY6.out.later hb68
  have hc8 := HC6.out.later hb68
  have HB8 := Lib.hid (HB6.out.trans (hb68.mono HB6.out.size))
  have p0 : w8.cell? ⟨w.heap.size, 0, none⟩ = some (.int .i64 x.cell) := hx8.cell (j := 0) rfl
  have p1 : w8.cell? ⟨w.heap.size, 1, none⟩ = some (.int .i64 x.ver) := hx8.cell (j := 1) rfl
  have q0 : w8.cell? ⟨w3.heap.size, 0, none⟩ = some (.int .i64 0) := hy8.cell (j := 0) rfl
  have q1 : w8.cell? ⟨w3.heap.size, 1, none⟩ = some (.int .i64 0) := hy8.cell (j := 1) rfl
  have q2 : w8.cell? ⟨w3.heap.size, 2, none⟩ = some (.int .i64 0) := hy8.cell (j := 2) rfl
  have q3 : w8.cell? ⟨w3.heap.size, 3, none⟩ = some (.int .i64 0) := hy8.cell (j := 3) rfl
  have r0 : w8.cell? ⟨w5.heap.size, 0, none⟩ = some (.int .i64 0) := hc8.cell (j := 0) rfl
  have r1 : w8.cell? ⟨w5.heap.size, 1, none⟩ = some (.int .i64 0) := hc8.cell (j := 1) rfl
  have r2 : w8.cell? ⟨w5.heap.size, 2, none⟩ = some (.int .i64 0) := hc8.cell (j := 2) rfl
  have r3 : w8.cell? ⟨w5.heap.size, 3, none⟩ = some (.int .i64 0) := hc8.cell (j := 3) rfl
  have HX8 := Lib.hid hx8
  clear hb68 hb8 hx8 hy8 hc8 HP HB7 HW7 HX6 HY6 HC6 HB6 y0 y1 y2 y3
  go_wp2_with fail
  refine (Stale_nil (w := w8) x.cell x.ver).mono ?_
  rintro e w9 ⟨rfl, hb9⟩
  have HB9 := Lib.hid (HB8.out.trans (hb9.mono HB8.out.size))
  have p0 : w9.cell? ⟨w.heap.size, 0, none⟩ = some (.int .i64 x.cell) := (HX8.out.later hb9).cell (j := 0) rfl
  obtain ⟨wd, hwd⟩ : ∃ W, W = w9.alloc (.cells #[.int .i64 x.cell] 3) := ⟨_, rfl⟩
  have hbd : Below w9.heap.size w9 wd := by rw [hwd]; exact below_alloc _ _
  have hcd : Cells wd w9.heap.size 3 ((ints [x.cell]).flatten) := by rw [hwd]; exact cells_new _ _ _ _ (by simp [ints])
  have HD := Lib.hid (Drops_nil (w := wd) (lc := 1) (l := [x.cell]) (cells_sl (sz := 1) hcd (fun v hv => by obtain ⟨c, _, rfl⟩ := List.mem_map.1 hv; rfl)) (by simp))
  have HBD := Lib.hid (HB9.out.trans (hbd.mono HB9.out.size))
  rw [hwd] at HD
  have HWD := Lib.hid hwd
  clear hb9 hbd hcd hwd q0 q1 q2 q3 r0 r1 r2 r3 p1
  go_wp2_with fail
  refine (show Calls Try.prog 18 #[.pointer none, .slice (some ⟨w9.heap.size, 0, none⟩) 1 1] _ _ from HD.out).mono ?_
  rintro e w10 ⟨rfl, hb10⟩
  rw [← HWD.out] at hb10
  have HB10 := Lib.hid (HBD.out.trans (hb10.mono HBD.out.size))
  clear hb10 HD HWD p0
  go_wp2_with fail
  refine (All_nil w10).mono ?_
  rintro e w11 ⟨rfl, hw11⟩
  rw [hw11]
  clear hw11 w11
  go_wp2_with fail
  go_returns
  exact ⟨rfl, HB10.out⟩
theorem opened {H : Type} {enc : TypeId × Value → H} {W : World} {base : Nat} {gs : List (DataW H)} (v0 : Value) (d0 : DataW H) (p0 : List MemPlace)
    (o0 : Value.okWide Try.prog W .any base 38 v0) (t0 : DataW.Trod enc Try.prog W 0 (fun _ => true) true 38 v0 d0 p0)
    (hsz : (DataW.weightsEach Try.prog ([38] ++ []) ([d0] ++ gs)).all (· ≤ reachBytes) = true) :
    Calls Try.prog 5 #[v0] W fun e W' => e = .returned (.bool true) ∧ Below W.heap.size W W' := by
  obtain ⟨x, rfl⟩ := arg_en o0 t0 (Base.small_of hsz (j := 0) rfl rfl)
  exact walk x W

theorem contract (H : Type) (enc : TypeId × Value → H) (W : World) (base : Nat) (args : Array Value) (ds gs : List (DataW H)) (before : List MemPlace)
    (hval : ∀ (j : Nat) t v, Try.f5.params[j]? = some t → args[j]? = some v → Value.okWide Try.prog W .any base t v)
    (hW : DataW.Whole enc Try.prog Try.f5.params.toList Rows.cacheNoneSpec.vars false W args.toList ds gs before)
    (hsz : (DataW.weightsEach Try.prog (Try.f5.params.toList ++ []) (ds ++ gs)).all (· ≤ reachBytes) = true) :
    Calls Try.prog 5 args W fun e W' => ∃ v, e = .returned v ∧ Rows.cacheNoneSpec.post enc Try.prog Try.f5 false true false false W args v W' := by
  have hW0 := hW
  obtain ⟨p, q, hA0, hV, rfl, _, _⟩ := hW
  have hA : DataW.TrodAll enc Try.prog W 0 (fun _ => true) true Try.f5.params.toList args.toList ds p := hA0
  rw [Try.params5] at hA hval hsz
  obtain ⟨v0, vs0, d0, ds0, p0, q0, hargs, rfl, rfl, h0, r0⟩ := trodAll_cons hA
  obtain ⟨rfl, rfl, rfl⟩ := trodAll_nil r0
  obtain rfl : args = #[v0] := by cases args; simp_all
  refine (opened v0 d0 p0 (hval 0 38 v0 rfl rfl) h0 hsz).mono fun e W' ⟨he, hb⟩ => ⟨_, he, ?_⟩
  exact Base.law_post (tb := 4) Base.laidOut (by kernel_rfl) rfl Try.underlying4 rfl (fun l hl => by
    rw [Try.params5] at hl
    match l, hl with
    | [_], _ => rfl) (by rw [Try.params5]; rfl) hW0 hb

theorem laid_met (os : Os) : laidMet Try.prog Rows.cacheNoneRow.laid ((Base.plainWorld os).forCall (fun _ _ => 0) ⟨#[], #[.agg #[.int .i64 0, .int .i64 0, .int .i64 0, .int .i64 0]], []⟩).memory := laidMet_nil _ _
theorem reads (os : Os) {H : Type} (enc : TypeId × Value → H) : ∃ places, DataW.whole enc Try.prog ((Base.plainWorld os).forCall (fun _ _ => 0) ⟨#[], #[.agg #[.int .i64 0, .int .i64 0, .int .i64 0, .int .i64 0]], []⟩).memory Try.f5.params.toList Rows.cacheNoneSpec.vars false (#[.agg #[.int .i64 0, .int .i64 0, .int .i64 0, .int .i64 0]] : Array Value).toList 8 = some ([.agg [.lit (.int .i64 0), .lit (.int .i64 0), .lit (.int .i64 0), .lit (.int .i64 0)]], [], places) :=
  ⟨[], by kernel_rfl⟩

set_option maxRecDepth 100000 in
theorem lifted (os : Os) (started : os.Started) (H : Type) (enc : TypeId × Value → H) (F : Stop.Interp) :
    ReturnsInHanded {} Try.checked os 5 .any ((OpenSpec.ofChange Rows.cacheNoneSpec).preRow enc Try.prog Try.f5 Rows.cacheNoneRow.domain false Rows.cacheNoneRow.laid) (((OpenSpec.ofChange Rows.cacheNoneSpec).at F).post enc Try.prog Try.f5 false true false false) := by
  obtain ⟨places, hx⟩ := reads os enc
  refine returnsInHanded_of_row (C := Try.checked) (s := OpenSpec.ofChange Rows.cacheNoneSpec) Base.own started (by kernel_rfl) Try.func5
    (witness_row_at (enc := enc) (C := Try.checked) false (Base.plainWorld os) #[.agg #[.int .i64 0, .int .i64 0, .int .i64 0, .int .i64 0]] rfl (by kernel_rfl) (by kernel_rfl) (by kernel_rfl)
      (OpenSpec.preRow_of_cond 8 hx (by kernel_rfl) (fun k hk => by cases hk) (by kernel_rfl) (laid_met os))) ?_
  intro W base args ds gs before hval hW _ _ hsz _ _ _
  exact contract H enc W base args ds gs before hval hW hsz

theorem said : Rows.CacheNoneSaid :=
  OpenClaim.holds_of_cond 5 Try.f5 rfl rfl rfl rfl rfl rfl rfl ⟨rfl, rfl, rfl, rfl, rfl⟩ rfl rfl rfl rfl rfl (by kernel_rfl) Try.func5 (by kernel_rfl)
    (of_decide_eq_true (by kernel_rfl)) (by unfold Func.isWrapper; rw [if_neg (of_decide_eq_false (by kernel_rfl))]; exact ⟨rfl, rfl⟩)
    (fun os started H enc _ F => by rw [OpenClaim.pre_eq_preRow]; exact lifted os started H enc F)
#print axioms said
end Go.Proofs.Yteedlenelfidcaa.CacheNone
