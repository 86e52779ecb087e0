/-
  P18.1: A table that isn't there holds nothing. Conditions: none.
-/
import Derived.Test.YtiobblmagjbhjaaLeaAwk
namespace Go.Proofs.Ytiobblmagjbhjaa.LeaseNone
set_option maxRecDepth 100000
open Go.ChangeShapes Go.WideShapes Go.ChangeAt Go.RowKit Go.Deep Go.Proofs.Ytiobblmagjbhjaa.Mem Go.Proofs.Ytiobblmagjbhjaa.Lea

set_option maxHeartbeats 2000000 in
theorem walk (who : Lt) (n : Int) (w : World) : Calls Try.prog 5 #[who.v, .int .i64 n] w fun e w' => e = .returned (.bool true) ∧ Below w.heap.size w w' := by
  obtain ⟨wa, hwa⟩ : ∃ W, W = w.alloc (.cells #[.int .i64 who.node, .int .i64 who.epoch, .int .i64 who.seq] 34) := ⟨_, rfl⟩
  have hba : Below w.heap.size w wa := by rw [hwa]; exact below_alloc _ _
  have hca : Cells wa w.heap.size 34 (lt3 who) := by rw [hwa]; exact cells_new _ _ _ _ rfl
  have HA := Lib.hid (awake_any wa)
  have HB0 := Lib.hid hba
  have HC0 := Lib.hid hca
  have hq : ∀ W, (binOp .eql 48 (.agg #[.int .i64 0, .int .i64 0, .int .i64 0, .int .i64 0]) (.agg #[.int .i64 0, .int .i64 0, .int .i64 0, .int .i64 0])).run Try.prog W = .ok (.bool true) W := fun W => by kernel_rfl
  unfold Lt.v
  clear hba hca
  go_enter Try.func5, Try.ntmps5
  go_upto_region 1 with (fail)
  rw [← hwa]
  clear hwa
  go_wp2_with fail
  refine HA.out.mono ?_
  rintro e w1 ⟨rfl, hb1⟩
  have HB1 := Lib.hid (HB0.out.trans (hb1.mono HB0.out.size))
  have HC1 := Lib.hid (HC0.out.later hb1)
  clear hb1 HA HC0 HB0
  go_wp2_with fail
  refine (Of_nil n w1).mono ?_
  rintro e w2 ⟨rfl, hb2⟩
  unfold ofV sv0
  obtain ⟨w3, hw3⟩ : ∃ W, W = w2.alloc (.cells #[.int .i64 0, .int .i64 0, .int .i64 0, .int .i64 0] 48) := ⟨_, rfl⟩
  have hb3 : Below w2.heap.size w2 w3 := by rw [hw3]; exact below_alloc _ _
  have hc3 : Cells w3 w2.heap.size 48 [.int .i64 0, .int .i64 0, .int .i64 0, .int .i64 0] := by rw [hw3]; exact cells_new _ _ _ _ rfl
  obtain ⟨xh, hxh⟩ : ∃ x, w2.heap.size = x := ⟨_, rfl⟩
  have hb13 := hb2.trans (hb3.mono hb2.size)
  have hx3 := HC1.out.later hb13
  have HB3 := Lib.hid (HB1.out.trans (hb13.mono HB1.out.size))
  rw [hxh] at hc3
  have HH3 := Lib.hid hc3
  have HX3 := Lib.hid hx3
  have z0 := hx3.cell (j := 0) rfl
  have z1 := hx3.cell (j := 1) rfl
  have z2 := hx3.cell (j := 2) rfl
  clear hb2 hb3 hc3 hb13 hx3 HB1 HC1
  go_upto_region 5 with (fail)
  rw [← hw3]
  try rw [hxh]
  clear hw3 hxh
  go_wp2_with fail
  refine (Hold_nil who n _ w3).mono ?_
  rintro e w4 ⟨rfl, hb4⟩
  have hx4 := HX3.out.later hb4
  have z0' := hx4.cell (j := 0) rfl
  have z1' := hx4.cell (j := 1) rfl
  have z2' := hx4.cell (j := 2) rfl
  have HB4 := Lib.hid (HB3.out.trans (hb4.mono HB3.out.size))
  have HX4 := Lib.hid hx4
  have HH4 := Lib.hid (HH3.out.later hb4)
  clear hb4 hx4 z0 z1 z2 HB3 HX3 HH3
  go_wp2_with fail
  refine (Free_nil who w4).mono ?_
  rintro e w5 ⟨rfl, hb5⟩
  have HB5 := Lib.hid (HB4.out.trans (hb5.mono HB4.out.size))
  have HX5 := Lib.hid (HX4.out.later hb5)
  have HH5 := Lib.hid (HH4.out.later hb5)
  clear hb5 z0' z1' z2' HB4 HX4 HH4
  go_wp2_with fail
  refine (Expire_nil n w5).mono ?_
  rintro e w6 ⟨rfl, hb6⟩
  have HB6 := Lib.hid (HB5.out.trans (hb6.mono HB5.out.size))
  have hx6 := HX5.out.later hb6
  have hh6 := HH5.out.later hb6
  have z0 := hx6.cell (j := 0) rfl
  have z1 := hx6.cell (j := 1) rfl
  have z2 := hx6.cell (j := 2) rfl
  have y0 := hh6.cell (j := 0) rfl
  have y1 := hh6.cell (j := 1) rfl
  have y2 := hh6.cell (j := 2) rfl
  have y3 := hh6.cell (j := 3) rfl
  clear hb6 hx6 hh6 HB5 HX5 HH5
  go_wp2_with fail
  refine (May_nil who _ w6).mono ?_
  rintro e w7 ⟨rfl, hb7⟩
  have HB7 := Lib.hid (HB6.out.trans (hb7.mono HB6.out.size))
  clear hb7 HB6 z0 z1 z2 y0 y1 y2 y3
  go_wp2_with fail
  refine (Held_nil w7).mono ?_
  rintro e w8 ⟨rfl, hw8⟩
  rw [hw8]
  clear hw8
  go_wp2_with fail
  go_returns
  exact ⟨rfl, HB7.out⟩
theorem opened {H : Type} {enc : TypeId × Value → H} {W : World} {base : Nat} {gs : List (DataW H)} (v0 : Value) (d0 : DataW H) (p0 : List MemPlace) (v1 : Value) (d1 : DataW H) (p1 : List MemPlace)
    (o0 : Value.okWide Try.prog W .any base 34 v0) (t0 : DataW.Trod enc Try.prog W 0 (fun _ => true) true 34 v0 d0 p0)
    (o1 : Value.okWide Try.prog W .any base 3 v1) (t1 : DataW.Trod enc Try.prog W 0 (fun _ => true) true 3 v1 d1 p1)
    (hsz : (DataW.weightsEach Try.prog ([34, 3] ++ []) ([d0, d1] ++ gs)).all (· ≤ reachBytes) = true) :
    Calls Try.prog 5 #[v0, v1] W fun e W' => e = .returned (.bool true) ∧ Below W.heap.size W W' := by
  obtain ⟨t, rfl⟩ := arg_tid o0 t0 (Base.small_of hsz (j := 0) rfl rfl)
  obtain ⟨n, rfl, _⟩ := arg_int o1 t1
  exact walk t n W

theorem contract (H : Type) (enc : TypeId × Value → H) (W : World) (base : Nat) (args : Array Value) (ds gs : List (DataW H)) (before : List MemPlace)
    (hval : ∀ (j : Nat) t v, Try.f5.params[j]? = some t → args[j]? = some v → Value.okWide Try.prog W .any base t v)
    (hW : DataW.Whole enc Try.prog Try.f5.params.toList Rows.leaseNoneSpec.vars false W args.toList ds gs before)
    (hsz : (DataW.weightsEach Try.prog (Try.f5.params.toList ++ []) (ds ++ gs)).all (· ≤ reachBytes) = true) :
    Calls Try.prog 5 args W fun e W' => ∃ v, e = .returned v ∧ Rows.leaseNoneSpec.post enc Try.prog Try.f5 false true false false W args v W' := by
  have hW0 := hW
  obtain ⟨p, q, hA0, hV, rfl, _, _⟩ := hW
  have hA : DataW.TrodAll enc Try.prog W 0 (fun _ => true) true Try.f5.params.toList args.toList ds p := hA0
  rw [Try.params5] at hA hval hsz
  obtain ⟨v0, vs0, d0, ds0, p0, q0, hargs, rfl, rfl, h0, r0⟩ := trodAll_cons hA
  obtain ⟨v1, vs1, d1, ds1, p1, q1, rfl, rfl, rfl, h1, r1⟩ := trodAll_cons r0
  obtain ⟨rfl, rfl, rfl⟩ := trodAll_nil r1
  obtain rfl : args = #[v0, v1] := by cases args; simp_all
  refine (opened v0 d0 p0 v1 d1 p1 (hval 0 34 v0 rfl rfl) h0 (hval 1 3 v1 rfl rfl) h1 hsz).mono fun e W' ⟨he, hb⟩ => ⟨_, he, ?_⟩
  exact Base.law_post (tb := 4) Base.laidOut (by kernel_rfl) rfl Try.underlying4 rfl (fun l hl => by
    rw [Try.params5] at hl
    match l, hl with
    | [_, _], _ => rfl) (by rw [Try.params5]; rfl) hW0 hb

theorem laid_met (os : Os) : laidMet Try.prog Rows.leaseNoneRow.laid ((Base.plainWorld os).forCall (fun _ _ => 0) ⟨#[], #[.agg #[.int .i64 0, .int .i64 0, .int .i64 0], .int .i64 0], []⟩).memory := laidMet_nil _ _
theorem reads (os : Os) {H : Type} (enc : TypeId × Value → H) : ∃ places, DataW.whole enc Try.prog ((Base.plainWorld os).forCall (fun _ _ => 0) ⟨#[], #[.agg #[.int .i64 0, .int .i64 0, .int .i64 0], .int .i64 0], []⟩).memory Try.f5.params.toList Rows.leaseNoneSpec.vars false (#[.agg #[.int .i64 0, .int .i64 0, .int .i64 0], .int .i64 0] : Array Value).toList 8 = some ([.agg [.lit (.int .i64 0), .lit (.int .i64 0), .lit (.int .i64 0)], .lit (.int .i64 0)], [], places) :=
  ⟨[], by kernel_rfl⟩

set_option maxRecDepth 100000 in
theorem lifted (os : Os) (started : os.Started) (H : Type) (enc : TypeId × Value → H) (F : Stop.Interp) :
    ReturnsInHanded {} Try.checked os 5 .any ((OpenSpec.ofChange Rows.leaseNoneSpec).preRow enc Try.prog Try.f5 Rows.leaseNoneRow.domain false Rows.leaseNoneRow.laid) (((OpenSpec.ofChange Rows.leaseNoneSpec).at F).post enc Try.prog Try.f5 false true false false) := by
  obtain ⟨places, hx⟩ := reads os enc
  refine returnsInHanded_of_row (C := Try.checked) (s := OpenSpec.ofChange Rows.leaseNoneSpec) Base.own started (by kernel_rfl) Try.func5
    (witness_row_at (enc := enc) (C := Try.checked) false (Base.plainWorld os) #[.agg #[.int .i64 0, .int .i64 0, .int .i64 0], .int .i64 0] rfl (by kernel_rfl) (by kernel_rfl) (by kernel_rfl)
      (OpenSpec.preRow_of_cond 8 hx (by kernel_rfl) (fun k hk => by cases hk) (by kernel_rfl) (laid_met os))) ?_
  intro W base args ds gs before hval hW _ _ hsz _ _ _
  exact contract H enc W base args ds gs before hval hW hsz

theorem said : Rows.LeaseNoneSaid :=
  OpenClaim.holds_of_cond 5 Try.f5 rfl rfl rfl rfl rfl rfl rfl ⟨rfl, rfl, rfl, rfl, rfl⟩ rfl rfl rfl rfl rfl (by kernel_rfl) Try.func5 (by kernel_rfl)
    (of_decide_eq_true (by kernel_rfl)) (by unfold Func.isWrapper; rw [if_neg (of_decide_eq_false (by kernel_rfl))]; exact ⟨rfl, rfl⟩)
    (fun os started H enc _ F => by rw [OpenClaim.pre_eq_preRow]; exact lifted os started H enc F)
#print axioms said
end Go.Proofs.Ytiobblmagjbhjaa.LeaseNone
