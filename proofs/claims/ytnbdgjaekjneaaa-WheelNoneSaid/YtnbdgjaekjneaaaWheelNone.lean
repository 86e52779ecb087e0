/-
  WheelNone is proved: a wheel that isn't there has no timers. Conditions: none.
-/
import Derived.Test.YtnbdgjaekjneaaaWhlLaw
namespace Go.Proofs.Ytnbdgjaekjneaaa.WheelNone
set_option maxRecDepth 100000
open Go.ChangeShapes Go.WideShapes Go.ChangeAt Go.RowKit Go.Deep Go.Proofs.Ytnbdgjaekjneaaa.Mem Go.Proofs.Ytnbdgjaekjneaaa.Whl

set_option maxHeartbeats 2000000 in
theorem walk (k : Ky) (n : Int) (w : World) :
    Calls Try.prog 5 #[k.val, .int .i64 n] w fun e w' => e = .returned (.bool true) ∧ Below w.heap.size w w' := by
  obtain ⟨wb, hwb⟩ : ∃ W, W = w.alloc (.cells #[.int .i64 k.kind, .int .i64 k.cell, .int .i64 k.node, .int .i64 k.tn, .int .i64 k.te, .int .i64 k.ts] 34) := ⟨_, rfl⟩
  have hb : Below w.heap.size w wb := by rw [hwb]; exact below_alloc _ _
  have hc : Cells wb w.heap.size 34 k.vals := by rw [hwb]; exact cells_new _ _ _ _ rfl
  have HA := Lib.hid (awake_any wb)
  have HB := Lib.hid hb
  have HK := Lib.hid hc
  have HKV : Hid (k.val = .agg #[.int .i64 k.kind, .int .i64 k.cell, .int .i64 k.node, .int .i64 k.tn, .int .i64 k.te, .int .i64 k.ts]) := Lib.hid rfl
  rw [HKV.out]
  clear hb hc
  go_enter Try.func5, Try.ntmps5
  go_wp2_with fail
  rw [← hwb]
  clear hwb
  refine HA.out.mono ?_
  rintro e w1 ⟨rfl, hb1⟩
  have HB1 := Lib.hid (HB.out.trans (hb1.mono HB.out.size))
  have HK1 := Lib.hid (HK.out.later hb1)
  clear hb1 HA HB HK
  go_wp2_with fail
  refine (Clear_nil w1).mono ?_
  rintro e w2 ⟨rfl, hb2⟩
  have HB2 := Lib.hid (HB1.out.trans (hb2.mono HB1.out.size))
  have HK2 := Lib.hid (HK1.out.later hb2)
  clear hb2 HB1 HK1
  have x0 := HK2.out.cell (j := 0) rfl
  have x1 := HK2.out.cell (j := 1) rfl
  have x2 := HK2.out.cell (j := 2) rfl
  have x3 := HK2.out.cell (j := 3) rfl
  have x4 := HK2.out.cell (j := 4) rfl
  have x5 := HK2.out.cell (j := 5) rfl
  go_wp2_with fail
  have HD := Lib.hid (Due_nil w2 k)
  rw [HKV.out] at HD
  refine HD.out.mono ?_
  rintro e w3 ⟨rfl, hb3⟩
  have HB3 := Lib.hid (HB2.out.trans (hb3.mono HB2.out.size))
  have HK3 := Lib.hid (HK2.out.later hb3)
  clear hb3 HB2 HK2 HD x0 x1 x2 x3 x4 x5
  go_wp2_with fail
  refine (Now_nil w3).mono ?_
  rintro e w4 ⟨rfl, hb4⟩
  have HB4 := Lib.hid (HB3.out.trans (hb4.mono HB3.out.size))
  have HK4 := Lib.hid (HK3.out.later hb4)
  clear hb4 HB3 HK3
  have x0 := HK4.out.cell (j := 0) rfl
  have x1 := HK4.out.cell (j := 1) rfl
  have x2 := HK4.out.cell (j := 2) rfl
  have x3 := HK4.out.cell (j := 3) rfl
  have x4 := HK4.out.cell (j := 4) rfl
  have x5 := HK4.out.cell (j := 5) rfl
  have HS := Lib.hid (Set_nil w4 k n)
  rw [HKV.out] at HS
  go_wp2_with fail
  refine HS.out.mono ?_
  rintro e w5 ⟨rfl, hb5⟩
  have HB5 := Lib.hid (HB4.out.trans (hb5.mono HB4.out.size))
  have HK5 := Lib.hid (HK4.out.later hb5)
  clear hb5 HB4 HK4 HS x0 x1 x2 x3 x4 x5
  have x0 := HK5.out.cell (j := 0) rfl
  have x1 := HK5.out.cell (j := 1) rfl
  have x2 := HK5.out.cell (j := 2) rfl
  have x3 := HK5.out.cell (j := 3) rfl
  have x4 := HK5.out.cell (j := 4) rfl
  have x5 := HK5.out.cell (j := 5) rfl
  obtain ⟨w6, hw6⟩ : ∃ W, W = w5.alloc (.cells #[.int .i64 k.kind, .int .i64 k.cell, .int .i64 k.node, .int .i64 k.tn, .int .i64 k.te, .int .i64 k.ts] 34) := ⟨_, rfl⟩
  have hb6 : Below w5.heap.size w5 w6 := by rw [hw6]; exact below_alloc _ _
  have hc6 : Cells w6 w5.heap.size 34 k.vals := by rw [hw6]; exact cells_new _ _ _ _ rfl
  have HP := Lib.hid (Stop_nil w6 k w5.heap.size hc6)
  have HB6 := Lib.hid (HB5.out.trans (hb6.mono HB5.out.size))
  clear hb6 hc6 HB5 HK5
  go_wp2_with (rw [← hw6])
  refine HP.out.mono ?_
  rintro e w7 ⟨rfl, hb7⟩
  have HB7 := Lib.hid (HB6.out.trans (hb7.mono HB6.out.size))
  clear hb7 HB6 HP hw6 x0 x1 x2 x3 x4 x5
  go_wp2_with fail
  refine (Tick_nil w7).mono ?_
  rintro e w8 ⟨rfl, hb8⟩
  have HB8 := Lib.hid (HB7.out.trans (hb8.mono HB7.out.size))
  clear hb8 HB7
  go_wp2_with fail
  refine (Keys_nil w8).mono ?_
  rintro e w9 ⟨rfl, hb9⟩
  have HB9 := Lib.hid (HB8.out.trans (hb9.mono HB8.out.size))
  clear hb9 HB8
  go_wp2_with fail
  go_returns
  exact ⟨rfl, HB9.out⟩

theorem opened {H : Type} {enc : TypeId × Value → H} {W : World} {base : Nat} {gs : List (DataW H)} (v0 : Value) (d0 : DataW H) (p0 : List MemPlace) (v1 : Value) (d1 : DataW H) (p1 : List MemPlace)
    (o0 : Value.okWide Try.prog W .any base 34 v0) (t0 : DataW.Trod enc Try.prog W 0 (fun _ => true) true 34 v0 d0 p0)
    (o1 : Value.okWide Try.prog W .any base 3 v1) (t1 : DataW.Trod enc Try.prog W 0 (fun _ => true) true 3 v1 d1 p1)
    (hsz : (DataW.weightsEach Try.prog ([34, 3] ++ []) ([d0, d1] ++ gs)).all (· ≤ reachBytes) = true) :
    Calls Try.prog 5 #[v0, v1] W fun e W' => e = .returned (.bool true) ∧ Below W.heap.size W W' := by
  obtain ⟨k, rfl⟩ := arg_key o0 t0 (Base.small_of hsz (j := 0) rfl rfl)
  obtain ⟨n, rfl, _⟩ := arg_int o1 t1
  exact walk k n W

theorem contract (H : Type) (enc : TypeId × Value → H) (W : World) (base : Nat) (args : Array Value) (ds gs : List (DataW H)) (before : List MemPlace)
    (hval : ∀ (j : Nat) t v, Try.f5.params[j]? = some t → args[j]? = some v → Value.okWide Try.prog W .any base t v)
    (hW : DataW.Whole enc Try.prog Try.f5.params.toList Rows.wheelNoneSpec.vars false W args.toList ds gs before)
    (hsz : (DataW.weightsEach Try.prog (Try.f5.params.toList ++ []) (ds ++ gs)).all (· ≤ reachBytes) = true) :
    Calls Try.prog 5 args W fun e W' => ∃ v, e = .returned v ∧ Rows.wheelNoneSpec.post enc Try.prog Try.f5 false true false false W args v W' := by
  have hW0 := hW
  obtain ⟨p, q, hA0, hV, rfl, _, _⟩ := hW
  have hA : DataW.TrodAll enc Try.prog W 0 (fun _ => true) true Try.f5.params.toList args.toList ds p := hA0
  rw [Try.params5] at hA hval hsz
  obtain ⟨v0, vs0, d0, ds0, p0, q0, hargs, rfl, rfl, h0, r0⟩ := trodAll_cons hA
  obtain ⟨v1, vs1, d1, ds1, p1, q1, rfl, rfl, rfl, h1, r1⟩ := trodAll_cons r0
  obtain ⟨rfl, rfl, rfl⟩ := trodAll_nil r1
  obtain rfl : args = #[v0, v1] := by cases args; simp_all
  refine (opened v0 d0 p0 v1 d1 p1 (hval 0 34 v0 rfl rfl) h0 (hval 1 3 v1 rfl rfl) h1 hsz).mono fun e W' ⟨he, hb⟩ => ⟨_, he, ?_⟩
  exact Base.law_post (tb := 4) Base.laidOut (by kernel_rfl) rfl Try.underlying4 rfl (fun l hl => by
    rw [Try.params5] at hl
    match l, hl with
    | [_, _], _ => rfl) (by rw [Try.params5]; rfl) hW0 hb

theorem laid_met (os : Os) : laidMet Try.prog Rows.wheelNoneRow.laid ((Base.plainWorld os).forCall (fun _ _ => 0) ⟨#[], #[.agg #[.int .i64 0, .int .i64 0, .int .i64 0, .int .i64 0, .int .i64 0, .int .i64 0], .int .i64 0], []⟩).memory := laidMet_nil _ _
theorem reads (os : Os) {H : Type} (enc : TypeId × Value → H) : ∃ places, DataW.whole enc Try.prog ((Base.plainWorld os).forCall (fun _ _ => 0) ⟨#[], #[.agg #[.int .i64 0, .int .i64 0, .int .i64 0, .int .i64 0, .int .i64 0, .int .i64 0], .int .i64 0], []⟩).memory Try.f5.params.toList Rows.wheelNoneSpec.vars false (#[.agg #[.int .i64 0, .int .i64 0, .int .i64 0, .int .i64 0, .int .i64 0, .int .i64 0], .int .i64 0] : Array Value).toList 8 = some ([.agg [.lit (.int .i64 0), .lit (.int .i64 0), .lit (.int .i64 0), .agg [.lit (.int .i64 0), .lit (.int .i64 0), .lit (.int .i64 0)]], .lit (.int .i64 0)], [], places) :=
  ⟨[], by kernel_rfl⟩

set_option maxRecDepth 100000 in
theorem lifted (os : Os) (started : os.Started) (H : Type) (enc : TypeId × Value → H) (F : Stop.Interp) :
    ReturnsInHanded {} Try.checked os 5 .any ((OpenSpec.ofChange Rows.wheelNoneSpec).preRow enc Try.prog Try.f5 Rows.wheelNoneRow.domain false Rows.wheelNoneRow.laid) (((OpenSpec.ofChange Rows.wheelNoneSpec).at F).post enc Try.prog Try.f5 false true false false) := by
  obtain ⟨places, hx⟩ := reads os enc
  refine returnsInHanded_of_row (C := Try.checked) (s := OpenSpec.ofChange Rows.wheelNoneSpec) Base.own started (by kernel_rfl) Try.func5
    (witness_row_at (enc := enc) (C := Try.checked) false (Base.plainWorld os) #[.agg #[.int .i64 0, .int .i64 0, .int .i64 0, .int .i64 0, .int .i64 0, .int .i64 0], .int .i64 0] rfl (by kernel_rfl) (by kernel_rfl) (by kernel_rfl)
      (OpenSpec.preRow_of_cond 8 hx (by kernel_rfl) (fun k hk => by cases hk) (by kernel_rfl) (laid_met os))) ?_
  intro W base args ds gs before hval hW _ _ hsz _ _ _
  exact contract H enc W base args ds gs before hval hW hsz

theorem said : Rows.WheelNoneSaid :=
  OpenClaim.holds_of_cond 5 Try.f5 rfl rfl rfl rfl rfl rfl rfl ⟨rfl, rfl, rfl, rfl, rfl⟩ rfl rfl rfl rfl rfl (by kernel_rfl) Try.func5 (by kernel_rfl)
    (of_decide_eq_true (by kernel_rfl)) (by unfold Func.isWrapper; rw [if_neg (of_decide_eq_false (by kernel_rfl))]; exact ⟨rfl, rfl⟩)
    (fun os started H enc _ F => by rw [OpenClaim.pre_eq_preRow]; exact lifted os started H enc F)
#print axioms said
end Go.Proofs.Ytnbdgjaekjneaaa.WheelNone
