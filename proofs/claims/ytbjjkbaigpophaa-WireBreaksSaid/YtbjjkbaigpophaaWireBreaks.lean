/-
  WireBreaks is proved: a reader that is broken reads nothing any more, whatever is left. Conditions: none.
-/
import Derived.Test.YtbjjkbaigpophaaWireReader
namespace Go.Proofs.Ytbjjkbaigpophaa.WireBreaks
open Go.ChangeShapes Go.WideShapes Go.ChangeAt Go.RowKit Go.Proofs.Ytbjjkbaigpophaa.Mem Go.Proofs.Ytbjjkbaigpophaa.Wire

theorem rd_none (w : World) : Rd w none nil true := ⟨fun g hg => (by cases hg), fun _ => rfl, fun _ => rfl, by decide⟩
theorem get_broken (w : World) (g k : Nat) (h : Rd w (some g) nil true) (hk : k ≤ 4) : Calls Try.prog 15 #[ptr (some g), .int .i64 (k : Int)] w fun e w' => e = .returned (⟨k, 0, nil⟩ : Th).val ∧ Rd w' (some g) nil true ∧ Foot (some g) w w' := by
  have h := law_get w (some g) nil true k h hk
  rw [got_broken k hk] at h
  exact h
theorem foot_below {g : Nat} {w w1 w2 : World} (h : Below w.heap.size w w1) (ho : Foot (some g) w1 w2) (hg : w.heap.size ≤ g) : Below w.heap.size w w2 :=
  h.trans (ho.below h.size fun k hk => by rw [show k = g from Option.some.inj hk]; exact hg)

set_option maxHeartbeats 1000000 in
theorem walk_long (s : ByteArray) (x : Int) (w : World) (hs : s.size ≤ 140737488355328) (hl : 100000 < s.size) :
    Calls Try.prog 6 #[.string s, .int .u8 x] w fun e w' => e = .returned (.bool true) ∧ Below w.heap.size w w' := by
  go_enter Try.func6, Try.ntmps6
  go_wp2_with fail
  refine (awake_any w).mono ?_
  rintro e w1 ⟨rfl, hb⟩
  go_wp2_with fail
  go_returns
  exact ⟨rfl, hb⟩

set_option maxHeartbeats 2000000 in
theorem walk (s : ByteArray) (x : Int) (w : World) (hs : s.size ≤ 140737488355328) (hl : s.size ≤ 100000) (h0 : 0 ≤ x) (h1 : x < 256) :
    Calls Try.prog 6 #[.string s, .int .u8 x] w fun e w' => e = .returned (.bool true) ∧ Below w.heap.size w w' := by
  have h5 : x % 5 = 0 ∨ x % 5 = 1 ∨ x % 5 = 2 ∨ x % 5 = 3 ∨ x % 5 = 4 := by omega
  have hend : endV nil true = 2 := rfl
  rcases h5 with h5 | h5 | h5 | h5 | h5
  case inl =>
    go_enter Try.func6, Try.ntmps6
    go_wp2_with fail
    refine (awake_any w).mono ?_
    rintro e w1 ⟨rfl, hb⟩
    go_wp2_with fail
    refine (newReader_any w1 s hs).mono ?_
    rintro e w2 ⟨rfl, hr2, hb2⟩
    have HB2 := Lib.hid (hb.trans (hb2.mono hb.size))
    have HR2 := Lib.hid hr2
    have HG := Lib.hid hb.size
    clear hb hr2 hb2
    generalize w1.heap.size = g at *
    go_wp2_with fail
    refine (break_any w2 (some g) s false HR2.out).mono ?_
    rintro e w3 ⟨rfl, hr3, ho3⟩
    have HR3 := Lib.hid hr3
    have HB3 := Lib.hid (foot_below HB2.out ho3 HG.out)
    clear hr3 ho3
    go_wp2_with fail
    refine (break_any w3 none nil true (rd_none w3)).mono ?_
    rintro e w4 ⟨rfl, _, ho4⟩
    have HR4 := Lib.hid (HR3.out.only ho4 fun g hg e => by cases e)
    have HB4 := Lib.hid (HB3.out.trans (ho4.below HB3.out.size fun k hk => by cases hk))
    clear ho4
    go_wp2_with fail
    refine (get_broken w4 g 0 HR4.out (by omega)).mono ?_
    rintro e w5 ⟨rfl, hr5, ho5⟩
    have HR5 := Lib.hid hr5
    have HB5 := Lib.hid (foot_below HB4.out ho5 HG.out)
    clear hr5 ho5
    unfold Th.val
    go_wp2_with fail
    refine (left_any w5 (some g) nil true HR5.out).mono ?_
    rintro e w6 ⟨rfl, rfl⟩
    go_wp2_with fail
    refine (end_any w5 (some g) nil true HR5.out).mono ?_
    rintro e w6 ⟨rfl, rfl⟩
    go_wp2_with fail
    refine (end_any w5 none nil true (rd_none w5)).mono ?_
    rintro e w6 ⟨rfl, rfl⟩
    go_wp2_with fail
    go_returns
    exact ⟨rfl, HB5.out⟩
  case inr.inl =>
    go_enter Try.func6, Try.ntmps6
    go_wp2_with fail
    refine (awake_any w).mono ?_
    rintro e w1 ⟨rfl, hb⟩
    go_wp2_with fail
    refine (newReader_any w1 s hs).mono ?_
    rintro e w2 ⟨rfl, hr2, hb2⟩
    have HB2 := Lib.hid (hb.trans (hb2.mono hb.size))
    have HR2 := Lib.hid hr2
    have HG := Lib.hid hb.size
    clear hb hr2 hb2
    generalize w1.heap.size = g at *
    go_wp2_with fail
    refine (break_any w2 (some g) s false HR2.out).mono ?_
    rintro e w3 ⟨rfl, hr3, ho3⟩
    have HR3 := Lib.hid hr3
    have HB3 := Lib.hid (foot_below HB2.out ho3 HG.out)
    clear hr3 ho3
    go_wp2_with fail
    refine (break_any w3 none nil true (rd_none w3)).mono ?_
    rintro e w4 ⟨rfl, _, ho4⟩
    have HR4 := Lib.hid (HR3.out.only ho4 fun g hg e => by cases e)
    have HB4 := Lib.hid (HB3.out.trans (ho4.below HB3.out.size fun k hk => by cases hk))
    clear ho4
    go_wp2_with fail
    refine (get_broken w4 g 1 HR4.out (by omega)).mono ?_
    rintro e w5 ⟨rfl, hr5, ho5⟩
    have HR5 := Lib.hid hr5
    have HB5 := Lib.hid (foot_below HB4.out ho5 HG.out)
    clear hr5 ho5
    unfold Th.val
    go_wp2_with fail
    refine (left_any w5 (some g) nil true HR5.out).mono ?_
    rintro e w6 ⟨rfl, rfl⟩
    go_wp2_with fail
    refine (end_any w5 (some g) nil true HR5.out).mono ?_
    rintro e w6 ⟨rfl, rfl⟩
    go_wp2_with fail
    refine (end_any w5 none nil true (rd_none w5)).mono ?_
    rintro e w6 ⟨rfl, rfl⟩
    go_wp2_with fail
    go_returns
    exact ⟨rfl, HB5.out⟩
  case inr.inr.inl =>
    go_enter Try.func6, Try.ntmps6
    go_wp2_with fail
    refine (awake_any w).mono ?_
    rintro e w1 ⟨rfl, hb⟩
    go_wp2_with fail
    refine (newReader_any w1 s hs).mono ?_
    rintro e w2 ⟨rfl, hr2, hb2⟩
    have HB2 := Lib.hid (hb.trans (hb2.mono hb.size))
    have HR2 := Lib.hid hr2
    have HG := Lib.hid hb.size
    clear hb hr2 hb2
    generalize w1.heap.size = g at *
    go_wp2_with fail
    refine (break_any w2 (some g) s false HR2.out).mono ?_
    rintro e w3 ⟨rfl, hr3, ho3⟩
    have HR3 := Lib.hid hr3
    have HB3 := Lib.hid (foot_below HB2.out ho3 HG.out)
    clear hr3 ho3
    go_wp2_with fail
    refine (break_any w3 none nil true (rd_none w3)).mono ?_
    rintro e w4 ⟨rfl, _, ho4⟩
    have HR4 := Lib.hid (HR3.out.only ho4 fun g hg e => by cases e)
    have HB4 := Lib.hid (HB3.out.trans (ho4.below HB3.out.size fun k hk => by cases hk))
    clear ho4
    go_wp2_with fail
    refine (get_broken w4 g 2 HR4.out (by omega)).mono ?_
    rintro e w5 ⟨rfl, hr5, ho5⟩
    have HR5 := Lib.hid hr5
    have HB5 := Lib.hid (foot_below HB4.out ho5 HG.out)
    clear hr5 ho5
    unfold Th.val
    go_wp2_with fail
    refine (left_any w5 (some g) nil true HR5.out).mono ?_
    rintro e w6 ⟨rfl, rfl⟩
    go_wp2_with fail
    refine (end_any w5 (some g) nil true HR5.out).mono ?_
    rintro e w6 ⟨rfl, rfl⟩
    go_wp2_with fail
    refine (end_any w5 none nil true (rd_none w5)).mono ?_
    rintro e w6 ⟨rfl, rfl⟩
    go_wp2_with fail
    go_returns
    exact ⟨rfl, HB5.out⟩
  case inr.inr.inr.inl =>
    go_enter Try.func6, Try.ntmps6
    go_wp2_with fail
    refine (awake_any w).mono ?_
    rintro e w1 ⟨rfl, hb⟩
    go_wp2_with fail
    refine (newReader_any w1 s hs).mono ?_
    rintro e w2 ⟨rfl, hr2, hb2⟩
    have HB2 := Lib.hid (hb.trans (hb2.mono hb.size))
    have HR2 := Lib.hid hr2
    have HG := Lib.hid hb.size
    clear hb hr2 hb2
    generalize w1.heap.size = g at *
    go_wp2_with fail
    refine (break_any w2 (some g) s false HR2.out).mono ?_
    rintro e w3 ⟨rfl, hr3, ho3⟩
    have HR3 := Lib.hid hr3
    have HB3 := Lib.hid (foot_below HB2.out ho3 HG.out)
    clear hr3 ho3
    go_wp2_with fail
    refine (break_any w3 none nil true (rd_none w3)).mono ?_
    rintro e w4 ⟨rfl, _, ho4⟩
    have HR4 := Lib.hid (HR3.out.only ho4 fun g hg e => by cases e)
    have HB4 := Lib.hid (HB3.out.trans (ho4.below HB3.out.size fun k hk => by cases hk))
    clear ho4
    go_wp2_with fail
    refine (get_broken w4 g 3 HR4.out (by omega)).mono ?_
    rintro e w5 ⟨rfl, hr5, ho5⟩
    have HR5 := Lib.hid hr5
    have HB5 := Lib.hid (foot_below HB4.out ho5 HG.out)
    clear hr5 ho5
    unfold Th.val
    go_wp2_with fail
    refine (left_any w5 (some g) nil true HR5.out).mono ?_
    rintro e w6 ⟨rfl, rfl⟩
    go_wp2_with fail
    refine (end_any w5 (some g) nil true HR5.out).mono ?_
    rintro e w6 ⟨rfl, rfl⟩
    go_wp2_with fail
    refine (end_any w5 none nil true (rd_none w5)).mono ?_
    rintro e w6 ⟨rfl, rfl⟩
    go_wp2_with fail
    go_returns
    exact ⟨rfl, HB5.out⟩
  case inr.inr.inr.inr =>
    go_enter Try.func6, Try.ntmps6
    go_wp2_with fail
    refine (awake_any w).mono ?_
    rintro e w1 ⟨rfl, hb⟩
    go_wp2_with fail
    refine (newReader_any w1 s hs).mono ?_
    rintro e w2 ⟨rfl, hr2, hb2⟩
    have HB2 := Lib.hid (hb.trans (hb2.mono hb.size))
    have HR2 := Lib.hid hr2
    have HG := Lib.hid hb.size
    clear hb hr2 hb2
    generalize w1.heap.size = g at *
    go_wp2_with fail
    refine (break_any w2 (some g) s false HR2.out).mono ?_
    rintro e w3 ⟨rfl, hr3, ho3⟩
    have HR3 := Lib.hid hr3
    have HB3 := Lib.hid (foot_below HB2.out ho3 HG.out)
    clear hr3 ho3
    go_wp2_with fail
    refine (break_any w3 none nil true (rd_none w3)).mono ?_
    rintro e w4 ⟨rfl, _, ho4⟩
    have HR4 := Lib.hid (HR3.out.only ho4 fun g hg e => by cases e)
    have HB4 := Lib.hid (HB3.out.trans (ho4.below HB3.out.size fun k hk => by cases hk))
    clear ho4
    go_wp2_with fail
    refine (get_broken w4 g 4 HR4.out (by omega)).mono ?_
    rintro e w5 ⟨rfl, hr5, ho5⟩
    have HR5 := Lib.hid hr5
    have HB5 := Lib.hid (foot_below HB4.out ho5 HG.out)
    clear hr5 ho5
    unfold Th.val
    go_wp2_with fail
    refine (left_any w5 (some g) nil true HR5.out).mono ?_
    rintro e w6 ⟨rfl, rfl⟩
    go_wp2_with fail
    refine (end_any w5 (some g) nil true HR5.out).mono ?_
    rintro e w6 ⟨rfl, rfl⟩
    go_wp2_with fail
    refine (end_any w5 none nil true (rd_none w5)).mono ?_
    rintro e w6 ⟨rfl, rfl⟩
    go_wp2_with fail
    go_returns
    exact ⟨rfl, HB5.out⟩

theorem opened {H : Type} {enc : TypeId × Value → H} {W : World} {base : Nat} {gs : List (DataW H)} (v0 : Value) (d0 : DataW H) (p0 : List MemPlace) (v1 : Value) (d1 : DataW H) (p1 : List MemPlace)
    (o0 : Value.okWide Try.prog W .any base 9 v0) (t0 : DataW.Trod enc Try.prog W 0 (fun _ => true) true 9 v0 d0 p0)
    (o1 : Value.okWide Try.prog W .any base 5 v1) (t1 : DataW.Trod enc Try.prog W 0 (fun _ => true) true 5 v1 d1 p1)
    (_hsz : (DataW.weightsEach Try.prog ([9, 5] ++ []) ([d0, d1] ++ gs)).all (· ≤ reachBytes) = true) :
    Calls Try.prog 6 #[v0, v1] W fun e W' => e = .returned (.bool true) ∧ Below W.heap.size W W' := by
  obtain ⟨s, rfl, rfl, rfl, hs⟩ := Go.ChangeMaps.open_string Try.underlying9 o0 t0
  obtain ⟨x, rfl, rfl, rfl, wx⟩ := open_int Try.underlying5 o1 t1
  have h := u8_range wx
  have hs' : s.size ≤ 140737488355328 := by
    have h2 := (Base.small_of _hsz (j := 0) (t := 9) (d := .lit (.string s.data.toList)) rfl rfl).text
    rw [toList_size] at h2
    omega
  by_cases hl : s.size ≤ 100000
  · exact walk s x W hs' hl h.1 h.2
  · exact walk_long s x W hs' (by omega)

theorem contract (H : Type) (enc : TypeId × Value → H) (W : World) (base : Nat) (args : Array Value) (ds gs : List (DataW H)) (before : List MemPlace)
    (hval : ∀ (j : Nat) t v, Try.f6.params[j]? = some t → args[j]? = some v → Value.okWide Try.prog W .any base t v)
    (hW : DataW.Whole enc Try.prog Try.f6.params.toList Rows.wireBreaksSpec.vars false W args.toList ds gs before)
    (hsz : (DataW.weightsEach Try.prog (Try.f6.params.toList ++ []) (ds ++ gs)).all (· ≤ reachBytes) = true) :
    Calls Try.prog 6 args W fun e W' => ∃ v, e = .returned v ∧ Rows.wireBreaksSpec.post enc Try.prog Try.f6 false true false false W args v W' := by
  have hW0 := hW
  obtain ⟨p, q, hA0, hV, rfl, _, _⟩ := hW
  have hA : DataW.TrodAll enc Try.prog W 0 (fun _ => true) true Try.f6.params.toList args.toList ds p := hA0
  rw [Try.params6] at hA hval hsz
  obtain ⟨v0, vs0, d0, ds0, p0, q0, hargs, rfl, rfl, h0, r0⟩ := trodAll_cons hA
  obtain ⟨v1, vs1, d1, ds1, p1, q1, rfl, rfl, rfl, h1, r1⟩ := trodAll_cons r0
  obtain ⟨rfl, rfl, rfl⟩ := trodAll_nil r1
  obtain rfl : args = #[v0, v1] := by cases args; simp_all
  refine (opened v0 d0 p0 v1 d1 p1 (hval 0 9 v0 rfl rfl) h0 (hval 1 5 v1 rfl rfl) h1 hsz).mono fun e W' ⟨he, hb⟩ => ⟨_, he, ?_⟩
  exact Base.law_post (tb := 4) Base.laidOut (by kernel_rfl) rfl Try.underlying4 rfl (fun l hl => by
    rw [Try.params6] at hl
    match l, hl with
    | [_, _], _ => rfl) (by rw [Try.params6]; rfl) hW0 hb

theorem laid_met (os : Os) : laidMet Try.prog Rows.wireBreaksRow.laid ((Base.plainWorld os).forCall (fun _ _ => 0) ⟨#[], #[.string ⟨#[]⟩, .int .u8 0], []⟩).memory := laidMet_nil _ _
theorem reads (os : Os) {H : Type} (enc : TypeId × Value → H) : ∃ places, DataW.whole enc Try.prog ((Base.plainWorld os).forCall (fun _ _ => 0) ⟨#[], #[.string ⟨#[]⟩, .int .u8 0], []⟩).memory Try.f6.params.toList Rows.wireBreaksSpec.vars false (#[.string ⟨#[]⟩, .int .u8 0] : Array Value).toList 8 = some ([.lit (.string []), .lit (.int .u8 0)], [], places) :=
  ⟨[], by kernel_rfl⟩

set_option maxRecDepth 100000 in
theorem lifted (os : Os) (started : os.Started) (H : Type) (enc : TypeId × Value → H) (F : Stop.Interp) :
    ReturnsInHanded {} Try.checked os 6 .any ((OpenSpec.ofChange Rows.wireBreaksSpec).preRow enc Try.prog Try.f6 Rows.wireBreaksRow.domain false Rows.wireBreaksRow.laid) (((OpenSpec.ofChange Rows.wireBreaksSpec).at F).post enc Try.prog Try.f6 false true false false) := by
  obtain ⟨places, hx⟩ := reads os enc
  refine returnsInHanded_of_row (C := Try.checked) (s := OpenSpec.ofChange Rows.wireBreaksSpec) Base.own started (by kernel_rfl) Try.func6
    (witness_row_at (enc := enc) (C := Try.checked) false (Base.plainWorld os) #[.string ⟨#[]⟩, .int .u8 0] rfl (by kernel_rfl) (by kernel_rfl) (by kernel_rfl)
      (OpenSpec.preRow_of_cond 8 hx (by kernel_rfl) (fun k hk => by cases hk) (by kernel_rfl) (laid_met os))) ?_
  intro W base args ds gs before hval hW _ _ hsz _ _ _
  exact contract H enc W base args ds gs before hval hW hsz

theorem said : Rows.WireBreaksSaid :=
  OpenClaim.holds_of_cond 6 Try.f6 rfl rfl rfl rfl rfl rfl rfl ⟨rfl, rfl, rfl, rfl, rfl⟩ rfl rfl rfl rfl rfl (by kernel_rfl) Try.func6 (by kernel_rfl)
    (of_decide_eq_true (by kernel_rfl)) (by unfold Func.isWrapper; rw [if_neg (of_decide_eq_false (by kernel_rfl))]; exact ⟨rfl, rfl⟩)
    (fun os started H enc _ F => by rw [OpenClaim.pre_eq_preRow]; exact lifted os started H enc F)
#print axioms said
end Go.Proofs.Ytbjjkbaigpophaa.WireBreaks
