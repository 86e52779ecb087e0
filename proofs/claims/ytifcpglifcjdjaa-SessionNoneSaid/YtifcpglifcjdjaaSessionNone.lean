/-
  Layer 14: a session that isn't there takes nothing; there is none of numbers that may not be. Conditions: none.
-/
import Derived.Test.YtifcpglifcjdjaaSesRef1
import Derived.Lib.LaidTab
import Derived.Deep.DeepHandedRow
namespace Go.Proofs.Ytifcpglifcjdjaa.SessionNone
set_option maxRecDepth 100000
open Go.ChangeShapes Go.WideShapes Go.ChangeAt Go.RowKit Go.Deep Go.Proofs.Ytifcpglifcjdjaa.Mem Go.Proofs.Ytifcpglifcjdjaa.Win Go.Proofs.Ytifcpglifcjdjaa.Ses

theorem Send_nil (x : Int) (SA : Option Addr) (n c : Nat) (w : World) : Calls Try.prog 18 #[.pointer none, .int .i64 x, .slice SA n c] w fun e w' => e = .returned (.tuple #[.slice none 0 0, .int .i64 1]) ∧ w' = w := by
  have HP := Lib.hid (peer_nil x w)
  go_enter Try.func18, Try.ntmps18
  go_wp2_with fail
  refine HP.out.mono ?_
  rintro e w1 ⟨rfl, rfl⟩
  go_wp2_with fail
  go_returns
  exact ⟨rfl, rfl⟩
theorem Take_nil (x : Int) (e : Ev) (w : World) : Calls Try.prog 21 #[.pointer none, .int .i64 x, e.val] w fun r w' => r = .returned (.tuple #[.string ⟨#[]⟩, .slice none 0 0, .int .i64 1]) ∧ Below w.heap.size w w' := by
  obtain ⟨wa, hwa⟩ : ∃ W, W = w.alloc (.cells #[.int .i64 e.kind, .int .i64 e.epoch, .int .i64 e.peer, .int .i64 e.seq, .string e.pay] 23) := ⟨_, rfl⟩
  have hba : Below w.heap.size w wa := by rw [hwa]; exact below_alloc _ _
  have HB := Lib.hid hba
  have HP := Lib.hid (peer_nil x wa)
  unfold Ev.val
  clear hba
  go_enter Try.func21, Try.ntmps21
  go_upto_region 1 with (fail)
  rw [← hwa]
  clear hwa
  go_wp2_with fail
  refine HP.out.mono ?_
  rintro e w1 ⟨rfl, rfl⟩
  go_wp2_with fail
  go_returns
  exact ⟨rfl, HB.out⟩
theorem Tick_nil (w : World) : Calls Try.prog 23 #[.pointer none] w fun e w' => e = .returned (.slice none 0 0) ∧ w' = w := by
  go_enter Try.func23, Try.ntmps23
  go_wp2_with fail
  go_returns
  exact ⟨rfl, rfl⟩
theorem none_new (ok : Bool) (node nodes epoch : Int) (h : okNew node nodes epoch = ok) (w : World) :
    Calls Try.prog 16 #[.int .i64 node, .int .i64 nodes, .int .i64 epoch] w fun e w' => ∃ (p : Option Addr) (er : Int), e = .returned (.tuple #[.pointer p, .int .i64 er]) ∧ (ok = true ∧ (∃ a, p = some a) ∧ er = 0 ∨ ok = false ∧ p = none ∧ er = 1) ∧ Below w.heap.size w w' := by
  cases ok with
  | true =>
    refine (New_good node nodes epoch h w).mono ?_
    rintro e w' ⟨sb, F, rfl, _, hb⟩
    exact ⟨_, _, rfl, Or.inl ⟨rfl, ⟨_, rfl⟩, rfl⟩, hb⟩
  | false =>
    refine (New_bad node nodes epoch h w).mono ?_
    rintro e w' ⟨rfl, rfl⟩
    exact ⟨_, _, rfl, Or.inr ⟨rfl, rfl, rfl⟩, Below.refl _ _⟩
theorem none_rnew (ok : Bool) (node nodes epoch : Int) (h : okNew node nodes epoch = ok) (w : World) :
    Calls Try.prog 17 #[.int .i64 node, .int .i64 nodes, .int .i64 epoch] w fun e w' => ∃ p : Option Addr, e = .returned (.pointer p) ∧ (ok = true ∧ (∃ a, p = some a) ∨ ok = false ∧ p = none) ∧ Below w.heap.size w w' := by
  cases ok with
  | true =>
    refine (RNew_good node nodes epoch h w).mono ?_
    rintro e w' ⟨sb, F, rfl, _, hb⟩
    exact ⟨_, rfl, Or.inl ⟨rfl, ⟨_, rfl⟩⟩, hb⟩
  | false =>
    refine (RNew_bad node nodes epoch h w).mono ?_
    rintro e w' ⟨rfl, rfl⟩
    exact ⟨_, rfl, Or.inr ⟨rfl, rfl⟩, Below.refl _ _⟩
set_option maxHeartbeats 2000000 in
theorem walk (ok : Bool) (node nodes epoch : Int) (h : okNew node nodes epoch = ok) (w : World) :
    Calls Try.prog 7 #[.int .i64 node, .int .i64 nodes, .int .i64 epoch] w fun e w' => e = .returned (.bool true) ∧ Below w.heap.size w w' := by
  have HA := Lib.hid (awake_any w)
  have HN := Lib.hid (none_new ok node nodes epoch h)
  have HR := Lib.hid (none_rnew ok node nodes epoch h)
  clear h
  go_enter Try.func7, Try.ntmps7
  go_wp2_with fail
  refine HA.out.mono ?_
  rintro e w1 ⟨rfl, hb1⟩
  have HB1 := Lib.hid hb1
  clear hb1 HA
  go_wp2_with fail
  refine (HN.out w1).mono ?_
  rintro e w2 ⟨p, er, rfl, hp, hb2⟩
  have HPP := Lib.hid hp
  have HB2 := Lib.hid (HB1.out.trans (hb2.mono HB1.out.size))
  clear hb2 HN HB1 hp
  go_wp2_with fail
  refine (HR.out w2).mono ?_
  rintro e w3 ⟨q, rfl, hq, hb3⟩
  have HQQ := Lib.hid hq
  have HB3 := Lib.hid (HB2.out.trans (hb3.mono HB2.out.size))
  clear hb3 HR HB2 hq
  obtain ⟨w4, hw4⟩ : ∃ W, W = w3.alloc (.cells #[.string { data := #[97] }] 9) := ⟨_, rfl⟩
  have hb4 : Below w3.heap.size w3 w4 := by rw [hw4]; exact below_alloc _ _
  have HB4 : Hid (Below w.heap.size w w4) := Lib.hid (HB3.out.trans (hb4.mono HB3.out.size))
  have HS := Lib.hid (Send_nil 1 (some ⟨w3.heap.size, 0, none⟩) 1 1 w4)
  have HT := Lib.hid (Take_nil 1 ⟨1, 1, 0, 1, ⟨#[]⟩⟩ w4)
  unfold Ev.val at HT
  dsimp only at HT
  clear hb4 HB3
  go_upto_region 6 with (fail)
  go_wp2_with (rw [← hw4])
  refine HS.out.mono ?_
  rintro e w5 ⟨rfl, rfl⟩
  clear hw4 HS
  go_wp2_with fail
  refine HT.out.mono ?_
  rintro e w6 ⟨rfl, hb6⟩
  have HB6 := Lib.hid (HB4.out.trans (hb6.mono HB4.out.size))
  have HTK := Lib.hid (Tick_nil w6)
  have HHD := Lib.hid (Held_nil 1 w6)
  have HKN := Lib.hid (Known_nil 1 w6)
  clear hb6 HT HB4
  have hpq : (∃ a b, p = some a ∧ q = some b ∧ er = 0) ∨ (p = none ∧ q = none ∧ er = 1) := by
    rcases HPP.out with ⟨h1, ⟨a, h2⟩, h3⟩ | ⟨h1, h2, h3⟩ <;> rcases HQQ.out with ⟨h4, ⟨b, h5⟩⟩ | ⟨h4, h5⟩
    · exact Or.inl ⟨a, b, h2, h5, h3⟩
    · rw [h1] at h4; cases h4
    · rw [h1] at h4; cases h4
    · exact Or.inr ⟨h2, h5, h3⟩
  clear HPP HQQ
  rcases hpq with ⟨a, b, rfl, rfl, rfl⟩ | ⟨rfl, rfl, rfl⟩ <;>
  ·
    go_wp2_with fail
    refine HTK.out.mono ?_
    rintro e w7 ⟨rfl, rfl⟩
    go_wp2_with fail
    refine HHD.out.mono ?_
    rintro e w7 ⟨rfl, rfl⟩
    go_wp2_with fail
    refine HKN.out.mono ?_
    rintro e w7 ⟨rfl, rfl⟩
    go_wp2_with fail
    go_returns
    exact ⟨rfl, HB6.out⟩
theorem opened {H : Type} {enc : TypeId × Value → H} {W : World} {base : Nat} {gs : List (DataW H)} (v0 : Value) (d0 : DataW H) (p0 : List MemPlace) (v1 : Value) (d1 : DataW H) (p1 : List MemPlace) (v2 : Value) (d2 : DataW H) (p2 : List MemPlace)
    (o0 : Value.okWide Try.prog W .any base 3 v0) (_t0 : DataW.Trod enc Try.prog W 0 (fun _ => true) true 3 v0 d0 p0)
    (o1 : Value.okWide Try.prog W .any base 3 v1) (_t1 : DataW.Trod enc Try.prog W 0 (fun _ => true) true 3 v1 d1 p1)
    (o2 : Value.okWide Try.prog W .any base 3 v2) (_t2 : DataW.Trod enc Try.prog W 0 (fun _ => true) true 3 v2 d2 p2)
    (_hsz : (DataW.weightsEach Try.prog ([3, 3, 3] ++ []) ([d0, d1, d2] ++ gs)).all (· ≤ reachBytes) = true) :
    Calls Try.prog 7 #[v0, v1, v2] W fun e W' => e = .returned (.bool true) ∧ Below W.heap.size W W' := by
  obtain ⟨x, rfl⟩ := okWide_int Try.underlying3 o0
  obtain ⟨y, rfl⟩ := okWide_int Try.underlying3 o1
  obtain ⟨z, rfl⟩ := okWide_int Try.underlying3 o2
  exact walk _ x y z rfl W

theorem contract (H : Type) (enc : TypeId × Value → H) (W : World) (base : Nat) (args : Array Value) (ds gs : List (DataW H)) (before : List MemPlace)
    (hval : ∀ (j : Nat) t v, Try.f7.params[j]? = some t → args[j]? = some v → Value.okWide Try.prog W .any base t v)
    (hW : DataW.Whole enc Try.prog Try.f7.params.toList Rows.sessionNoneSpec.vars false W args.toList ds gs before)
    (hsz : (DataW.weightsEach Try.prog (Try.f7.params.toList ++ []) (ds ++ gs)).all (· ≤ reachBytes) = true) :
    Calls Try.prog 7 args W fun e W' => ∃ v, e = .returned v ∧ Rows.sessionNoneSpec.post enc Try.prog Try.f7 false true false false W args v W' := by
  have hW0 := hW
  obtain ⟨p, q, hA0, hV, rfl, _, _⟩ := hW
  have hA : DataW.TrodAll enc Try.prog W 0 (fun _ => true) true Try.f7.params.toList args.toList ds p := hA0
  rw [Try.params7] at hA hval hsz
  obtain ⟨v0, vs0, d0, ds0, p0, q0, hargs, rfl, rfl, h0, r0⟩ := trodAll_cons hA
  obtain ⟨v1, vs1, d1, ds1, p1, q1, rfl, rfl, rfl, h1, r1⟩ := trodAll_cons r0
  obtain ⟨v2, vs2, d2, ds2, p2, q2, rfl, rfl, rfl, h2, r2⟩ := trodAll_cons r1
  obtain ⟨rfl, rfl, rfl⟩ := trodAll_nil r2
  obtain rfl : args = #[v0, v1, v2] := by cases args; simp_all
  refine (opened v0 d0 p0 v1 d1 p1 v2 d2 p2 (hval 0 3 v0 rfl rfl) h0 (hval 1 3 v1 rfl rfl) h1 (hval 2 3 v2 rfl rfl) h2 hsz).mono fun e W' ⟨he, hb⟩ => ⟨_, he, ?_⟩
  exact Base.law_post (tb := 4) Base.laidOut (by kernel_rfl) rfl Try.underlying4 rfl (fun l hl => by
    rw [Try.params7] at hl
    match l, hl with
    | [_, _, _], _ => rfl) (by rw [Try.params7]; rfl) hW0 hb

theorem laid_met (os : Os) : laidMet Try.prog Rows.sessionNoneRow.laid ((Base.plainWorld os).forCall (fun _ _ => 0) ⟨#[], #[.int .i64 0, .int .i64 0, .int .i64 0], []⟩).memory := laidMet_nil _ _
theorem reads (os : Os) {H : Type} (enc : TypeId × Value → H) : ∃ places, DataW.whole enc Try.prog ((Base.plainWorld os).forCall (fun _ _ => 0) ⟨#[], #[.int .i64 0, .int .i64 0, .int .i64 0], []⟩).memory Try.f7.params.toList Rows.sessionNoneSpec.vars false (#[.int .i64 0, .int .i64 0, .int .i64 0] : Array Value).toList 8 = some ([.lit (.int .i64 0), .lit (.int .i64 0), .lit (.int .i64 0)], [], places) :=
  ⟨[], by kernel_rfl⟩

set_option maxRecDepth 100000 in
theorem lifted (os : Os) (started : os.Started) (H : Type) (enc : TypeId × Value → H) (F : Stop.Interp) :
    ReturnsInHanded {} Try.checked os 7 .any ((OpenSpec.ofChange Rows.sessionNoneSpec).preRow enc Try.prog Try.f7 Rows.sessionNoneRow.domain false Rows.sessionNoneRow.laid) (((OpenSpec.ofChange Rows.sessionNoneSpec).at F).post enc Try.prog Try.f7 false true false false) := by
  obtain ⟨places, hx⟩ := reads os enc
  refine returnsInHanded_of_row (C := Try.checked) (s := OpenSpec.ofChange Rows.sessionNoneSpec) Base.own started (by kernel_rfl) Try.func7
    (witness_row_at (enc := enc) (C := Try.checked) false (Base.plainWorld os) #[.int .i64 0, .int .i64 0, .int .i64 0] rfl (by kernel_rfl) (by kernel_rfl) (by kernel_rfl)
      (OpenSpec.preRow_of_cond 8 hx (by kernel_rfl) (fun k hk => by cases hk) (by kernel_rfl) (laid_met os))) ?_
  intro W base args ds gs before hval hW _ _ hsz _ _ _
  exact contract H enc W base args ds gs before hval hW hsz

theorem said : Rows.SessionNoneSaid :=
  OpenClaim.holds_of_cond 7 Try.f7 rfl rfl rfl rfl rfl rfl rfl ⟨rfl, rfl, rfl, rfl, rfl⟩ rfl rfl rfl rfl rfl (by kernel_rfl) Try.func7 (by kernel_rfl)
    (of_decide_eq_true (by kernel_rfl)) (by unfold Func.isWrapper; rw [if_neg (of_decide_eq_false (by kernel_rfl))]; exact ⟨rfl, rfl⟩)
    (fun os started H enc _ F => by rw [OpenClaim.pre_eq_preRow]; exact lifted os started H enc F)
#print axioms said
end Go.Proofs.Ytifcpglifcjdjaa.SessionNone
