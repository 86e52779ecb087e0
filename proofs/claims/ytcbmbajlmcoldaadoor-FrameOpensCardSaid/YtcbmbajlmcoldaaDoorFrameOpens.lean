/-
  FrameOpens is proved: of any bytes that is read as a frame, and as frames one behind the other, what the document says. Conditions: the table of half bytes holds what its initialiser lays (tied to the program's text).
-/
import Derived.Test.YtcbmbajlmcoldaaDoorFrameImpl
import Derived.Test.YtcbmbajlmcoldaaDoorFrameLaw
import Derived.Test.YtcbmbajlmcoldaaDoorCards
import Derived.Test.YtcbmbajlmcoldaaDoorTie
namespace Go.Proofs.YtcbmbajlmcoldaaDoor.FrameOpens
open Go.ChangeShapes Go.WideShapes Go.ChangeAt Go.RowKit
open Go.Proofs.YtcbmbajlmcoldaaDoor.Mem Go.Proofs.YtcbmbajlmcoldaaDoor.Crc Go.Proofs.YtcbmbajlmcoldaaDoor.Wire Go.Proofs.YtcbmbajlmcoldaaDoor.Frame

set_option maxHeartbeats 1000000 in
theorem walk_long (C : Does) (s : ByteArray) (w : World) (hT : Tab w) (hs : s.size ≤ 140737488355328) (h : 9000 < s.size) :
    Calls Tryd.prog 4 #[.string s] w fun e w' => e = .returned (.bool true) ∧ Below w.heap.size w w' := by
  go_enter Tryd.func4, Tryd.ntmps4
  go_wp2_with fail
  refine (awake_any C _ hT).mono ?_
  rintro e w1 ⟨rfl, hb⟩
  go_wp2_with fail
  go_returns
  exact ⟨rfl, hb⟩

set_option maxHeartbeats 2000000 in
theorem walk (C : Does) (s : ByteArray) (w : World) (hT : Tab w) (hs : s.size ≤ 9000) :
    Calls Tryd.prog 4 #[.string s] w fun e w' => e = .returned (.bool true) ∧ Below w.heap.size w w' := by
  obtain ⟨hsm, hfn, hfk⟩ := fr_small _ s.data.toList (Nat.le_refl _)
  rw [toList_size] at hfn hfk
  have HSM := Lib.hid (texts_small _ hsm)
  have HAL := Lib.hid (C.all s · (by omega))
  have HRA := Lib.hid (rall_any s · (by omega))
  have HFN := Lib.hid (show (texts (fr s.data.toList).1).length ≤ 1000000000 by rw [texts_length]; omega)
  generalize (fr s.data.toList).2 = K at *
  generalize texts (fr s.data.toList).1 = TS at *
  clear hsm hfn
  by_cases he : err s.data.toList = 0
  · obtain ⟨_, _, _, h4⟩ := frm_of_err _ he
    rw [toList_size] at h4
    have hrest : ByteArray.mk (s.data.toList.drop (6 + flen s.data.toList)).toArray = s.extract (6 + flen s.data.toList) s.size := ba_ext (by
      rw [ext_list, List.take_of_length_le (by rw [toList_size]; exact Nat.le_refl _)])
    have HO := Lib.hid (show openE s = .tuple #[.string ⟨(payload s.data.toList).toArray⟩, .string (s.extract (6 + flen s.data.toList) s.size), .int .i64 0] by unfold openE; rw [if_pos he, hrest])
    have HV := Lib.hid (show openV s = .tuple #[.string ⟨(payload s.data.toList).toArray⟩, .int .i64 (6 + flen s.data.toList : Nat), .int .i64 0] by unfold openV; rw [if_pos he])
    generalize ByteArray.mk (payload s.data.toList).toArray = P at *
    generalize 6 + flen s.data.toList = n at *
    clear he hrest
    go_enter Tryd.func4, Tryd.ntmps4
    go_wp2_with fail
    refine (awake_any C _ hT).mono ?_
    rintro e w1 ⟨rfl, hb⟩
    go_wp2_with fail
    refine (C.opens s w1 (by omega) (hT.later hb)).mono ?_
    rintro e w2 ⟨rfl, hb2⟩
    rw [HO.out]
    have hb3 := hb.trans (hb2.mono hb.size)
    clear hb hb2
    go_wp2_with fail
    refine (ropen_any s _ (by omega)).mono ?_
    rintro e w3 ⟨rfl, hb4⟩
    rw [HV.out]
    have hb5 := hb3.trans (hb4.mono hb3.size)
    clear hb3 hb4
    go_wp2_with fail
    refine (HAL.out w3 (hT.later hb5)).mono ?_
    rintro e w4 ⟨v1, rfl, ht1, hb6⟩
    obtain ⟨A1, c1, rfl, hs1⟩ := ht1.opened HSM.out
    have hb7 := hb5.trans (hb6.mono hb5.size)
    have HS1 := Lib.hid hs1
    clear hb5 hb6 ht1 hs1
    go_wp2_with fail
    refine (HRA.out w4).mono ?_
    rintro e w5 ⟨v2, rfl, ht2, hb8⟩
    obtain ⟨A2, c2, rfl, hs2⟩ := ht2.opened HSM.out
    have hb9 := hb7.trans (hb8.mono hb7.size)
    have HS2 := Lib.hid hs2
    have HS3 := Lib.hid (HS1.out.later hb8)
    clear hb7 hb8 ht2 hs2
    go_wp2_with fail
    refine (same_yes A1 A2 TS c1 c2 w5 HS3.out HS2.out HFN.out).mono ?_
    rintro e w6 ⟨rfl, hb10⟩
    have hb11 := hb9.trans (hb10.mono hb9.size)
    clear hb9 hb10
    go_wp2_with fail
    go_returns
    exact ⟨rfl, hb11⟩
  · have HO := Lib.hid (show openE s = .tuple #[.string ⟨#[]⟩, .string ⟨#[]⟩, .int .i64 (err s.data.toList)] by unfold openE; rw [if_neg he])
    have HV := Lib.hid (show openV s = .tuple #[.string ⟨#[]⟩, .int .i64 0, .int .i64 (err s.data.toList)] by unfold openV; rw [if_neg he])
    generalize err s.data.toList = x at *
    have hne : (x == 0) = false := by simpa using he
    have hne2 : (x != 0) = true := by simpa using he
    clear he
    go_enter Tryd.func4, Tryd.ntmps4
    go_wp2_with fail
    refine (awake_any C _ hT).mono ?_
    rintro e w1 ⟨rfl, hb⟩
    go_wp2_with fail
    refine (C.opens s w1 (by omega) (hT.later hb)).mono ?_
    rintro e w2 ⟨rfl, hb2⟩
    rw [HO.out]
    have hb3 := hb.trans (hb2.mono hb.size)
    clear hb hb2
    go_wp2_with fail
    refine (ropen_any s _ (by omega)).mono ?_
    rintro e w3 ⟨rfl, hb4⟩
    rw [HV.out]
    have hb5 := hb3.trans (hb4.mono hb3.size)
    clear hb3 hb4
    go_wp2_with fail
    refine (HAL.out w3 (hT.later hb5)).mono ?_
    rintro e w4 ⟨v1, rfl, ht1, hb6⟩
    obtain ⟨A1, c1, rfl, hs1⟩ := ht1.opened HSM.out
    have hb7 := hb5.trans (hb6.mono hb5.size)
    have HS1 := Lib.hid hs1
    clear hb5 hb6 ht1 hs1
    go_wp2_with fail
    refine (HRA.out w4).mono ?_
    rintro e w5 ⟨v2, rfl, ht2, hb8⟩
    obtain ⟨A2, c2, rfl, hs2⟩ := ht2.opened HSM.out
    have hb9 := hb7.trans (hb8.mono hb7.size)
    have HS2 := Lib.hid hs2
    have HS3 := Lib.hid (HS1.out.later hb8)
    clear hb7 hb8 ht2 hs2
    go_wp2_with fail
    refine (same_yes A1 A2 TS c1 c2 w5 HS3.out HS2.out HFN.out).mono ?_
    rintro e w6 ⟨rfl, hb10⟩
    have hb11 := hb9.trans (hb10.mono hb9.size)
    clear hb9 hb10
    go_wp2_with fail
    go_returns
    exact ⟨rfl, hb11⟩

theorem opened {H : Type} {enc : TypeId × Value → H} {W : World} {base : Nat} {gs : List (DataW H)} (v0 : Value) (d0 : DataW H) (p0 : List MemPlace)
    (o0 : Value.okWide Tryd.prog W .any base 9 v0) (t0 : DataW.Trod enc Tryd.prog W 0 (fun _ => true) true 9 v0 d0 p0)
    (hsz : (DataW.weightsEach Tryd.prog ([9] ++ []) ([d0] ++ gs)).all (· ≤ reachBytes) = true) (hT : Tab W) :
    Calls Tryd.prog 4 #[v0] W fun e W' => e = .returned (.bool true) ∧ Below W.heap.size W W' := by
  obtain ⟨s, rfl, rfl, rfl, _⟩ := Go.ChangeMaps.open_string Tryd.underlying9 o0 t0
  have hs : s.size ≤ 140737488355328 := by
    have h2 := (Base.small_of hsz (j := 0) (t := 9) (d := .lit (.string s.data.toList)) rfl rfl).text
    rw [toList_size] at h2
    omega
  by_cases h : 9000 < s.size
  · exact walk_long code s W hT hs h
  · exact walk code s W hT (by omega)

theorem contract (H : Type) (enc : TypeId × Value → H) (W : World) (base : Nat) (args : Array Value) (ds gs : List (DataW H)) (before : List MemPlace)
    (hval : ∀ (j : Nat) t v, Tryd.f4.params[j]? = some t → args[j]? = some v → Value.okWide Tryd.prog W .any base t v)
    (hW : DataW.Whole enc Tryd.prog Tryd.f4.params.toList Rows.frameOpensSpec.vars false W args.toList ds gs before)
    (hsz : (DataW.weightsEach Tryd.prog (Tryd.f4.params.toList ++ []) (ds ++ gs)).all (· ≤ reachBytes) = true) (hG : Tab W) :
    Calls Tryd.prog 4 args W fun e W' => ∃ v, e = .returned v ∧ Rows.frameOpensSpec.post enc Tryd.prog Tryd.f4 false true false false W args v W' := by
  have hW0 := hW
  obtain ⟨p, q, hA0, hV, rfl, _, _⟩ := hW
  have hA : DataW.TrodAll enc Tryd.prog W 0 (fun _ => true) true Tryd.f4.params.toList args.toList ds p := hA0
  rw [Tryd.params4] at hA hval hsz
  obtain ⟨v0, vs0, d0, ds0, p0, q0, hargs, rfl, rfl, h0, r0⟩ := trodAll_cons hA
  obtain ⟨rfl, rfl, rfl⟩ := trodAll_nil r0
  obtain rfl : args = #[v0] := by cases args; simp_all
  refine (opened v0 d0 p0 (hval 0 9 v0 rfl rfl) h0 hsz hG).mono fun e W' ⟨he, hb⟩ => ⟨_, he, ?_⟩
  exact Base.law_post (tb := 4) Base.laidOut (by kernel_rfl) rfl Tryd.underlying4 rfl (fun l hl => by
    rw [Tryd.params4] at hl
    match l, hl with
    | [_], _ => rfl) (by rw [Tryd.params4]; rfl) hW0 hb

theorem laid_met (os : Os) : laidMet Tryd.prog Rows.frameOpensRow.laid ((laidWorld os).forCall (fun _ _ => 0) ⟨#[], #[.string ⟨#[]⟩], []⟩).memory :=
  laidMet_of_run' 8 (by kernel_rfl) (by kernel_rfl)
theorem reads (os : Os) {H : Type} (enc : TypeId × Value → H) : ∃ places, DataW.whole enc Tryd.prog ((laidWorld os).forCall (fun _ _ => 0) ⟨#[], #[.string ⟨#[]⟩], []⟩).memory Tryd.f4.params.toList Rows.frameOpensSpec.vars false (#[.string ⟨#[]⟩] : Array Value).toList 8 = some ([.lit (.string [])], [], places) :=
  ⟨[], by kernel_rfl⟩

set_option maxRecDepth 100000 in
theorem lifted (os : Os) (started : os.Started) (H : Type) (enc : TypeId × Value → H) (F : Stop.Interp) :
    ReturnsInHanded {} Tryd.checked os 4 .any ((OpenSpec.ofChange Rows.frameOpensSpec).preRow enc Tryd.prog Tryd.f4 Rows.frameOpensRow.domain false Rows.frameOpensRow.laid) (((OpenSpec.ofChange Rows.frameOpensSpec).at F).post enc Tryd.prog Tryd.f4 false true false false) := by
  obtain ⟨places, hx⟩ := reads os enc
  refine returnsInHanded_of_row (C := Tryd.checked) (s := OpenSpec.ofChange Rows.frameOpensSpec) Base.own started (by kernel_rfl) Tryd.func4
    (witness_row_at (enc := enc) (C := Tryd.checked) false (laidWorld os) #[.string ⟨#[]⟩] rfl (by kernel_rfl) (by kernel_rfl) (by kernel_rfl)
      (OpenSpec.preRow_of_cond 8 hx (by kernel_rfl) (fun k hk => by cases hk) (by kernel_rfl) (laid_met os))) ?_
  intro W base args ds gs before hval hW _ _ hsz hL _ _
  exact contract H enc W base args ds gs before hval hW hsz (table hL)

theorem said : Rows.FrameOpensSaid :=
  OpenClaim.holds_of_cond 4 Tryd.f4 rfl rfl rfl rfl rfl rfl rfl ⟨rfl, rfl, rfl, rfl, rfl⟩ rfl rfl rfl rfl rfl (by kernel_rfl) Tryd.func4 (by kernel_rfl)
    (of_decide_eq_true (by kernel_rfl)) (by unfold Func.isWrapper; rw [if_neg (of_decide_eq_false (by kernel_rfl))]; exact ⟨rfl, rfl⟩)
    (fun os started H enc _ F => by rw [OpenClaim.pre_eq_preRow]; exact lifted os started H enc F)

theorem plain (f : FuncId) (fn : Func) (hf : Tryd.pinned.checked.prog.funcNamed "remuda/remudalaw03.FrameOpens" = some f) (hfn : Tryd.pinned.checked.prog.funcs[f]? = some fn) :
    false = Tryd.pinned.checked.prog.looks [] ∧ ∀ (j : Nat) t, fn.params[j]? = some t → Tryd.pinned.checked.prog.wantsStandIn t = false := by
  obtain rfl : f = 4 := Option.some.inj ((show Tryd.prog.funcNamed "remuda/remudalaw03.FrameOpens" = some 4 by kernel_rfl).symm.trans hf) |>.symm
  obtain rfl : fn = Tryd.f4 := (Option.some.inj (Tryd.func4.symm.trans hfn)).symm
  refine ⟨by kernel_rfl, fun j t ht => ?_⟩
  have hall : Tryd.f4.params.toList.all (fun t => !(Tryd.prog.wantsStandIn t)) = true := by kernel_rfl
  have hm : t ∈ Tryd.f4.params.toList := by simpa using Array.mem_of_getElem? ht
  have h := List.all_eq_true.1 hall t hm
  exact (by simpa using h : Tryd.prog.wantsStandIn t = false)

theorem card : Rows.FrameOpensCardSaid :=
  Claim7.holds_tied_plain_at .later [] _ _ _ _ said (fun _ h => by cases h) (by kernel_rfl) (fun _ h => by cases h) frameOpens_row_tie rfl ⟨rfl, rfl⟩ (by kernel_rfl) rfl plain (by kernel_rfl)
#print axioms card
end Go.Proofs.YtcbmbajlmcoldaaDoor.FrameOpens
