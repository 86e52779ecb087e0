/-
  FrameSeals is proved: any texts have the frame that the document says, or none, and are read from it, whatever stands behind. Conditions: the table of half bytes holds what its initialiser lays (tied to the program's text).
-/
import Derived.Test.YtcbmbajlmcoldaaDoorFrameImpl
import Derived.Test.YtcbmbajlmcoldaaDoorFrameLaw
import Derived.Test.YtcbmbajlmcoldaaDoorCards
import Derived.Test.YtcbmbajlmcoldaaDoorTie
namespace Go.Proofs.YtcbmbajlmcoldaaDoor.FrameSeals
open Go.ChangeShapes Go.WideShapes Go.ChangeAt Go.RowKit
open Go.Proofs.YtcbmbajlmcoldaaDoor.Mem Go.Proofs.YtcbmbajlmcoldaaDoor.Crc Go.Proofs.YtcbmbajlmcoldaaDoor.Wire Go.Proofs.YtcbmbajlmcoldaaDoor.Frame

set_option maxHeartbeats 1000000 in
theorem walk_long (C : Does) (A : Option Addr) (ss : List ByteArray) (c : Nat) (m : ByteArray) (w : World) (hT : Tab w) (hs : Strs w A ss) (hm : ss.length ≤ maxLen) (hmz : m.size ≤ 140737488355328) (h : (40 < ss.length ∨ 9000 < (cat ss).length) ∨ 3000 < m.size) :
    Calls Tryd.prog 3 #[.slice A ss.length c, .string m] w fun e w' => e = .returned (.bool true) ∧ Below w.heap.size w w' := by
  by_cases h1 : 40 < ss.length ∨ 9000 < (cat ss).length
  · have H1 := Lib.hid h1
    clear h h1
    go_enter Tryd.func3, Tryd.ntmps3
    go_wp2_with fail
    refine (awake_any C _ hT).mono ?_
    rintro e w1 ⟨rfl, hb⟩
    go_wp2_with fail
    refine (long_yes A ss c w1 (hs.later hb) hm H1.out).mono ?_
    rintro e w2 ⟨rfl, rfl⟩
    go_wp2_with fail
    go_returns
    exact ⟨rfl, hb⟩
  · have h2 := h.resolve_left h1
    have h3 : ss.length ≤ 40 := by omega
    have H4 := Lib.hid (show (cat ss).length ≤ 9000 by omega)
    clear h h1
    go_enter Tryd.func3, Tryd.ntmps3
    go_wp2_with fail
    refine (awake_any C _ hT).mono ?_
    rintro e w1 ⟨rfl, hb⟩
    go_wp2_with fail
    refine (long_no A ss c w1 (hs.later hb) H4.out h3).mono ?_
    rintro e w2 ⟨rfl, rfl⟩
    go_wp2_with fail
    go_returns
    exact ⟨rfl, hb⟩

set_option maxHeartbeats 2000000 in
theorem walk (C : Does) (A : Option Addr) (ss : List ByteArray) (c : Nat) (m : ByteArray) (w : World) (hT : Tab w) (hs : Strs w A ss) (hA : Cap A ss.length c) (hn : ss.length ≤ 40) (hl : (cat ss).length ≤ 9000) (hmz : m.size ≤ 3000) :
    Calls Tryd.prog 3 #[.slice A ss.length c, .string m] w fun e w' => e = .returned (.bool true) ∧ Below w.heap.size w w' := by
  have HL := Lib.hid hl
  have HA := Lib.hid hA
  have hpz : (ByteArray.mk (cat ss).toArray).size = (cat ss).length := by show (cat ss).toArray.size = _; rw [List.size_toArray]
  by_cases h4 : 4096 < (cat ss).length
  · have HE := Lib.hid (show sealE (cat ss) = .tuple #[.string ⟨#[]⟩, .int .i64 5] from if_pos h4)
    have HV := Lib.hid (show sealV ⟨(cat ss).toArray⟩ = .tuple #[.string ⟨#[]⟩, .bool false] from if_pos (by omega))
    have HPZ := Lib.hid hpz
    clear hl hA h4 hpz
    go_enter Tryd.func3, Tryd.ntmps3
    go_wp2_with fail
    refine (awake_any C _ hT).mono ?_
    rintro e w1 ⟨rfl, hb⟩
    go_wp2_with fail
    refine (long_no A ss c w1 (hs.later hb) HL.out hn).mono ?_
    rintro e w2 ⟨rfl, rfl⟩
    go_wp2_with fail
    refine (joined_any A ss c w1 (hs.later hb) (by have := HL.out; omega) (by omega)).mono ?_
    rintro e w2 ⟨rfl, rfl⟩
    go_wp2_with fail
    refine (C.seals A ss c w1 (hs.later hb) (by omega) (by have := HL.out; omega) HA.out (hT.later hb)).mono ?_
    rintro e w2 ⟨rfl, hb2⟩
    rw [HE.out]
    have hb3 := hb.trans (hb2.mono hb.size)
    clear hb hb2
    go_wp2_with fail
    refine (rseal_any ⟨(cat ss).toArray⟩ _ (by have := HL.out; have := HPZ.out; omega)).mono ?_
    rintro e w3 ⟨rfl, hb4⟩
    rw [HV.out]
    have hb5 := hb3.trans (hb4.mono hb3.size)
    clear hb3 hb4
    go_wp2_with fail
    go_returns
    exact ⟨rfl, hb5⟩
  · have HE := Lib.hid (show sealE (cat ss) = .tuple #[.string ⟨(frm (cat ss)).toArray⟩, .int .i64 0] from if_neg h4)
    have HV := Lib.hid (show sealV ⟨(cat ss).toArray⟩ = .tuple #[.string ⟨(frm (cat ss)).toArray⟩, .bool true] from if_neg (by omega))
    have hfl := frm_length (cat ss)
    obtain ⟨e1, e2, e3⟩ := err_frm (cat ss) m.data.toList (by omega)
    have HO := Lib.hid (show openE ⟨(frm (cat ss) ++ m.data.toList).toArray⟩ = .tuple #[.string ⟨(cat ss).toArray⟩, .string m, .int .i64 0] by
      unfold openE
      rw [show (ByteArray.mk (frm (cat ss) ++ m.data.toList).toArray).data.toList = frm (cat ss) ++ m.data.toList from rfl, if_pos e1, e2, e3])
    have hap := bytes_app (frm (cat ss)) m
    have HPZ := Lib.hid hpz
    have hfz : (frm (cat ss)).length ≤ 4102 := by omega
    have HOZ := Lib.hid (show (ByteArray.mk (frm (cat ss) ++ m.data.toList).toArray).size ≤ 1000000 by show (frm (cat ss) ++ m.data.toList).toArray.size ≤ _; rw [List.size_toArray, List.length_append, toList_size]; omega)
    clear hl hA h4 hpz hfl e1 e2 e3
    generalize hF : frm (cat ss) = F at *
    clear hF
    go_enter Tryd.func3, Tryd.ntmps3
    go_wp2_with fail
    refine (awake_any C _ hT).mono ?_
    rintro e w1 ⟨rfl, hb⟩
    go_wp2_with fail
    refine (long_no A ss c w1 (hs.later hb) HL.out hn).mono ?_
    rintro e w2 ⟨rfl, rfl⟩
    go_wp2_with fail
    refine (joined_any A ss c w1 (hs.later hb) (by have := HL.out; omega) (by omega)).mono ?_
    rintro e w2 ⟨rfl, rfl⟩
    go_wp2_with fail
    refine (C.seals A ss c w1 (hs.later hb) (by omega) (by have := HL.out; omega) HA.out (hT.later hb)).mono ?_
    rintro e w2 ⟨rfl, hb2⟩
    rw [HE.out]
    have hb3 := hb.trans (hb2.mono hb.size)
    clear hb hb2
    go_wp2_with fail
    refine (rseal_any ⟨(cat ss).toArray⟩ _ (by have := HL.out; have := HPZ.out; omega)).mono ?_
    rintro e w3 ⟨rfl, hb4⟩
    rw [HV.out]
    have hb5 := hb3.trans (hb4.mono hb3.size)
    clear hb3 hb4
    go_wp2_with fail
    refine (C.opens _ w3 HOZ.out (hT.later hb5)).mono ?_
    rintro e w4 ⟨rfl, hb6⟩
    rw [HO.out]
    have hb7 := hb5.trans (hb6.mono hb5.size)
    clear hb5 hb6
    go_wp2_with fail
    go_returns
    exact ⟨rfl, hb7⟩

theorem opened {H : Type} {enc : TypeId × Value → H} {W : World} {base : Nat} {gs : List (DataW H)} (v0 : Value) (d0 : DataW H) (p0 : List MemPlace) (v1 : Value) (d1 : DataW H) (p1 : List MemPlace)
    (o0 : Value.okWide Tryd.prog W .any base 22 v0) (t0 : DataW.Trod enc Tryd.prog W 0 (fun _ => true) true 22 v0 d0 p0)
    (o1 : Value.okWide Tryd.prog W .any base 9 v1) (t1 : DataW.Trod enc Tryd.prog W 0 (fun _ => true) true 9 v1 d1 p1)
    (hsz : (DataW.weightsEach Tryd.prog ([22, 9] ++ []) ([d0, d1] ++ gs)).all (· ≤ reachBytes) = true) (hT : Tab W) :
    Calls Tryd.prog 3 #[v0, v1] W fun e W' => e = .returned (.bool true) ∧ Below W.heap.size W W' := by
  obtain ⟨A, ss, c, rfl, hs, hm, hA⟩ := open_texts o0 t0 hsz (j := 0) rfl rfl
  obtain ⟨m, rfl, rfl, rfl, _⟩ := Go.ChangeMaps.open_string Tryd.underlying9 o1 t1
  have hmz : m.size ≤ 140737488355328 := by
    have h2 := (Base.small_of hsz (j := 1) (t := 9) (d := .lit (.string m.data.toList)) rfl rfl).text
    rw [toList_size] at h2
    omega
  by_cases h : (40 < ss.length ∨ 9000 < (cat ss).length) ∨ 3000 < m.size
  · exact walk_long code A ss c m W hT hs hm hmz h
  · exact walk code A ss c m W hT hs hA (by omega) (by omega) (by omega)

theorem contract (H : Type) (enc : TypeId × Value → H) (W : World) (base : Nat) (args : Array Value) (ds gs : List (DataW H)) (before : List MemPlace)
    (hval : ∀ (j : Nat) t v, Tryd.f3.params[j]? = some t → args[j]? = some v → Value.okWide Tryd.prog W .any base t v)
    (hW : DataW.Whole enc Tryd.prog Tryd.f3.params.toList Rows.frameSealsSpec.vars false W args.toList ds gs before)
    (hsz : (DataW.weightsEach Tryd.prog (Tryd.f3.params.toList ++ []) (ds ++ gs)).all (· ≤ reachBytes) = true) (hG : Tab W) :
    Calls Tryd.prog 3 args W fun e W' => ∃ v, e = .returned v ∧ Rows.frameSealsSpec.post enc Tryd.prog Tryd.f3 false true false false W args v W' := by
  have hW0 := hW
  obtain ⟨p, q, hA0, hV, rfl, _, _⟩ := hW
  have hA : DataW.TrodAll enc Tryd.prog W 0 (fun _ => true) true Tryd.f3.params.toList args.toList ds p := hA0
  rw [Tryd.params3] at hA hval hsz
  obtain ⟨v0, vs0, d0, ds0, p0, q0, hargs, rfl, rfl, h0, r0⟩ := trodAll_cons hA
  obtain ⟨v1, vs1, d1, ds1, p1, q1, rfl, rfl, rfl, h1, r1⟩ := trodAll_cons r0
  obtain ⟨rfl, rfl, rfl⟩ := trodAll_nil r1
  obtain rfl : args = #[v0, v1] := by cases args; simp_all
  refine (opened v0 d0 p0 v1 d1 p1 (hval 0 22 v0 rfl rfl) h0 (hval 1 9 v1 rfl rfl) h1 hsz hG).mono fun e W' ⟨he, hb⟩ => ⟨_, he, ?_⟩
  exact Base.law_post (tb := 4) Base.laidOut (by kernel_rfl) rfl Tryd.underlying4 rfl (fun l hl => by
    rw [Tryd.params3] at hl
    match l, hl with
    | [_, _], _ => rfl) (by rw [Tryd.params3]; rfl) hW0 hb

theorem laid_met (os : Os) : laidMet Tryd.prog Rows.frameSealsRow.laid ((laidWorld os).forCall (fun _ _ => 0) ⟨#[], #[.slice none 0 0, .string ⟨#[]⟩], []⟩).memory :=
  laidMet_of_run' 8 (by kernel_rfl) (by kernel_rfl)
theorem reads (os : Os) {H : Type} (enc : TypeId × Value → H) : ∃ places, DataW.whole enc Tryd.prog ((laidWorld os).forCall (fun _ _ => 0) ⟨#[], #[.slice none 0 0, .string ⟨#[]⟩], []⟩).memory Tryd.f3.params.toList Rows.frameSealsSpec.vars false (#[.slice none 0 0, .string ⟨#[]⟩] : Array Value).toList 8 = some ([.nil, .lit (.string [])], [], places) :=
  ⟨[], by kernel_rfl⟩

set_option maxRecDepth 100000 in
theorem lifted (os : Os) (started : os.Started) (H : Type) (enc : TypeId × Value → H) (F : Stop.Interp) :
    ReturnsInHanded {} Tryd.checked os 3 .any ((OpenSpec.ofChange Rows.frameSealsSpec).preRow enc Tryd.prog Tryd.f3 Rows.frameSealsRow.domain false Rows.frameSealsRow.laid) (((OpenSpec.ofChange Rows.frameSealsSpec).at F).post enc Tryd.prog Tryd.f3 false true false false) := by
  obtain ⟨places, hx⟩ := reads os enc
  refine returnsInHanded_of_row (C := Tryd.checked) (s := OpenSpec.ofChange Rows.frameSealsSpec) Base.own started (by kernel_rfl) Tryd.func3
    (witness_row_at (enc := enc) (C := Tryd.checked) false (laidWorld os) #[.slice none 0 0, .string ⟨#[]⟩] rfl (by kernel_rfl) (by kernel_rfl) (by kernel_rfl)
      (OpenSpec.preRow_of_cond 8 hx (by kernel_rfl) (fun k hk => by cases hk) (by kernel_rfl) (laid_met os))) ?_
  intro W base args ds gs before hval hW _ _ hsz hL _ _
  exact contract H enc W base args ds gs before hval hW hsz (table hL)

theorem said : Rows.FrameSealsSaid :=
  OpenClaim.holds_of_cond 3 Tryd.f3 rfl rfl rfl rfl rfl rfl rfl ⟨rfl, rfl, rfl, rfl, rfl⟩ rfl rfl rfl rfl rfl (by kernel_rfl) Tryd.func3 (by kernel_rfl)
    (of_decide_eq_true (by kernel_rfl)) (by unfold Func.isWrapper; rw [if_neg (of_decide_eq_false (by kernel_rfl))]; exact ⟨rfl, rfl⟩)
    (fun os started H enc _ F => by rw [OpenClaim.pre_eq_preRow]; exact lifted os started H enc F)

theorem plain (f : FuncId) (fn : Func) (hf : Tryd.pinned.checked.prog.funcNamed "remuda/remudalaw03.FrameSeals" = some f) (hfn : Tryd.pinned.checked.prog.funcs[f]? = some fn) :
    false = Tryd.pinned.checked.prog.looks [] ∧ ∀ (j : Nat) t, fn.params[j]? = some t → Tryd.pinned.checked.prog.wantsStandIn t = false := by
  obtain rfl : f = 3 := Option.some.inj ((show Tryd.prog.funcNamed "remuda/remudalaw03.FrameSeals" = some 3 by kernel_rfl).symm.trans hf) |>.symm
  obtain rfl : fn = Tryd.f3 := (Option.some.inj (Tryd.func3.symm.trans hfn)).symm
  refine ⟨by kernel_rfl, fun j t ht => ?_⟩
  have hall : Tryd.f3.params.toList.all (fun t => !(Tryd.prog.wantsStandIn t)) = true := by kernel_rfl
  have hm : t ∈ Tryd.f3.params.toList := by simpa using Array.mem_of_getElem? ht
  have h := List.all_eq_true.1 hall t hm
  exact (by simpa using h : Tryd.prog.wantsStandIn t = false)

theorem card : Rows.FrameSealsCardSaid :=
  Claim7.holds_tied_plain_at .later [] _ _ _ _ said (fun _ h => by cases h) (by kernel_rfl) (fun _ h => by cases h) frameSeals_row_tie rfl ⟨rfl, rfl⟩ (by kernel_rfl) rfl plain (by kernel_rfl)
#print axioms card
end Go.Proofs.YtcbmbajlmcoldaaDoor.FrameSeals
