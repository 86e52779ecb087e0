/-
  DiskAgain is proved: behind a crash another one, whatever it keeps, changes nothing; what is put then is put behind what was kept. Conditions: none.
-/
import Derived.Test.YtgljeocpegfbfaaDiskImpl
import Derived.Test.YtgljeocpegfbfaaDiskLaw
namespace Go.Proofs.Ytgljeocpegfbfaa.DiskAgain
open Go.ChangeShapes Go.WideShapes Go.ChangeAt Go.RowKit Go.Proofs.Ytgljeocpegfbfaa.Mem Go.Proofs.Ytgljeocpegfbfaa.Disk

/-- A law's Off in block b. -/
abbrev offs (f k : Int) : List Value := [.int .i64 f, .int .i64 k]

set_option maxHeartbeats 1000000 in
theorem walk_great (C : Does) (A B : Option Addr) (ss ts : List ByteArray) (c d : Nat) (f k : Int) (w : World) (hs : Strs w A ss) (ht : Strs w B ts) (hA : Cap A ss.length c) (hB : Cap B ts.length d) (hl : ss.length ≤ maxLen) (hl2 : ts.length ≤ maxLen)
    (h : small [⟨0, 0, A, c, ss⟩, ⟨0, 0, B, d, ts⟩] = false) :
    Calls Try.prog 6 #[.slice A ss.length c, .slice B ts.length d, .agg #[.int .i64 f, .int .i64 k]] w fun e w' => e = .returned (.bool true) ∧ Below w.heap.size w w' := by
  have HS := Lib.hid hs
  have HT := Lib.hid ht
  have HA := Lib.hid hA
  have HB := Lib.hid hB
  have HG := Lib.hid h
  have HX := Lib.hid (below_alloc w (.cells #[.int .i64 f, .int .i64 k] 47))
  clear hs ht hA hB h
  go_enter Try.func6, Try.ntmps6
  go_wp2_with fail
  refine (awake_any C _).mono ?_
  rintro e w1 ⟨rfl, hb⟩
  have HB1 := Lib.hid (HX.out.trans (hb.mono HX.out.size))
  clear hb
  go_wp2_with fail
  have hops := ops_two w1 A B ss ts c d (HS.out.later HB1.out) (HT.out.later HB1.out) HA.out HB.out hl hl2
  refine (great_any _ _ 2 _ hops (show 2 ≤ maxLen by decide)).mono ?_
  rintro e w2 ⟨rfl, hb2⟩
  rw [HG.out]
  have hb3 := (HB1.out.alloc HB1.out.size (.cells #[.int .i64 0, .int .i64 0, .slice A ss.length c, .int .i64 0, .int .i64 0, .slice B ts.length d] 33))
  have hb4 := hb3.trans (hb2.mono hb3.size)
  clear hb2 hb3 hops
  go_wp2_with fail
  go_returns
  exact ⟨rfl, hb4⟩

set_option maxHeartbeats 4000000 in
theorem walk (C : Does) (A B : Option Addr) (ss ts : List ByteArray) (c d : Nat) (f k : Int) (w : World) (hs : Strs w A ss) (ht : Strs w B ts) (hA : Cap A ss.length c) (hB : Cap B ts.length d)
    (hf : -9223372036854775808 ≤ f ∧ f ≤ 9223372036854775807) (hk : -9223372036854775808 ≤ k ∧ k ≤ 9223372036854775807) (hl : ss.length ≤ 20) (hl2 : ts.length ≤ 20) (hz : (cat ss).length + (cat ts).length ≤ 3000) :
    Calls Try.prog 6 #[.slice A ss.length c, .slice B ts.length d, .agg #[.int .i64 f, .int .i64 k]] w fun e w' => e = .returned (.bool true) ∧ Below w.heap.size w w' := by
  have HS := Lib.hid hs
  have HT := Lib.hid ht
  have HA := Lib.hid hA
  have HB := Lib.hid hB
  have HG := Lib.hid (show small [⟨0, 0, A, c, ss⟩, ⟨0, 0, B, d, ts⟩] = true by rw [small_two]; exact decide_eq_true ⟨hl, hl2, hz⟩)
  have HX := Lib.hid (below_alloc w (.cells #[.int .i64 f, .int .i64 k] 47))
  have HXC := Lib.hid (cells_new w 47 (offs f k) #[.int .i64 f, .int .i64 k] rfl)
  have HK := Lib.hid hk
  have HF := Lib.hid hf
  clear hs ht hA hB hk hf
  go_enter Try.func6, Try.ntmps6
  go_wp2_with fail
  refine (awake_any C _).mono ?_
  rintro e w1 ⟨rfl, hb⟩
  have HB1 := Lib.hid (HX.out.trans (hb.mono HX.out.size))
  have HC1 := Lib.hid (HXC.out.later hb)
  clear hb
  go_wp2_with fail
  have hops := ops_two w1 A B ss ts c d (HS.out.later HB1.out) (HT.out.later HB1.out) HA.out HB.out (by unfold maxLen; omega) (by unfold maxLen; omega)
  refine (great_any _ _ 2 _ hops (show 2 ≤ maxLen by decide)).mono ?_
  rintro e w2 ⟨rfl, hb2⟩
  rw [HG.out]
  have hb3 := below_alloc w1 (.cells #[.int .i64 0, .int .i64 0, .slice A ss.length c, .int .i64 0, .int .i64 0, .slice B ts.length d] 33)
  have hb4 := hb3.trans (hb2.mono hb3.size)
  have HB2 := Lib.hid (HB1.out.trans (hb4.mono HB1.out.size))
  have HC2 := Lib.hid (HC1.out.later hb4)
  clear hb2 hb3 hb4 hops
  go_wp2_with fail
  refine (C.news 65536 w2 w.heap.size HB2.out.size).mono ?_
  rintro e w3 ⟨hx, hb3⟩
  rw [if_neg (by omega)] at hx
  obtain ⟨g, r, rfl, hd, hg1, hr1⟩ := hx
  have hbl := HC2.out.lt
  have H3 : Hid (Both C w w3 g r (empty 65536) w.heap.size 47 (offs f k)) := Lib.hid
    ⟨⟨HB2.out.trans (hb3.mono HB2.out.size), hd, empty_ok _ (by omega)⟩, HC2.out.later hb3, far_new (by omega) fun i hi => by have := hr1 i hi; omega⟩
  clear hd hb3 hg1 hr1 hbl
  unfold at_
  have q0 := H3.out.box.cell (j := 0) rfl
  go_wp2_with fail
  clear q0
  refine (C.fuse f H3.out.has.disk H3.out.has.ok HF.out.1 HF.out.2).mono ?_
  rintro e w4 ⟨rfl, r4, hd4, ht4⟩
  have H4 := Lib.hid (H3.out.next ht4 hd4 (fuseS_ok H3.out.has.ok f HF.out.2))
  clear hd4 ht4
  go_wp2_with fail
  refine (C.append A ss c H4.out.has.disk H4.out.has.ok (HS.out.later H4.out.has.below) (by omega) (by omega) HA.out).mono ?_
  rintro e w5 ⟨rfl, r5, hd5, ht5⟩
  have H5 := Lib.hid (H4.out.next ht5 hd5 (appendS_ok H4.out.has.ok _))
  clear hd5 ht5
  have hbz : (appendS (fuseS (empty 65536) f) (cat ss)).2.b.length ≤ (cat ss).length := by
    unfold appendS
    rw [if_neg (by simp [fuseS, empty]), if_neg (by show ¬ 65536 < ([] : List UInt8).length + (cat ss).length; simp; omega)]
    show (([] : List UInt8) ++ (cat ss).take _).length ≤ _
    rw [List.nil_append, List.length_take]
    omega
  have hsz : (appendS (fuseS (empty 65536) f) (cat ss)).2.size = 65536 := by
    unfold appendS
    split
    · rfl
    split
    · rfl
    · rfl
  generalize (appendS (fuseS (empty 65536) f) (cat ss)).2 = a1 at *
  have q1 := H5.out.box.cell (j := 1) rfl
  go_wp2_with fail
  clear q1
  refine (C.crash k H5.out.has.disk H5.out.has.ok HK.out.1 HK.out.2).mono ?_
  rintro e w6 ⟨rfl, r6, hd6, ht6⟩
  have H6 := Lib.hid (H5.out.next ht6 hd6 (crashS_ok H5.out.has.ok k))
  have hkl := kept_le H5.out.has.ok k
  have hcb : (crashS a1 k).b.length = (crashS a1 k).safe := by show (a1.b.take (kept a1 k)).length = kept a1 k; rw [List.length_take]; omega
  have hcl : (crashS a1 k).b.length ≤ 3000 := by show (a1.b.take (kept a1 k)).length ≤ 3000; rw [List.length_take]; omega
  have hcz : (crashS a1 k).size = 65536 := hsz
  have hcd : (crashS a1 k).down = false := rfl
  have hcf : (crashS a1 k).fuse = -1 := rfl
  have HTW := Lib.hid (crash_twice H5.out.has.ok k f)
  clear hd6 ht6 hkl hbz hsz
  generalize crashS a1 k = c1 at *
  go_wp2_with fail
  refine (C.bytes H6.out.has.disk H6.out.has.ok).mono ?_
  rintro e w7 ⟨rfl, rfl⟩
  have q0 := H6.out.box.cell (j := 0) rfl
  go_wp2_with fail
  clear q0
  refine (C.crash f H6.out.has.disk H6.out.has.ok HF.out.1 HF.out.2).mono ?_
  rintro e w8 ⟨rfl, r8, hd8, ht8⟩
  have H8 := Lib.hid (H6.out.next ht8 hd8 (crashS_ok H6.out.has.ok f))
  rw [HTW.out] at H8
  clear hd8 ht8
  go_wp2_with fail
  refine (C.bytes H8.out.has.disk H8.out.has.ok).mono ?_
  rintro e w9 ⟨rfl, rfl⟩
  have hbs : (ByteArray.mk c1.b.toArray).size = c1.b.length := by show c1.b.toArray.size = _; rw [List.size_toArray]
  go_wp2_with fail
  refine (C.safe H8.out.has.disk H8.out.has.ok).mono ?_
  rintro e w9 ⟨rfl, rfl⟩
  rw [← hcb]
  go_wp2_with fail
  have HAP := Lib.hid (show appendS c1 (cat ts) = (0, { c1 with b := c1.b ++ cat ts }) by
    unfold appendS
    rw [if_neg (by rw [hcd]; decide), if_neg (by omega)]
    have h1 : left c1.fuse (cat ts).length = (cat ts).length := by rw [hcf]; rfl
    rw [h1, if_neg (Nat.lt_irrefl _), List.take_of_length_le (Nat.le_refl _), decide_eq_false (Nat.lt_irrefl _)]
    have h2 : spend c1.fuse (cat ts).length = c1.fuse := by rw [hcf]; rfl
    rw [h2, ← hcd])
  refine (C.append B ts d H8.out.has.disk H8.out.has.ok (HT.out.later H8.out.has.below) (by omega) (by omega) HB.out).mono ?_
  rintro e w10 ⟨rfl, r10, hd10, ht10⟩
  have H10 := Lib.hid (H8.out.next ht10 hd10 (appendS_ok H8.out.has.ok _))
  rw [HAP.out] at H10 ⊢
  clear hd10 ht10
  go_wp2_with fail
  refine (C.bytes H10.out.has.disk H10.out.has.ok).mono ?_
  rintro e w11 ⟨rfl, rfl⟩
  go_wp2_with fail
  refine (joined_any B ts d _ (HT.out.later H10.out.has.below) (by omega) (by omega)).mono ?_
  rintro e w11 ⟨rfl, rfl⟩
  have hap := bytes_app c1.b ⟨(cat ts).toArray⟩
  go_wp2_with fail
  refine (C.sync H10.out.has.disk H10.out.has.ok).mono ?_
  rintro e w12 ⟨rfl, r12, hd12, ht12⟩
  have H12 := Lib.hid (H10.out.next ht12 hd12 (syncS_ok H10.out.has.ok))
  have HSY := Lib.hid (show syncS { c1 with b := c1.b ++ cat ts } = (0, { c1 with b := c1.b ++ cat ts, safe := (c1.b ++ cat ts).length, fuse := spend c1.fuse 1 }) by
    unfold syncS
    rw [if_neg (by rw [hcd]; decide), if_neg (by rw [hcf]; decide)])
  rw [HSY.out] at H12 ⊢
  clear hd12 ht12
  go_wp2_with fail
  refine (C.safe H12.out.has.disk H12.out.has.ok).mono ?_
  rintro e w13 ⟨rfl, rfl⟩
  go_wp2_with fail
  refine (C.bytes H12.out.has.disk H12.out.has.ok).mono ?_
  rintro e w13 ⟨rfl, rfl⟩
  have hbs2 : (ByteArray.mk (c1.b ++ cat ts).toArray).size = (c1.b ++ cat ts).length := by show (c1.b ++ cat ts).toArray.size = _; rw [List.size_toArray]
  go_wp2_with fail
  go_returns
  exact ⟨rfl, H12.out.has.below⟩

theorem opened {H : Type} {enc : TypeId × Value → H} {W : World} {base : Nat} {gs : List (DataW H)} (v0 : Value) (d0 : DataW H) (p0 : List MemPlace) (v1 : Value) (d1 : DataW H) (p1 : List MemPlace) (v2 : Value) (d2 : DataW H) (p2 : List MemPlace)
    (o0 : Value.okWide Try.prog W .any base 31 v0) (t0 : DataW.Trod enc Try.prog W 0 (fun _ => true) true 31 v0 d0 p0)
    (o1 : Value.okWide Try.prog W .any base 31 v1) (t1 : DataW.Trod enc Try.prog W 0 (fun _ => true) true 31 v1 d1 p1)
    (o2 : Value.okWide Try.prog W .any base 47 v2) (t2 : DataW.Trod enc Try.prog W 0 (fun _ => true) true 47 v2 d2 p2)
    (hsz : (DataW.weightsEach Try.prog ([31, 31, 47] ++ []) ([d0, d1, d2] ++ gs)).all (· ≤ reachBytes) = true) :
    Calls Try.prog 6 #[v0, v1, v2] W fun e W' => e = .returned (.bool true) ∧ Below W.heap.size W W' := by
  obtain ⟨A, ss, c, rfl, hs, hm, hA⟩ := open_texts o0 t0 hsz (j := 0) rfl rfl
  obtain ⟨B, ts, d, rfl, ht, hm2, hB⟩ := open_texts o1 t1 hsz (j := 1) rfl rfl
  obtain ⟨f, k, rfl, hf, hk⟩ := open_off o2 t2
  by_cases h : ss.length ≤ 20 ∧ ts.length ≤ 20 ∧ (cat ss).length + (cat ts).length ≤ 3000
  · exact walk code A B ss ts c d f k W hs ht hA hB hf hk h.1 h.2.1 h.2.2
  · exact walk_great code A B ss ts c d f k W hs ht hA hB hm hm2 (by rw [small_two]; exact decide_eq_false h)

theorem contract (H : Type) (enc : TypeId × Value → H) (W : World) (base : Nat) (args : Array Value) (ds gs : List (DataW H)) (before : List MemPlace)
    (hval : ∀ (j : Nat) t v, Try.f6.params[j]? = some t → args[j]? = some v → Value.okWide Try.prog W .any base t v)
    (hW : DataW.Whole enc Try.prog Try.f6.params.toList Rows.diskAgainSpec.vars false W args.toList ds gs before)
    (hsz : (DataW.weightsEach Try.prog (Try.f6.params.toList ++ []) (ds ++ gs)).all (· ≤ reachBytes) = true) :
    Calls Try.prog 6 args W fun e W' => ∃ v, e = .returned v ∧ Rows.diskAgainSpec.post enc Try.prog Try.f6 false true false false W args v W' := by
  have hW0 := hW
  obtain ⟨p, q, hA0, hV, rfl, _, _⟩ := hW
  have hA : DataW.TrodAll enc Try.prog W 0 (fun _ => true) true Try.f6.params.toList args.toList ds p := hA0
  rw [Try.params6] at hA hval hsz
  obtain ⟨v0, vs0, d0, ds0, p0, q0, hargs, rfl, rfl, h0, r0⟩ := trodAll_cons hA
  obtain ⟨v1, vs1, d1, ds1, p1, q1, rfl, rfl, rfl, h1, r1⟩ := trodAll_cons r0
  obtain ⟨v2, vs2, d2, ds2, p2, q2, rfl, rfl, rfl, h2, r2⟩ := trodAll_cons r1
  obtain ⟨rfl, rfl, rfl⟩ := trodAll_nil r2
  obtain rfl : args = #[v0, v1, v2] := by cases args; simp_all
  refine (opened v0 d0 p0 v1 d1 p1 v2 d2 p2 (hval 0 31 v0 rfl rfl) h0 (hval 1 31 v1 rfl rfl) h1 (hval 2 47 v2 rfl rfl) h2 hsz).mono fun e W' ⟨he, hb⟩ => ⟨_, he, ?_⟩
  exact Base.law_post (tb := 4) Base.laidOut (by kernel_rfl) rfl Try.underlying4 rfl (fun l hl => by
    rw [Try.params6] at hl
    match l, hl with
    | [_, _, _], _ => rfl) (by rw [Try.params6]; rfl) hW0 hb

theorem laid_met (os : Os) : laidMet Try.prog Rows.diskAgainRow.laid ((Base.plainWorld os).forCall (fun _ _ => 0) ⟨#[], #[.slice none 0 0, .slice none 0 0, .agg #[.int .i64 0, .int .i64 0]], []⟩).memory := laidMet_nil _ _
theorem reads (os : Os) {H : Type} (enc : TypeId × Value → H) : ∃ places, DataW.whole enc Try.prog ((Base.plainWorld os).forCall (fun _ _ => 0) ⟨#[], #[.slice none 0 0, .slice none 0 0, .agg #[.int .i64 0, .int .i64 0]], []⟩).memory Try.f6.params.toList Rows.diskAgainSpec.vars false (#[.slice none 0 0, .slice none 0 0, .agg #[.int .i64 0, .int .i64 0]] : Array Value).toList 8 = some ([.nil, .nil, .agg [.lit (.int .i64 0), .lit (.int .i64 0)]], [], places) :=
  ⟨[], by kernel_rfl⟩

set_option maxRecDepth 100000 in
theorem lifted (os : Os) (started : os.Started) (H : Type) (enc : TypeId × Value → H) (F : Stop.Interp) :
    ReturnsInHanded {} Try.checked os 6 .any ((OpenSpec.ofChange Rows.diskAgainSpec).preRow enc Try.prog Try.f6 Rows.diskAgainRow.domain false Rows.diskAgainRow.laid) (((OpenSpec.ofChange Rows.diskAgainSpec).at F).post enc Try.prog Try.f6 false true false false) := by
  obtain ⟨places, hx⟩ := reads os enc
  refine returnsInHanded_of_row (C := Try.checked) (s := OpenSpec.ofChange Rows.diskAgainSpec) Base.own started (by kernel_rfl) Try.func6
    (witness_row_at (enc := enc) (C := Try.checked) false (Base.plainWorld os) #[.slice none 0 0, .slice none 0 0, .agg #[.int .i64 0, .int .i64 0]] rfl (by kernel_rfl) (by kernel_rfl) (by kernel_rfl)
      (OpenSpec.preRow_of_cond 8 hx (by kernel_rfl) (fun k hk => by cases hk) (by kernel_rfl) (laid_met os))) ?_
  intro W base args ds gs before hval hW _ _ hsz _ _ _
  exact contract H enc W base args ds gs before hval hW hsz

theorem said : Rows.DiskAgainSaid :=
  OpenClaim.holds_of_cond 6 Try.f6 rfl rfl rfl rfl rfl rfl rfl ⟨rfl, rfl, rfl, rfl, rfl⟩ rfl rfl rfl rfl rfl (by kernel_rfl) Try.func6 (by kernel_rfl)
    (of_decide_eq_true (by kernel_rfl)) (by unfold Func.isWrapper; rw [if_neg (of_decide_eq_false (by kernel_rfl))]; exact ⟨rfl, rfl⟩)
    (fun os started H enc _ F => by rw [OpenClaim.pre_eq_preRow]; exact lifted os started H enc F)
#print axioms said
end Go.Proofs.Ytgljeocpegfbfaa.DiskAgain
