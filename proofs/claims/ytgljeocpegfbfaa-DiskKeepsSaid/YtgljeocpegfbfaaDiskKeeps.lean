/-
  DiskKeeps is proved: behind a crash there is what was safe, and a beginning of what wasn't, however it broke off. Conditions: none.
-/
import Derived.Test.YtgljeocpegfbfaaDiskImpl
import Derived.Test.YtgljeocpegfbfaaDiskLaw
namespace Go.Proofs.Ytgljeocpegfbfaa.DiskKeeps
open Go.ChangeShapes Go.WideShapes Go.ChangeAt Go.RowKit Go.Proofs.Ytgljeocpegfbfaa.Mem Go.Proofs.Ytgljeocpegfbfaa.Disk

/-- A law's Off in block b. -/
abbrev offs (f k : Int) : List Value := [.int .i64 f, .int .i64 k]

set_option maxHeartbeats 1000000 in
theorem walk_great (C : Does) (A B : Option Addr) (ss ts : List ByteArray) (c d : Nat) (f k : Int) (w : World) (hs : Strs w A ss) (ht : Strs w B ts) (hA : Cap A ss.length c) (hB : Cap B ts.length d) (hl : ss.length ≤ maxLen) (hl2 : ts.length ≤ maxLen)
    (h : small [⟨0, 0, A, c, ss⟩, ⟨0, 0, B, d, ts⟩] = false) :
    Calls Try.prog 4 #[.slice A ss.length c, .slice B ts.length d, .agg #[.int .i64 f, .int .i64 k]] w fun e w' => e = .returned (.bool true) ∧ Below w.heap.size w w' := by
  have HS := Lib.hid hs
  have HT := Lib.hid ht
  have HA := Lib.hid hA
  have HB := Lib.hid hB
  have HG := Lib.hid h
  have HX := Lib.hid (below_alloc w (.cells #[.int .i64 f, .int .i64 k] 47))
  clear hs ht hA hB h
  go_enter Try.func4, Try.ntmps4
  go_wp2_with fail
  refine (awake_any C _).mono ?_
  rintro e w1 ⟨rfl, hb⟩
  have HB1 := Lib.hid (HX.out.trans (hb.mono HX.out.size))
  clear hb
  go_wp2_with fail
  have hops := ops_two w1 A B ss ts c d (HS.out.later HB1.out) (HT.out.later HB1.out) HA.out HB.out hl hl2
  refine (great_any _ _ 2 _ hops (show 2 ≤ maxLen by decide)).mono ?_
  rintro e w2 ⟨rfl, hb2⟩
  rw [HG.out]
  have hb3 := (HB1.out.alloc HB1.out.size (.cells #[.int .i64 0, .int .i64 0, .slice A ss.length c, .int .i64 0, .int .i64 0, .slice B ts.length d] 33))
  have hb4 := hb3.trans (hb2.mono hb3.size)
  clear hb2 hb3 hops
  go_wp2_with fail
  go_returns
  exact ⟨rfl, hb4⟩

set_option maxHeartbeats 4000000 in
theorem walk (C : Does) (A B : Option Addr) (ss ts : List ByteArray) (c d : Nat) (f k : Int) (w : World) (hs : Strs w A ss) (ht : Strs w B ts) (hA : Cap A ss.length c) (hB : Cap B ts.length d)
    (hf : -9223372036854775808 ≤ f ∧ f ≤ 9223372036854775807) (hk : -9223372036854775808 ≤ k ∧ k ≤ 9223372036854775807) (hl : ss.length ≤ 20) (hl2 : ts.length ≤ 20) (hz : (cat ss).length + (cat ts).length ≤ 3000) :
    Calls Try.prog 4 #[.slice A ss.length c, .slice B ts.length d, .agg #[.int .i64 f, .int .i64 k]] w fun e w' => e = .returned (.bool true) ∧ Below w.heap.size w w' := by
  have HS := Lib.hid hs
  have HT := Lib.hid ht
  have HA := Lib.hid hA
  have HB := Lib.hid hB
  have HG := Lib.hid (show small [⟨0, 0, A, c, ss⟩, ⟨0, 0, B, d, ts⟩] = true by rw [small_two]; exact decide_eq_true ⟨hl, hl2, hz⟩)
  have HX := Lib.hid (below_alloc w (.cells #[.int .i64 f, .int .i64 k] 47))
  have HXC := Lib.hid (cells_new w 47 (offs f k) #[.int .i64 f, .int .i64 k] rfl)
  have HK := Lib.hid hk
  have HF := Lib.hid hf
  clear hs ht hA hB hk hf
  go_enter Try.func4, Try.ntmps4
  go_wp2_with fail
  refine (awake_any C _).mono ?_
  rintro e w1 ⟨rfl, hb⟩
  have HB1 := Lib.hid (HX.out.trans (hb.mono HX.out.size))
  have HC1 := Lib.hid (HXC.out.later hb)
  clear hb
  go_wp2_with fail
  have hops := ops_two w1 A B ss ts c d (HS.out.later HB1.out) (HT.out.later HB1.out) HA.out HB.out (by unfold maxLen; omega) (by unfold maxLen; omega)
  refine (great_any _ _ 2 _ hops (show 2 ≤ maxLen by decide)).mono ?_
  rintro e w2 ⟨rfl, hb2⟩
  rw [HG.out]
  have hb3 := below_alloc w1 (.cells #[.int .i64 0, .int .i64 0, .slice A ss.length c, .int .i64 0, .int .i64 0, .slice B ts.length d] 33)
  have hb4 := hb3.trans (hb2.mono hb3.size)
  have HB2 := Lib.hid (HB1.out.trans (hb4.mono HB1.out.size))
  have HC2 := Lib.hid (HC1.out.later hb4)
  clear hb2 hb3 hb4 hops
  go_wp2_with fail
  refine (C.news 65536 w2 w.heap.size HB2.out.size).mono ?_
  rintro e w3 ⟨hx, hb3⟩
  rw [if_neg (by omega)] at hx
  obtain ⟨g, r, rfl, hd, hg1, hr1⟩ := hx
  have hbl := HC2.out.lt
  have H3 : Hid (Both C w w3 g r (empty 65536) w.heap.size 47 (offs f k)) := Lib.hid
    ⟨⟨HB2.out.trans (hb3.mono HB2.out.size), hd, empty_ok _ (by omega)⟩, HC2.out.later hb3, far_new (by omega) fun i hi => by have := hr1 i hi; omega⟩
  clear hd hb3 hg1 hr1 hbl
  unfold at_
  go_wp2_with fail
  have E1 := Lib.hid (show appendS (empty 65536) (cat ss) = (0, ⟨cat ss, 0, 65536, -1, false⟩) by
    unfold appendS
    rw [if_neg (by simp [empty]), if_neg (by show ¬ 65536 < ([] : List UInt8).length + (cat ss).length; simp; omega)]
    have h1 : left (empty 65536).fuse (cat ss).length = (cat ss).length := rfl
    rw [h1, if_neg (Nat.lt_irrefl _), List.take_of_length_le (Nat.le_refl _), decide_eq_false (Nat.lt_irrefl _)]
    rfl)
  have E2 := Lib.hid (show syncS ⟨cat ss, 0, 65536, -1, false⟩ = (0, ⟨cat ss, (cat ss).length, 65536, -1, false⟩) from rfl)
  refine (C.append A ss c H3.out.has.disk H3.out.has.ok (HS.out.later H3.out.has.below) (by omega) (by omega) HA.out).mono ?_
  rintro e w4 ⟨rfl, r4, hd4, ht4⟩
  have H4 := Lib.hid (H3.out.next ht4 hd4 (appendS_ok H3.out.has.ok _))
  rw [E1.out] at H4 ⊢
  clear hd4 ht4
  go_wp2_with fail
  refine (C.sync H4.out.has.disk H4.out.has.ok).mono ?_
  rintro e w5 ⟨rfl, r5, hd5, ht5⟩
  have H5 := Lib.hid (H4.out.next ht5 hd5 (syncS_ok H4.out.has.ok))
  rw [E2.out] at H5 ⊢
  clear hd5 ht5
  have q0 := H5.out.box.cell (j := 0) rfl
  go_wp2_with fail
  clear q0
  refine (C.fuse f H5.out.has.disk H5.out.has.ok HF.out.1 HF.out.2).mono ?_
  rintro e w6 ⟨rfl, r6, hd6, ht6⟩
  have H6 := Lib.hid (H5.out.next ht6 hd6 (fuseS_ok H5.out.has.ok f HF.out.2))
  clear hd6 ht6
  obtain ⟨q, fu, dn, er, hcase, hE⟩ : ∃ (q : Nat) (fu : Int) (dn : Bool) (er : Int), (er = 7 ∧ q < (cat ts).length ∨ er = 0 ∧ q = (cat ts).length) ∧ appendS (fuseS ⟨cat ss, (cat ss).length, 65536, -1, false⟩ f) (cat ts) = (er, ⟨cat ss ++ (cat ts).take q, (cat ss).length, 65536, fu, dn⟩) := by
    have hq := left_le (fuseS ⟨cat ss, (cat ss).length, 65536, -1, false⟩ f).fuse (cat ts).length
    refine ⟨left (fuseS ⟨cat ss, (cat ss).length, 65536, -1, false⟩ f).fuse (cat ts).length, spend (fuseS ⟨cat ss, (cat ss).length, 65536, -1, false⟩ f).fuse (left (fuseS ⟨cat ss, (cat ss).length, 65536, -1, false⟩ f).fuse (cat ts).length), decide (left (fuseS ⟨cat ss, (cat ss).length, 65536, -1, false⟩ f).fuse (cat ts).length < (cat ts).length), if left (fuseS ⟨cat ss, (cat ss).length, 65536, -1, false⟩ f).fuse (cat ts).length < (cat ts).length then 7 else 0, ?_, ?_⟩
    · split
      · exact Or.inl ⟨rfl, by assumption⟩
      · exact Or.inr ⟨rfl, by omega⟩
    · unfold appendS
      rw [if_neg (by simp [fuseS]), if_neg (by show ¬ 65536 < (cat ss).length + (cat ts).length; omega)]
      rfl
  have HE := Lib.hid hE
  clear hE
  have hq : q ≤ (cat ts).length := by omega
  rcases hcase with ⟨rfl, hqt⟩ | ⟨rfl, hqt⟩
  all_goals
    go_wp2_with fail
    refine (C.append B ts d H6.out.has.disk H6.out.has.ok (HT.out.later H6.out.has.below) (by omega) (by omega) HB.out).mono ?_
    rintro e w7 ⟨rfl, r7, hd7, ht7⟩
    have H7 := Lib.hid (H6.out.next ht7 hd7 (appendS_ok H6.out.has.ok _))
    rw [HE.out] at H7 ⊢
    clear hd7 ht7
    go_wp2_with fail
    refine (joined_any A ss c w7 (HS.out.later H7.out.has.below) (by omega) (by omega)).mono ?_
    rintro e w8 ⟨rfl, rfl⟩
    go_wp2_with fail
    refine (joined_any A ss c w7 (HS.out.later H7.out.has.below) (by omega) (by omega)).mono ?_
    rintro e w8 ⟨rfl, rfl⟩
    go_wp2_with fail
    refine (joined_any B ts d w7 (HT.out.later H7.out.has.below) (by omega) (by omega)).mono ?_
    rintro e w8 ⟨rfl, rfl⟩
    have hap := bytes_app (cat ss) ⟨(cat ts).toArray⟩
    go_wp2_with fail
    refine (C.bytes H7.out.has.disk H7.out.has.ok).mono ?_
    rintro e w8 ⟨rfl, rfl⟩
    clear hap
    have q1 := H7.out.box.cell (j := 1) rfl
    go_wp2_with fail
    clear q1
    refine (C.crash k H7.out.has.disk H7.out.has.ok HK.out.1 HK.out.2).mono ?_
    rintro e w8 ⟨rfl, r8, hd8, ht8⟩
    have H8 := Lib.hid (H7.out.next ht8 hd8 (crashS_ok H7.out.has.ok k))
    have hkl := kept_le H7.out.has.ok k
    have hkg : (cat ss).length ≤ kept ⟨cat ss ++ (cat ts).take q, (cat ss).length, 65536, fu, dn⟩ k := Nat.le_add_right _ _
    have HCR := Lib.hid (show crashS ⟨cat ss ++ (cat ts).take q, (cat ss).length, 65536, fu, dn⟩ k = ⟨(cat ss ++ (cat ts).take q).take (kept ⟨cat ss ++ (cat ts).take q, (cat ss).length, 65536, fu, dn⟩ k), kept ⟨cat ss ++ (cat ts).take q, (cat ss).length, 65536, fu, dn⟩ k, 65536, -1, false⟩ from rfl)
    rw [HCR.out] at H8
    generalize kept ⟨cat ss ++ (cat ts).take q, (cat ss).length, 65536, fu, dn⟩ k = m at *
    simp only at hkl
    clear hd8 ht8
    have hwl : (cat ss ++ (cat ts).take q).length = (cat ss).length + q := by rw [List.length_append, List.length_take]; omega
    have hxt : (ByteArray.mk (cat ss ++ cat ts).toArray).extract 0 ((cat ss).length + q) = ⟨(cat ss ++ (cat ts).take q).toArray⟩ := by
      apply ByteArray.ext
      rw [ByteArray.data_extract]
      apply Array.ext'
      simp
      rw [List.take_add, List.take_left, List.drop_left]
    have hxm : (ByteArray.mk (cat ss ++ (cat ts).take q).toArray).extract 0 m = ⟨((cat ss ++ (cat ts).take q).take m).toArray⟩ := by
      apply ByteArray.ext
      rw [ByteArray.data_extract]
      apply Array.ext'
      simp
    have hs1 : (ByteArray.mk (cat ss ++ cat ts).toArray).size = (cat ss).length + (cat ts).length := by show (cat ss ++ cat ts).toArray.size = _; rw [List.size_toArray, List.length_append]
    have hs2 : (ByteArray.mk (cat ss ++ (cat ts).take q).toArray).size = (cat ss).length + q := by show (cat ss ++ (cat ts).take q).toArray.size = _; rw [List.size_toArray, hwl]
    have hs3 : (ByteArray.mk (cat ss).toArray).size = (cat ss).length := by show (cat ss).toArray.size = _; rw [List.size_toArray]
    have hs4 : (ByteArray.mk ((cat ss ++ (cat ts).take q).take m).toArray).size = m := by show ((cat ss ++ (cat ts).take q).take m).toArray.size = _; rw [List.size_toArray, List.length_take]; omega
    have hfull : q = (cat ts).length → ByteArray.mk (cat ss ++ (cat ts).take q).toArray = ⟨(cat ss ++ cat ts).toArray⟩ := fun e => by rw [e, List.take_of_length_le (Nat.le_refl _)]
    have hm : m ≤ (cat ss).length + q := by omega
    clear hkl hwl
    have HFU := Lib.hid hfull
    clear hfull
    generalize ByteArray.mk (cat ss ++ cat ts).toArray = SB at *
    generalize hWd : ByteArray.mk (cat ss ++ (cat ts).take q).toArray = SW at *
    generalize hMd : ByteArray.mk ((cat ss ++ (cat ts).take q).take m).toArray = SM at *
    have HMd := Lib.hid hMd
    clear hWd hMd
    generalize ByteArray.mk (cat ss).toArray = SA at *
  · go_wp2_with fail
    refine (C.bytes H8.out.has.disk H8.out.has.ok).mono ?_
    rintro e w9 ⟨rfl, rfl⟩
    simp only [HMd.out]
    go_wp2_with fail
    refine (C.down H8.out.has.disk H8.out.has.ok).mono ?_
    rintro e w9 ⟨rfl, rfl⟩
    go_wp2_with fail
    refine (C.safe H8.out.has.disk H8.out.has.ok).mono ?_
    rintro e w9 ⟨rfl, rfl⟩
    go_wp2_with fail
    go_returns
    exact ⟨rfl, H8.out.has.below⟩
  · obtain rfl : SW = SB := HFU.out hqt
    clear hs1 hqt
    go_wp2_with fail
    refine (C.bytes H8.out.has.disk H8.out.has.ok).mono ?_
    rintro e w9 ⟨rfl, rfl⟩
    simp only [HMd.out]
    go_wp2_with fail
    refine (C.down H8.out.has.disk H8.out.has.ok).mono ?_
    rintro e w9 ⟨rfl, rfl⟩
    go_wp2_with fail
    refine (C.safe H8.out.has.disk H8.out.has.ok).mono ?_
    rintro e w9 ⟨rfl, rfl⟩
    go_wp2_with fail
    go_returns
    exact ⟨rfl, H8.out.has.below⟩

theorem opened {H : Type} {enc : TypeId × Value → H} {W : World} {base : Nat} {gs : List (DataW H)} (v0 : Value) (d0 : DataW H) (p0 : List MemPlace) (v1 : Value) (d1 : DataW H) (p1 : List MemPlace) (v2 : Value) (d2 : DataW H) (p2 : List MemPlace)
    (o0 : Value.okWide Try.prog W .any base 31 v0) (t0 : DataW.Trod enc Try.prog W 0 (fun _ => true) true 31 v0 d0 p0)
    (o1 : Value.okWide Try.prog W .any base 31 v1) (t1 : DataW.Trod enc Try.prog W 0 (fun _ => true) true 31 v1 d1 p1)
    (o2 : Value.okWide Try.prog W .any base 47 v2) (t2 : DataW.Trod enc Try.prog W 0 (fun _ => true) true 47 v2 d2 p2)
    (hsz : (DataW.weightsEach Try.prog ([31, 31, 47] ++ []) ([d0, d1, d2] ++ gs)).all (· ≤ reachBytes) = true) :
    Calls Try.prog 4 #[v0, v1, v2] W fun e W' => e = .returned (.bool true) ∧ Below W.heap.size W W' := by
  obtain ⟨A, ss, c, rfl, hs, hm, hA⟩ := open_texts o0 t0 hsz (j := 0) rfl rfl
  obtain ⟨B, ts, d, rfl, ht, hm2, hB⟩ := open_texts o1 t1 hsz (j := 1) rfl rfl
  obtain ⟨f, k, rfl, hf, hk⟩ := open_off o2 t2
  by_cases h : ss.length ≤ 20 ∧ ts.length ≤ 20 ∧ (cat ss).length + (cat ts).length ≤ 3000
  · exact walk code A B ss ts c d f k W hs ht hA hB hf hk h.1 h.2.1 h.2.2
  · exact walk_great code A B ss ts c d f k W hs ht hA hB hm hm2 (by rw [small_two]; exact decide_eq_false h)

theorem contract (H : Type) (enc : TypeId × Value → H) (W : World) (base : Nat) (args : Array Value) (ds gs : List (DataW H)) (before : List MemPlace)
    (hval : ∀ (j : Nat) t v, Try.f4.params[j]? = some t → args[j]? = some v → Value.okWide Try.prog W .any base t v)
    (hW : DataW.Whole enc Try.prog Try.f4.params.toList Rows.diskKeepsSpec.vars false W args.toList ds gs before)
    (hsz : (DataW.weightsEach Try.prog (Try.f4.params.toList ++ []) (ds ++ gs)).all (· ≤ reachBytes) = true) :
    Calls Try.prog 4 args W fun e W' => ∃ v, e = .returned v ∧ Rows.diskKeepsSpec.post enc Try.prog Try.f4 false true false false W args v W' := by
  have hW0 := hW
  obtain ⟨p, q, hA0, hV, rfl, _, _⟩ := hW
  have hA : DataW.TrodAll enc Try.prog W 0 (fun _ => true) true Try.f4.params.toList args.toList ds p := hA0
  rw [Try.params4] at hA hval hsz
  obtain ⟨v0, vs0, d0, ds0, p0, q0, hargs, rfl, rfl, h0, r0⟩ := trodAll_cons hA
  obtain ⟨v1, vs1, d1, ds1, p1, q1, rfl, rfl, rfl, h1, r1⟩ := trodAll_cons r0
  obtain ⟨v2, vs2, d2, ds2, p2, q2, rfl, rfl, rfl, h2, r2⟩ := trodAll_cons r1
  obtain ⟨rfl, rfl, rfl⟩ := trodAll_nil r2
  obtain rfl : args = #[v0, v1, v2] := by cases args; simp_all
  refine (opened v0 d0 p0 v1 d1 p1 v2 d2 p2 (hval 0 31 v0 rfl rfl) h0 (hval 1 31 v1 rfl rfl) h1 (hval 2 47 v2 rfl rfl) h2 hsz).mono fun e W' ⟨he, hb⟩ => ⟨_, he, ?_⟩
  exact Base.law_post (tb := 4) Base.laidOut (by kernel_rfl) rfl Try.underlying4 rfl (fun l hl => by
    rw [Try.params4] at hl
    match l, hl with
    | [_, _, _], _ => rfl) (by rw [Try.params4]; rfl) hW0 hb

theorem laid_met (os : Os) : laidMet Try.prog Rows.diskKeepsRow.laid ((Base.plainWorld os).forCall (fun _ _ => 0) ⟨#[], #[.slice none 0 0, .slice none 0 0, .agg #[.int .i64 0, .int .i64 0]], []⟩).memory := laidMet_nil _ _
theorem reads (os : Os) {H : Type} (enc : TypeId × Value → H) : ∃ places, DataW.whole enc Try.prog ((Base.plainWorld os).forCall (fun _ _ => 0) ⟨#[], #[.slice none 0 0, .slice none 0 0, .agg #[.int .i64 0, .int .i64 0]], []⟩).memory Try.f4.params.toList Rows.diskKeepsSpec.vars false (#[.slice none 0 0, .slice none 0 0, .agg #[.int .i64 0, .int .i64 0]] : Array Value).toList 8 = some ([.nil, .nil, .agg [.lit (.int .i64 0), .lit (.int .i64 0)]], [], places) :=
  ⟨[], by kernel_rfl⟩

set_option maxRecDepth 100000 in
theorem lifted (os : Os) (started : os.Started) (H : Type) (enc : TypeId × Value → H) (F : Stop.Interp) :
    ReturnsInHanded {} Try.checked os 4 .any ((OpenSpec.ofChange Rows.diskKeepsSpec).preRow enc Try.prog Try.f4 Rows.diskKeepsRow.domain false Rows.diskKeepsRow.laid) (((OpenSpec.ofChange Rows.diskKeepsSpec).at F).post enc Try.prog Try.f4 false true false false) := by
  obtain ⟨places, hx⟩ := reads os enc
  refine returnsInHanded_of_row (C := Try.checked) (s := OpenSpec.ofChange Rows.diskKeepsSpec) Base.own started (by kernel_rfl) Try.func4
    (witness_row_at (enc := enc) (C := Try.checked) false (Base.plainWorld os) #[.slice none 0 0, .slice none 0 0, .agg #[.int .i64 0, .int .i64 0]] rfl (by kernel_rfl) (by kernel_rfl) (by kernel_rfl)
      (OpenSpec.preRow_of_cond 8 hx (by kernel_rfl) (fun k hk => by cases hk) (by kernel_rfl) (laid_met os))) ?_
  intro W base args ds gs before hval hW _ _ hsz _ _ _
  exact contract H enc W base args ds gs before hval hW hsz

theorem said : Rows.DiskKeepsSaid :=
  OpenClaim.holds_of_cond 4 Try.f4 rfl rfl rfl rfl rfl rfl rfl ⟨rfl, rfl, rfl, rfl, rfl⟩ rfl rfl rfl rfl rfl (by kernel_rfl) Try.func4 (by kernel_rfl)
    (of_decide_eq_true (by kernel_rfl)) (by unfold Func.isWrapper; rw [if_neg (of_decide_eq_false (by kernel_rfl))]; exact ⟨rfl, rfl⟩)
    (fun os started H enc _ F => by rw [OpenClaim.pre_eq_preRow]; exact lifted os started H enc F)
#print axioms said
end Go.Proofs.Ytgljeocpegfbfaa.DiskKeeps
