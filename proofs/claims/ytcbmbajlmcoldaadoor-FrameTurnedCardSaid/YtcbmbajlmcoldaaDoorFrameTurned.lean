/-
  FrameTurned is proved: a frame that is cut is none; one of which up to four bytes side by side are others isn't one of the same length. Conditions: the table of half bytes holds what its initialiser lays (tied to the program's text).
-/
import Derived.Test.YtcbmbajlmcoldaaDoorFrameImpl
import Derived.Test.YtcbmbajlmcoldaaDoorFrameLaw
import Derived.Test.YtcbmbajlmcoldaaDoorCards
import Derived.Test.YtcbmbajlmcoldaaDoorTie
namespace Go.Proofs.YtcbmbajlmcoldaaDoor.FrameTurned
open Go.ChangeShapes Go.WideShapes Go.ChangeAt Go.RowKit
open Go.Proofs.YtcbmbajlmcoldaaDoor.Mem Go.Proofs.YtcbmbajlmcoldaaDoor.Crc Go.Proofs.YtcbmbajlmcoldaaDoor.Wire Go.Proofs.YtcbmbajlmcoldaaDoor.Frame

set_option maxHeartbeats 1000000 in
theorem walk_long (C : Does) (p : ByteArray) (x y : Int) (w : World) (hT : Tab w) (hs : p.size ≤ 140737488355328) (h : 4096 < p.size) :
    Calls Tryd.prog 5 #[.string p, .int .i64 x, .int .u32 y] w fun e w' => e = .returned (.bool true) ∧ Below w.heap.size w w' := by
  have HE := Lib.hid (show sealE p.data.toList = .tuple #[.string ⟨#[]⟩, .int .i64 5] from if_pos (by rw [toList_size]; exact h))
  go_enter Tryd.func5, Tryd.ntmps5
  go_wp2_with fail
  refine (awake_any C _ hT).mono ?_
  rintro e w1 ⟨rfl, hb⟩
  go_wp2_with fail
  refine (seal_one C p w1 _ hs (hT.later hb)).mono ?_
  rintro e w2 ⟨rfl, hb2⟩
  rw [HE.out]
  have hb3 := hb.trans (hb2.mono hb.size)
  clear hb hb2
  go_wp2_with fail
  go_returns
  exact ⟨rfl, hb3⟩

set_option maxHeartbeats 1000000 in
theorem walk_off (C : Does) (p : ByteArray) (x y : Int) (w : World) (hT : Tab w) (hs : p.size ≤ 4096) (h : x < 0 ∨ (0 ≤ x ∧ ((6 + p.size : Nat) : Int) ≤ x)) :
    Calls Tryd.prog 5 #[.string p, .int .i64 x, .int .u32 y] w fun e w' => e = .returned (.bool true) ∧ Below w.heap.size w w' := by
  have HE := Lib.hid (show sealE p.data.toList = .tuple #[.string ⟨(frm p.data.toList).toArray⟩, .int .i64 0] from if_neg (by rw [toList_size]; omega))
  have hfl := frm_length p.data.toList
  rw [toList_size] at hfl
  generalize frm p.data.toList = F at *
  rcases h with h | ⟨h, h2⟩
  all_goals
    go_enter Tryd.func5, Tryd.ntmps5
    go_wp2_with fail
    refine (awake_any C _ hT).mono ?_
    rintro e w1 ⟨rfl, hb⟩
    go_wp2_with fail
    refine (seal_one C p w1 _ (by omega) (hT.later hb)).mono ?_
    rintro e w2 ⟨rfl, hb2⟩
    rw [HE.out]
    have hb3 := hb.trans (hb2.mono hb.size)
    clear hb hb2
    go_wp2_with fail
    go_returns
    exact ⟨rfl, hb3⟩

theorem xor_zeros : ∀ (l xs : List UInt8), (∀ x ∈ xs, x = 0) → l.length = xs.length → List.zipWith (· ^^^ ·) l xs = l
  | [], _, _, _ => by simp
  | a :: l, [], _, h => by cases h
  | a :: l, x :: xs, h, hl => by
    rw [List.zipWith_cons_cons, h x (List.mem_cons_self ..), xor_zeros l xs (fun y hy => h y (List.mem_cons_of_mem _ hy)) (by simpa using hl)]
    simp
theorem turned_none (l : List UInt8) (at_ : Nat) (xs : List UInt8) (h : at_ + xs.length ≤ l.length) (hx : ∀ x ∈ xs, x = 0) : turned l at_ xs = l := by
  unfold turned
  rw [xor_zeros _ _ hx (by rw [List.length_take, List.length_drop]; omega), ← List.drop_drop, List.append_assoc, List.take_append_drop, List.take_append_drop]

set_option maxHeartbeats 4000000 in
theorem walk (C : Does) (p : ByteArray) (at_ : Nat) (y : BitVec 32) (w : World) (hT : Tab w) (hs : p.size ≤ 4096) (hat : at_ < 6 + p.size) :
    Calls Tryd.prog 5 #[.string p, .int .i64 (at_ : Int), .int .u32 (y.toNat : Int)] w fun e w' => e = .returned (.bool true) ∧ Below w.heap.size w w' := by
  have hp : p.data.toList.length ≤ 4096 := by rw [toList_size]; exact hs
  have HE := Lib.hid (show sealE p.data.toList = .tuple #[.string ⟨(frm p.data.toList).toArray⟩, .int .i64 0] from if_neg (by omega))
  have hfl := frm_length p.data.toList
  rw [toList_size] at hfl
  have hcut := err_cut p.data.toList at_ hp (by omega)
  have hme := err_frm p.data.toList [] hp
  rw [List.append_nil] at hme
  have HTU := Lib.hid (err_turned p.data.toList at_)
  have HME := Lib.hid hme
  clear hme hp
  generalize frm p.data.toList = F at *
  have hex : (ByteArray.mk F.toArray).extract 0 at_ = ⟨(F.take at_).toArray⟩ := ba_ext (by rw [ext_list]; rfl)
  have HC : Hid (∀ w, Tab w → Calls Tryd.prog 12 #[.string ⟨(F.take at_).toArray⟩] w fun e w' => e = .returned (.tuple #[.string ⟨#[]⟩, .string ⟨#[]⟩, .int .i64 (err (F.take at_))]) ∧ Below w.heap.size w w') := Lib.hid fun w hT => by
    have h := C.opens ⟨(F.take at_).toArray⟩ w (by show (F.take at_).toArray.size ≤ _; rw [List.size_toArray, List.length_take]; omega) hT
    unfold openE at h
    rw [show (ByteArray.mk (F.take at_).toArray).data.toList = F.take at_ from rfl, if_neg hcut] at h
    exact h
  have hcx : (err (F.take at_) != 0) = true := by simpa using hcut
  generalize err (F.take at_) = ec at *
  clear hcut
  go_enter Tryd.func5, Tryd.ntmps5
  go_wp2_with fail
  refine (awake_any C _ hT).mono ?_
  rintro e w1 ⟨rfl, hb⟩
  go_wp2_with fail
  refine (seal_one C p w1 _ (by omega) (hT.later hb)).mono ?_
  rintro e w2 ⟨rfl, hb2⟩
  rw [HE.out]
  have hb3 := hb.trans (hb2.mono hb.size)
  clear hb hb2
  go_wp2_with fail
  refine (HC.out w2 (hT.later hb3)).mono ?_
  rintro e w3 ⟨rfl, hb4⟩
  have hb5 := hb3.trans (hb4.mono hb3.size)
  clear hb3 hb4 hex
  have hconv := run_bytes_of_string (P := Tryd.prog) w3 9 41 5 ⟨F.toArray⟩ Tryd.underlying9 Tryd.underlying41 Tryd.underlying5
  have hsz : (ByteArray.mk F.toArray).size = F.length := by show F.toArray.size = _; rw [List.size_toArray]
  rw [hsz] at hconv
  have hC : ∀ j (hj : j < (ByteArray.mk F.toArray).data.size), (bytesRow ⟨F.toArray⟩ (grownCap w3 F.length 0 5))[j]? = some (.int .u8 ((ByteArray.mk F.toArray).data[j].toNat : Int)) := fun j hj => bytesRow_at ⟨F.toArray⟩ _ j hj
  have hN : F.length ≤ (bytesRow ⟨F.toArray⟩ (grownCap w3 F.length 0 5)).size := by simp [bytesRow]
  generalize grownCap w3 F.length 0 5 = cap at hconv hC hN
  generalize bytesRow ⟨F.toArray⟩ cap = R at hconv hC hN
  have hrow : Row (w3.drew.alloc (.cells R 5 (R.size, R.size + 1))) w3.heap.size R.size F := by
    refine ⟨R, heap_alloc_new w3.drew _, rfl, hN, ?_⟩
    intro j u hu
    obtain ⟨hj, he⟩ := List.getElem?_eq_some_iff.1 hu
    rw [hC j (by simpa using hj)]
    have e2 : (ByteArray.mk F.toArray).data[j]'(by simpa using hj) = u := by simpa using he
    rw [e2]
  have HB := Lib.hid (hb5.drew.alloc hb5.size (.cells R 5 (R.size, R.size + 1)))
  have HG := Lib.hid hb5.size
  have HROW := Lib.hid hrow
  clear hC hN hrow hb5 hsz
  go_wp2_with fail
  clear hconv
  go_loopw [13, 14] (fun v8 v9 wr => ∃ k : Nat, k ≤ 4 ∧ at_ + k ≤ F.length ∧ v9 = .int .i64 k ∧ v8 = .bool (chg y k) ∧ Row wr w3.heap.size R.size (turned F at_ (xbs y k)) ∧ Below w.heap.size w wr) (fun _ v9 _ => 4 - (intOf v9).toNat)
  case atStart => exact ⟨0, by omega, by omega, rfl, rfl, by rw [turned_zero]; exact HROW.out, HB.out⟩
  case round =>
    obtain ⟨k, hk, hak, rfl, rfl, hr, hbr⟩ := hrel
    by_cases hgo : k < 4 ∧ at_ + k < F.length
    · obtain ⟨hk4, hks⟩ := hgo
      obtain ⟨u, hu, hset⟩ : ∃ u : UInt8, (turned F at_ (xbs y k))[at_ + k]? = some u ∧ turned F at_ (xbs y (k + 1)) = (turned F at_ (xbs y k)).set (at_ + k) (u ^^^ xb y k) :=
        ⟨_, turned_next F at_ k y (by omega), turned_succ F at_ k y (by omega)⟩
      have hcell := hr.cell hu
      have HS := Lib.hid hset
      have hfz := hr.frozen (j := at_ + k) (by rw [turned_length _ _ _ _ (by omega)]; omega)
      have HR := Lib.hid hr
      have HBR := Lib.hid hbr
      clear hr hbr hset hu
      have hx1 := xb_is y k
      have hx2 := bits_xor8 u (xb y k)
      have hx3 := xb_test y k
      go_wp2_with fail
      all_goals
        go_roundw
        case rel => exact ⟨k + 1, by omega, by omega, by go_num, by simp [chg, *], by have := HR.out.set_ (at_ + k) (u ^^^ xb y k); rw [UInt8.toNat_xor] at this; rw [HS.out]; exact this, HBR.out.setCell HG.out _⟩
        case measure => simp [intOf]; omega
    · have hne : k = 4 ∨ at_ + k = F.length := by omega
      have HNE := Lib.hid hne
      have hb0 := back (cap := cap) (w := wr) (n := 6 + p.size) hr (by rw [turned_length _ _ _ _ (by omega)]; exact hfl)
      have HBR := Lib.hid hbr
      have hTL := turned_length F at_ k y (by omega)
      have hxl := xbs_length y k
      have HCH := Lib.hid (chg_iff y k)
      have HTU2 := Lib.hid (HTU.out (xbs y k) (by omega) (by omega))
      have HTN := Lib.hid (turned_none F at_ (xbs y k) (by omega))
      generalize hTd : turned F at_ (xbs y k) = T at *
      have HOP : Hid (∀ w, Tab w → Calls Tryd.prog 12 #[.string ⟨T.toArray⟩] w fun e w' => e = .returned (openE ⟨T.toArray⟩) ∧ Below w.heap.size w w') := Lib.hid fun w hT => C.opens ⟨T.toArray⟩ w (by show T.toArray.size ≤ _; rw [List.size_toArray]; omega) hT
      clear hgo hne hr hbr hTd HTU
      cases hch : chg y k with
      | false =>
        have hz := HCH.out.1 hch
        obtain rfl : T = F := HTN.out hz
        have HO := Lib.hid (show openE ⟨T.toArray⟩ = .tuple #[.string p, .string ⟨#[]⟩, .int .i64 0] by
          unfold openE
          rw [show (ByteArray.mk T.toArray).data.toList = T from rfl, if_pos HME.out.1, HME.out.2.1, HME.out.2.2])
        clear hz
        by_cases hk4 : k < 4
        · have hks : ¬ at_ + k < T.length := by have := HNE.out; omega
          go_wp2_with fail
          refine (HOP.out _ (hT.later HBR.out)).mono ?_
          rintro e w5 ⟨rfl, hb6⟩
          rw [HO.out]
          have hb7 := HBR.out.trans (hb6.mono HBR.out.size)
          clear hb6
          go_wp2_with fail
          go_returns
          exact ⟨rfl, hb7⟩
        · go_wp2_with fail
          refine (HOP.out _ (hT.later HBR.out)).mono ?_
          rintro e w5 ⟨rfl, hb6⟩
          rw [HO.out]
          have hb7 := HBR.out.trans (hb6.mono HBR.out.size)
          clear hb6
          go_wp2_with fail
          go_returns
          exact ⟨rfl, hb7⟩
      | true =>
        have hz : ¬ ∀ x ∈ xbs y k, x = 0 := fun h => by rw [HCH.out.2 h] at hch; cases hch
        have ht := HTU2.out hz
        clear hz
        by_cases he : err T = 0
        · have hr := ht he
          have hem : (ByteArray.mk (T.drop (6 + flen T)).toArray).toList.isEmpty = false := by
            rw [ByteArray.toList_eq]
            show (T.drop (6 + flen T)).isEmpty = false
            cases hl : T.drop (6 + flen T) with
            | nil => exact absurd hl hr
            | cons _ _ => rfl
          have HO := Lib.hid (show openE ⟨T.toArray⟩ = .tuple #[.string ⟨(payload T).toArray⟩, .string ⟨(T.drop (6 + flen T)).toArray⟩, .int .i64 0] by
            unfold openE
            rw [show (ByteArray.mk T.toArray).data.toList = T from rfl, if_pos he])
          generalize ByteArray.mk (T.drop (6 + flen T)).toArray = Z at *
          clear ht hr he
          by_cases hk4 : k < 4
          · have hks : ¬ at_ + k < F.length := by have := HNE.out; omega
            go_wp2_with fail
            refine (HOP.out _ (hT.later HBR.out)).mono ?_
            rintro e w5 ⟨rfl, hb6⟩
            rw [HO.out]
            have hb7 := HBR.out.trans (hb6.mono HBR.out.size)
            clear hb6
            go_wp2_with fail
            go_returns
            exact ⟨rfl, hb7⟩
          · go_wp2_with fail
            refine (HOP.out _ (hT.later HBR.out)).mono ?_
            rintro e w5 ⟨rfl, hb6⟩
            rw [HO.out]
            have hb7 := HBR.out.trans (hb6.mono HBR.out.size)
            clear hb6
            go_wp2_with fail
            go_returns
            exact ⟨rfl, hb7⟩
        · have HO := Lib.hid (show openE ⟨T.toArray⟩ = .tuple #[.string ⟨#[]⟩, .string ⟨#[]⟩, .int .i64 (err T)] by
            unfold openE
            rw [show (ByteArray.mk T.toArray).data.toList = T from rfl, if_neg he])
          have hex2 : (err T != 0) = true := by simpa using he
          generalize err T = et at *
          clear ht he
          by_cases hk4 : k < 4
          · have hks : ¬ at_ + k < F.length := by have := HNE.out; omega
            go_wp2_with fail
            refine (HOP.out _ (hT.later HBR.out)).mono ?_
            rintro e w5 ⟨rfl, hb6⟩
            rw [HO.out]
            have hb7 := HBR.out.trans (hb6.mono HBR.out.size)
            clear hb6
            go_wp2_with fail
            go_returns
            exact ⟨rfl, hb7⟩
          · go_wp2_with fail
            refine (HOP.out _ (hT.later HBR.out)).mono ?_
            rintro e w5 ⟨rfl, hb6⟩
            rw [HO.out]
            have hb7 := HBR.out.trans (hb6.mono HBR.out.size)
            clear hb6
            go_wp2_with fail
            go_returns
            exact ⟨rfl, hb7⟩

theorem opened {H : Type} {enc : TypeId × Value → H} {W : World} {base : Nat} {gs : List (DataW H)} (v0 : Value) (d0 : DataW H) (p0 : List MemPlace) (v1 : Value) (d1 : DataW H) (p1 : List MemPlace) (v2 : Value) (d2 : DataW H) (p2 : List MemPlace)
    (o0 : Value.okWide Tryd.prog W .any base 9 v0) (t0 : DataW.Trod enc Tryd.prog W 0 (fun _ => true) true 9 v0 d0 p0)
    (o1 : Value.okWide Tryd.prog W .any base 3 v1) (t1 : DataW.Trod enc Tryd.prog W 0 (fun _ => true) true 3 v1 d1 p1)
    (o2 : Value.okWide Tryd.prog W .any base 40 v2) (t2 : DataW.Trod enc Tryd.prog W 0 (fun _ => true) true 40 v2 d2 p2)
    (hsz : (DataW.weightsEach Tryd.prog ([9, 3, 40] ++ []) ([d0, d1, d2] ++ gs)).all (· ≤ reachBytes) = true) (hT : Tab W) :
    Calls Tryd.prog 5 #[v0, v1, v2] W fun e W' => e = .returned (.bool true) ∧ Below W.heap.size W W' := by
  obtain ⟨p, rfl, rfl, rfl, _⟩ := Go.ChangeMaps.open_string Tryd.underlying9 o0 t0
  obtain ⟨x, rfl, rfl, rfl, _⟩ := open_int Tryd.underlying3 o1 t1
  obtain ⟨z, rfl, rfl, rfl, wz⟩ := open_int Tryd.underlying40 o2 t2
  obtain ⟨y, rfl⟩ := u32_of wz
  have hs : p.size ≤ 140737488355328 := by
    have h2 := (Base.small_of hsz (j := 0) (t := 9) (d := .lit (.string p.data.toList)) rfl rfl).text
    rw [toList_size] at h2
    omega
  by_cases h1 : 4096 < p.size
  · exact walk_long code p x _ W hT hs h1
  by_cases h2 : x < 0 ∨ ((6 + p.size : Nat) : Int) ≤ x
  · exact walk_off code p x _ W hT (by omega) (by omega)
  · obtain ⟨n, rfl⟩ := Int.eq_ofNat_of_zero_le (show 0 ≤ x by omega)
    exact walk code p n y W hT (by omega) (by omega)

theorem contract (H : Type) (enc : TypeId × Value → H) (W : World) (base : Nat) (args : Array Value) (ds gs : List (DataW H)) (before : List MemPlace)
    (hval : ∀ (j : Nat) t v, Tryd.f5.params[j]? = some t → args[j]? = some v → Value.okWide Tryd.prog W .any base t v)
    (hW : DataW.Whole enc Tryd.prog Tryd.f5.params.toList Rows.frameTurnedSpec.vars false W args.toList ds gs before)
    (hsz : (DataW.weightsEach Tryd.prog (Tryd.f5.params.toList ++ []) (ds ++ gs)).all (· ≤ reachBytes) = true) (hG : Tab W) :
    Calls Tryd.prog 5 args W fun e W' => ∃ v, e = .returned v ∧ Rows.frameTurnedSpec.post enc Tryd.prog Tryd.f5 false true false false W args v W' := by
  have hW0 := hW
  obtain ⟨p, q, hA0, hV, rfl, _, _⟩ := hW
  have hA : DataW.TrodAll enc Tryd.prog W 0 (fun _ => true) true Tryd.f5.params.toList args.toList ds p := hA0
  rw [Tryd.params5] at hA hval hsz
  obtain ⟨v0, vs0, d0, ds0, p0, q0, hargs, rfl, rfl, h0, r0⟩ := trodAll_cons hA
  obtain ⟨v1, vs1, d1, ds1, p1, q1, rfl, rfl, rfl, h1, r1⟩ := trodAll_cons r0
  obtain ⟨v2, vs2, d2, ds2, p2, q2, rfl, rfl, rfl, h2, r2⟩ := trodAll_cons r1
  obtain ⟨rfl, rfl, rfl⟩ := trodAll_nil r2
  obtain rfl : args = #[v0, v1, v2] := by cases args; simp_all
  refine (opened v0 d0 p0 v1 d1 p1 v2 d2 p2 (hval 0 9 v0 rfl rfl) h0 (hval 1 3 v1 rfl rfl) h1 (hval 2 40 v2 rfl rfl) h2 hsz hG).mono fun e W' ⟨he, hb⟩ => ⟨_, he, ?_⟩
  exact Base.law_post (tb := 4) Base.laidOut (by kernel_rfl) rfl Tryd.underlying4 rfl (fun l hl => by
    rw [Tryd.params5] at hl
    match l, hl with
    | [_, _, _], _ => rfl) (by rw [Tryd.params5]; rfl) hW0 hb

theorem laid_met (os : Os) : laidMet Tryd.prog Rows.frameTurnedRow.laid ((laidWorld os).forCall (fun _ _ => 0) ⟨#[], #[.string ⟨#[]⟩, .int .i64 0, .int .u32 0], []⟩).memory :=
  laidMet_of_run' 8 (by kernel_rfl) (by kernel_rfl)
theorem reads (os : Os) {H : Type} (enc : TypeId × Value → H) : ∃ places, DataW.whole enc Tryd.prog ((laidWorld os).forCall (fun _ _ => 0) ⟨#[], #[.string ⟨#[]⟩, .int .i64 0, .int .u32 0], []⟩).memory Tryd.f5.params.toList Rows.frameTurnedSpec.vars false (#[.string ⟨#[]⟩, .int .i64 0, .int .u32 0] : Array Value).toList 8 = some ([.lit (.string []), .lit (.int .i64 0), .lit (.int .u32 0)], [], places) :=
  ⟨[], by kernel_rfl⟩

set_option maxRecDepth 100000 in
theorem lifted (os : Os) (started : os.Started) (H : Type) (enc : TypeId × Value → H) (F : Stop.Interp) :
    ReturnsInHanded {} Tryd.checked os 5 .any ((OpenSpec.ofChange Rows.frameTurnedSpec).preRow enc Tryd.prog Tryd.f5 Rows.frameTurnedRow.domain false Rows.frameTurnedRow.laid) (((OpenSpec.ofChange Rows.frameTurnedSpec).at F).post enc Tryd.prog Tryd.f5 false true false false) := by
  obtain ⟨places, hx⟩ := reads os enc
  refine returnsInHanded_of_row (C := Tryd.checked) (s := OpenSpec.ofChange Rows.frameTurnedSpec) Base.own started (by kernel_rfl) Tryd.func5
    (witness_row_at (enc := enc) (C := Tryd.checked) false (laidWorld os) #[.string ⟨#[]⟩, .int .i64 0, .int .u32 0] rfl (by kernel_rfl) (by kernel_rfl) (by kernel_rfl)
      (OpenSpec.preRow_of_cond 8 hx (by kernel_rfl) (fun k hk => by cases hk) (by kernel_rfl) (laid_met os))) ?_
  intro W base args ds gs before hval hW _ _ hsz hL _ _
  exact contract H enc W base args ds gs before hval hW hsz (table hL)

theorem said : Rows.FrameTurnedSaid :=
  OpenClaim.holds_of_cond 5 Tryd.f5 rfl rfl rfl rfl rfl rfl rfl ⟨rfl, rfl, rfl, rfl, rfl⟩ rfl rfl rfl rfl rfl (by kernel_rfl) Tryd.func5 (by kernel_rfl)
    (of_decide_eq_true (by kernel_rfl)) (by unfold Func.isWrapper; rw [if_neg (of_decide_eq_false (by kernel_rfl))]; exact ⟨rfl, rfl⟩)
    (fun os started H enc _ F => by rw [OpenClaim.pre_eq_preRow]; exact lifted os started H enc F)

theorem plain (f : FuncId) (fn : Func) (hf : Tryd.pinned.checked.prog.funcNamed "remuda/remudalaw03.FrameTurned" = some f) (hfn : Tryd.pinned.checked.prog.funcs[f]? = some fn) :
    false = Tryd.pinned.checked.prog.looks [] ∧ ∀ (j : Nat) t, fn.params[j]? = some t → Tryd.pinned.checked.prog.wantsStandIn t = false := by
  obtain rfl : f = 5 := Option.some.inj ((show Tryd.prog.funcNamed "remuda/remudalaw03.FrameTurned" = some 5 by kernel_rfl).symm.trans hf) |>.symm
  obtain rfl : fn = Tryd.f5 := (Option.some.inj (Tryd.func5.symm.trans hfn)).symm
  refine ⟨by kernel_rfl, fun j t ht => ?_⟩
  have hall : Tryd.f5.params.toList.all (fun t => !(Tryd.prog.wantsStandIn t)) = true := by kernel_rfl
  have hm : t ∈ Tryd.f5.params.toList := by simpa using Array.mem_of_getElem? ht
  have h := List.all_eq_true.1 hall t hm
  exact (by simpa using h : Tryd.prog.wantsStandIn t = false)

theorem card : Rows.FrameTurnedCardSaid :=
  Claim7.holds_tied_plain_at .later [] _ _ _ _ said (fun _ h => by cases h) (by kernel_rfl) (fun _ h => by cases h) frameTurned_row_tie rfl ⟨rfl, rfl⟩ (by kernel_rfl) rfl plain (by kernel_rfl)
#print axioms card
end Go.Proofs.YtcbmbajlmcoldaaDoor.FrameTurned
