/-
  JournalKeeps is proved: behind a crash, whatever call it broke off, all records that were forced are there, in order, and behind them a beginning of those that weren't. Conditions: the table of half bytes holds what its initialiser lays (tied to the program's text).
-/
import Derived.Test.YtfdhckfpkhoheaaDoorJournalImpl
import Derived.Test.YtfdhckfpkhoheaaDoorJournalLaw
import Derived.Test.YtfdhckfpkhoheaaDoorJournalSta
import Derived.Deep.CutBlock
import Derived.Test.YtfdhckfpkhoheaaDoorCards
import Derived.Test.YtfdhckfpkhoheaaDoorTie
namespace Go.Proofs.YtfdhckfpkhoheaaDoor.JournalKeeps
open Go.ChangeShapes Go.WideShapes Go.ChangeAt Go.RowKit Go.Deep Go.Proofs.YtfdhckfpkhoheaaDoor.Mem Go.Proofs.YtfdhckfpkhoheaaDoor.Crc Go.Proofs.YtfdhckfpkhoheaaDoor.Frame Go.Proofs.YtfdhckfpkhoheaaDoor.Disk Go.Proofs.YtfdhckfpkhoheaaDoor.Journal

/-- A disk and a journal on it that has nothing yet. -/
theorem opened_new {C : Disk.Does} {J : Does C} {w0 w2 w3 : World} {g gj : Nat} {r r' : Option Nat} {z : Nat} {S : Foot} (hz : z ≤ 1048576) (hb : Below w0.heap.size w0 w2) (hd : C.Dk w2 w0.heap.size g r (empty z))
    (hB : Both C J.Jn w0.heap.size w3 S g r' gj (cutS (empty z) ((fr (empty z).b).2 : Nat)).2 (fr (empty z).b).1 false) (hs : Step (pair g r) (pair g r') w2 w3) :
    Sta C J w0 w3 g gj (empty z) [] false (.slice none 0 0) [] (.slice none 0 0) [] 0 [] := by
  have e0 : (fr (empty z).b) = ([], 0) := fr_no (show err [] ≠ 0 by decide)
  have e1 : (cutS (empty z) ((fr (empty z).b).2 : Nat)).2 = empty z := cut_whole (ps := []) (empty_ok z hz) rfl (fun p hp => (by cases hp)) rfl
  rw [e1, e0] at hB
  refine ⟨hb.trans (hs.low (fun k hk => ?_) hb.size), ⟨S, r', hB, fun k hk => (by cases hk), fun k hk => (by cases hk), fun hv => absurd rfl hv⟩, txt_nil _ _, txt_nil _ _, fun k hk => (by cases hk), fun j x hx => (by simp at hx), fun hv => absurd rfl hv⟩
  rcases hk with rfl | hk
  · exact (C.own hd).1
  · exact (C.own hd).2 k hk.symm

set_option maxHeartbeats 2000000 in
theorem awake_any (C : Disk.Does) (J : Does C) (w : World) (hT : Tab w) :
    Calls Tryd.prog 4 #[] w fun e w' => e = .returned (.bool true) ∧ Below w.heap.size w w' := by
  have HN := Lib.hid (C.news 100 w w.heap.size (Nat.le_refl _))
  have HT := Lib.hid hT
  have hfa : fits [[97]] := fun p hp => by obtain rfl := List.mem_singleton.1 hp; decide
  have hfb : fits [[98]] := fun p hp => by obtain rfl := List.mem_singleton.1 hp; decide
  have la : (frs [[97]]).length = 7 := frs_bytesOf [⟨#[97]⟩]
  have lb : (frs [[98]]).length = 7 := frs_bytesOf [⟨#[98]⟩]
  have HFA := Lib.hid hfa
  have HLA := Lib.hid la
  have E1 := Lib.hid (show appJ (empty 100) true (bytesOf [⟨#[97]⟩]) = (0, ⟨frs [[97]], 7, 100, -1, false⟩) by
    have h := appJ_free (d := empty 100) rfl rfl true [[97]] hfa (by rw [la]; decide)
    rw [la] at h
    exact h)
  have E2 := Lib.hid (show appJ ⟨frs [[97]], 7, 100, -1, false⟩ false (bytesOf [⟨#[98]⟩]) = (0, ⟨frs [[97]] ++ frs [[98]], 7, 100, -1, false⟩) from
    appJ_free (d := ⟨frs [[97]], 7, 100, -1, false⟩) rfl rfl false [[98]] hfb (by show (frs [[97]]).length + _ ≤ 100; rw [la, lb]; decide))
  have O1 : Hid (Ds.Ok ⟨frs [[97]], 7, 100, -1, false⟩) := Lib.hid ⟨by show 7 ≤ (frs [[97]]).length; omega, by show (frs [[97]]).length ≤ 100; omega, by show 100 ≤ 1048576; decide, by show (-1 : Int) ≤ -1; decide, by show (-1 : Int) ≤ _; decide⟩
  have O2 : Hid (Ds.Ok ⟨frs [[97]] ++ frs [[98]], 7, 100, -1, false⟩) := Lib.hid ⟨by show 7 ≤ (frs [[97]] ++ frs [[98]]).length; rw [List.length_append]; omega, by show (frs [[97]] ++ frs [[98]]).length ≤ 100; rw [List.length_append]; omega, by show 100 ≤ 1048576; decide, by show (-1 : Int) ≤ -1; decide, by show (-1 : Int) ≤ _; decide⟩
  have E3 := Lib.hid (show (fr (crashS ⟨frs [[97]] ++ frs [[98]], 7, 100, -1, false⟩ 3).b).1 = [[97]] by
    have hk : kept ⟨frs [[97]] ++ frs [[98]], 7, 100, -1, false⟩ 3 = (frs [[97]]).length + 3 := by
      show 7 + min (3 : Int).toNat ((frs [[97]] ++ frs [[98]]).length - 7) = _
      rw [List.length_append, la, lb]
      rfl
    show (fr ((frs [[97]] ++ frs [[98]]).take (kept ⟨frs [[97]] ++ frs [[98]], 7, 100, -1, false⟩ 3))).1 = _
    rw [hk]
    exact fr_first [97] [98] 3 (by decide) (by decide) (by decide))
  clear la lb hfa hfb hT
  go_enter Tryd.func4, Tryd.ntmps4
  go_wp2_with fail
  refine HN.out.mono ?_
  rintro e w1 ⟨hx, hb1⟩
  rw [if_neg (by omega)] at hx
  obtain ⟨g, r, rfl, hd, _, _⟩ := hx
  have HD : Hid (C.Dk w1 w.heap.size g r (empty 100)) := Lib.hid hd
  have HB1 := Lib.hid hb1
  clear hd hb1
  unfold at_
  go_wp2_with fail
  refine (J.opens HD.out (empty_ok 100 (by omega)) rfl (HT.out.later HB1.out)).mono ?_
  rintro e w2 ⟨gj, l, S, r2, rfl, hB, ht, hst, _, _⟩
  have e0 : (fr (empty 100).b) = ([], 0) := fr_no (show err [] ≠ 0 by decide)
  have H2 := Lib.hid (opened_new (by omega) HB1.out HD.out hB hst)
  rw [e0] at ht
  obtain ⟨A2, c2, rfl, _⟩ := ht.opened (fun s hs => by cases hs)
  clear hB hst ht e0
  unfold at_
  have e00 : (texts []).length = 0 := rfl
  rw [e00]
  clear e00
  go_wp2_with fail
  have H3 := Lib.hid (H2.out.later (below_alloc w2 (.cells #[.string ⟨#[97]⟩] 9)))
  obtain ⟨S3, r3, hb3, p1, p2, p3⟩ := H3.out.here
  refine (J.append true (some ⟨w2.heap.size, 0, none⟩) [⟨#[97]⟩] 1 hb3 (empty_ok 100 (by omega)) rfl rfl (fun p hp => (by cases hp)) (HT.out.later H3.out.below) (strs_one w2 _ _ (by decide)) (by simp) (by decide) ⟨(fun h => by cases h), by simp⟩).mono ?_
  rw [E1.out]
  rintro e w4 ⟨rfl, S4, r4, hb4, hs4⟩
  have H4 : Hid (Sta C J w w4 g gj ⟨frs [[97]], 7, 100, -1, false⟩ [[97]] false (.slice none 0 0) [] (.slice none 0 0) [] 0 []) := Lib.hid (H3.out.call hb3 p1 p2 p3 hb4 hs4)
  clear hb4 hs4 hb3 p1 p2 p3
  go_wp2_with fail
  have H5 := Lib.hid (H4.out.later (below_alloc w4 (.cells #[.string ⟨#[98]⟩] 9)))
  obtain ⟨S5, r5, hb5, p1, p2, p3⟩ := H5.out.here
  refine (J.append false (some ⟨w4.heap.size, 0, none⟩) [⟨#[98]⟩] 1 hb5 O1.out rfl rfl HFA.out (HT.out.later H5.out.below) (strs_one w4 _ _ (by decide)) (by simp) (by decide) ⟨(fun h => by cases h), by simp⟩).mono ?_
  rw [E2.out]
  rintro e w6 ⟨rfl, S6, r6, hb6, hs6⟩
  have H6 : Hid (Sta C J w w6 g gj ⟨frs [[97]] ++ frs [[98]], 7, 100, -1, false⟩ [[97], [98]] false (.slice none 0 0) [] (.slice none 0 0) [] 0 []) := Lib.hid (H5.out.call hb5 p1 p2 p3 hb6 hs6)
  clear hb6 hs6 hb5 p1 p2 p3
  go_wp2_with fail
  obtain ⟨S7, r7, hb7, p1, p2, p3⟩ := H6.out.here
  refine (C.crash 3 hb7.disk O2.out (by omega) (by omega)).mono ?_
  rintro e w8 ⟨rfl, r8, hd8, ht8⟩
  have hlow := (C.below hb7.disk ht8 H6.out.base)
  have H8 := Lib.hid (And.intro hd8 (H6.out.below.trans hlow))
  clear hd8 ht8 hlow hb7 p1 p2 p3
  go_wp2_with fail
  refine (J.opens H8.out.1 (crashS_ok O2.out 3) rfl (HT.out.later H8.out.2)).mono ?_
  rw [E3.out]
  rintro e w9 ⟨gj9, l9, S9, r9, rfl, hB, ht, hst, _, _⟩
  obtain ⟨A9, c9, rfl, hs9⟩ := ht.opened (fun s hs => by obtain rfl := List.mem_singleton.1 hs; decide)
  obtain ⟨ad, rfl, hc9, _⟩ := hs9 0 (by decide)
  have hbl := Lib.hid (H8.out.2.trans (hst.low (fun k hk => by
    rcases hk with rfl | hk
    · exact (C.own H8.out.1).1
    · exact (C.own H8.out.1).2 k hk.symm) H8.out.2.size))
  have e1 : (texts [[97]]).length = 1 := rfl
  have e2 : (texts [[97]])[0] = ⟨#[97]⟩ := rfl
  rw [e2, show ad.add 0 = ad from rfl] at hc9
  rw [e1]
  clear hB ht hst hs9 e1 e2
  unfold at_
  go_wp2_with fail
  go_returns
  exact ⟨rfl, hbl.out⟩

theorem walk_great (C : Disk.Does) (J : Does C) (A : Option Addr) (os : List Opn) (c : Nat) (keep : Int) (w : World) (hs : Ops w A os) (hT : Tab w) (h : small 40 9000 os = false) :
    Calls Tryd.prog 3 #[.slice A os.length c, .int .i64 keep] w fun e w' => e = .returned (.bool true) ∧ Below w.heap.size w w' := by
  have HS := Lib.hid hs
  have HT := Lib.hid hT
  have HG := Lib.hid h
  clear hs hT h
  go_enter Tryd.func3, Tryd.ntmps3
  go_wp2_with fail
  refine (awake_any C J _ HT.out).mono ?_
  rintro e w1 ⟨rfl, hb⟩
  have HB1 := Lib.hid hb
  clear hb
  go_wp2_with fail
  refine (great_any A os c 40 w1 (HS.out.later HB1.out) (by omega)).mono ?_
  rintro e w2 ⟨rfl, hb2⟩
  rw [HG.out]
  have hb4 := HB1.out.trans (hb2.mono HB1.out.size)
  clear hb2
  go_wp2_with fail
  go_returns
  exact ⟨rfl, hb4⟩

set_option maxHeartbeats 8000000 in
set_option maxRecDepth 100000 in
theorem walk (C : Disk.Does) (J : Does C) (A : Option Addr) (os : List Opn) (c : Nat) (keep : Int) (w : World) (hs : Ops w A os) (hT : Tab w) (h : small 40 9000 os = true) (hk : -9223372036854775808 ≤ keep ∧ keep ≤ 9223372036854775807) :
    Calls Tryd.prog 3 #[.slice A os.length c, .int .i64 keep] w fun e w' => e = .returned (.bool true) ∧ Below w.heap.size w w' := by
  obtain ⟨hl40, hl20, hl9⟩ := small_spec h
  have HS := Lib.hid hs
  have HT := Lib.hid hT
  have HG := Lib.hid h
  have HK := Lib.hid hk
  have HL := Lib.hid (And.intro hl20 hl9)
  have HN : Hid (∀ w1, w.heap.size ≤ w1.heap.size → Calls Tryd.prog 6 #[.int .i64 262144] w1 fun e w' => ∃ g r, e = .returned (.tuple #[at_ g, .int .i64 0]) ∧ C.Dk w' w.heap.size g r (empty 262144) ∧ Below w1.heap.size w1 w') := Lib.hid fun w1 hb => by
    refine (C.news 262144 w1 w.heap.size hb).mono ?_
    rintro e w2 ⟨hx, hb2⟩
    rw [if_neg (by omega)] at hx
    obtain ⟨g, r, rfl, hd, _, _⟩ := hx
    exact ⟨g, r, rfl, hd, hb2⟩
  clear hs hT h hk hl20 hl9
  go_enter Tryd.func3, Tryd.ntmps3
  go_wp2_with fail
  refine (awake_any C J _ HT.out).mono ?_
  rintro e w1 ⟨rfl, hb⟩
  have HB1 := Lib.hid hb
  clear hb
  go_wp2_with fail
  refine (great_any A os c 40 w1 (HS.out.later HB1.out) (by omega)).mono ?_
  rintro e w2 ⟨rfl, hb2⟩
  rw [HG.out]
  have HB2 := Lib.hid (HB1.out.trans (hb2.mono HB1.out.size))
  clear hb2
  go_wp2_with fail
  refine (HN.out w2 HB2.out.size).mono ?_
  rintro e w3 ⟨g, r, rfl, hd, hb3⟩
  have HD := Lib.hid hd
  have HB3 := Lib.hid (HB2.out.trans (hb3.mono HB2.out.size))
  clear hd hb3
  unfold at_
  go_wp2_with fail
  refine (J.opens HD.out (empty_ok 262144 (by omega)) rfl (HT.out.later HB3.out)).mono ?_
  rintro e w4 ⟨gj, l, S, r4, rfl, hB, ht, hst, _, _⟩
  have H4 := Lib.hid (opened_new (z := 262144) (by omega) HB3.out HD.out hB hst)
  have e0 : (fr (empty 262144).b) = ([], 0) := fr_no (show err [] ≠ 0 by decide)
  rw [e0] at ht
  obtain ⟨A4, c4, rfl, _⟩ := ht.opened (fun s hs => by cases hs)
  have e00 : (texts []).length = 0 := rfl
  rw [e00]
  clear hB ht hst e0 e00
  unfold at_
  have H5 : Hid (Kn C J w w4 g gj (empty 262144) [] [] false (.slice none 0 0) (.slice none 0 0) (.slice none 0 0) (.bool false) 0 []) := Lib.hid
    ⟨⟨[], H4.out, fun _ => rfl⟩, on_new 262144 (by omega), false, none, [], 0, rfl, rfl, strs_nil _ _, by decide⟩
  clear H4
  go_upto_block 0 with fail
  go_cut [10, 11, 12, 13, 15, 16, 17] from 39 to 103 (fun v u x y _ _ _ wx => ∃ d sure maybe o b vs, Kn C J w wx g gj d sure maybe o v u x y b vs ∧ (frs (sure ++ maybe)).length ≤ 20000)
  case first =>
    go_wp2_with fail
    go_loopw [10, 11, 12, 13, 39] (fun v u x y i wr => ∃ k d sure maybe, k ≤ os.length ∧ i = .int .i64 (k : Int) ∧ Kn C J w wr g gj d sure maybe false v u x y 0 [] ∧ (frs (sure ++ maybe)).length ≤ 120 * k + total (os.take k)) (fun _ _ _ _ i _ => os.length - (intOf i).toNat)
    case atStart => exact ⟨0, empty 262144, [], [], Nat.zero_le _, rfl, H5.out, Nat.zero_le _⟩
    case round =>
      obtain ⟨k, d, sure, maybe, hkl, rfl, hkn, hbd⟩ := hrel
      by_cases hlt : k < os.length
      · obtain ⟨rs0, hsta0, _⟩ := hkn.sta
        obtain ⟨hok, ab, ao, rfl, c0, c1, c2⟩ := (HS.out.later hsta0.below) k hlt
        have hok0 := (HS.out k hlt).1
        have hq20 := HL.out.1 _ (List.getElem_mem hlt)
        have hqt := total_take os k hlt
        have hqs := total_le os (k + 1)
        have hq9 := HL.out.2
        generalize os[k] = op at *
        obtain ⟨ok, on, oA, oc, ss⟩ := op
        simp only at c0 c1 c2 hq20 hqt
        have HX := Lib.hid hok0
        have HKN := Lib.hid (hkn.boxed 34 #[.int .i64 ok, .int .i64 on, .slice oA ss.length oc])
        have hroom : (frs (sure ++ (maybe ++ bytesOf ss))).length ≤ 120 * (k + 1) + total (os.take (k + 1)) := by
          rw [← List.append_assoc, frs_append, List.length_append, frs_bytesOf, hqt]
          omega
        have hroom2 : 120 * (k + 1) + total (os.take (k + 1)) ≤ 20000 := by omega
        have hmono : (frs (sure ++ maybe)).length ≤ 120 * (k + 1) + total (os.take (k + 1)) := by omega
        have HR := Lib.hid (And.intro hroom (And.intro hroom2 hmono))
        have hcs : (cat ss).length ≤ 9000 := by omega
        have hcnt : (texts sure).length + (texts maybe).length + ss.length ≤ 100000 := by
          have h1 := frs_count (sure ++ maybe)
          rw [List.length_append] at h1
          rw [texts_length, texts_length]
          omega
        clear hkn hsta0 hok hok0 hqt hqs hq9 hbd hroom hroom2 hmono
        go_upto_block 2 with fail
        go_cut [10, 11, 12, 13, 16, 17] from 40 to 103 (fun v u x y _ _ wx => ∃ d sure maybe o b vs, Kn C J w wx g gj d sure maybe o v u x y b vs ∧ (frs (sure ++ maybe)).length ≤ 120 * (k + 1) + total (os.take (k + 1)))
        case first =>
          by_cases k0 : ok = 0
          · subst k0
            obtain ⟨rs, hst, hrs⟩ := HKN.out.sta
            have hon := HKN.out.on
            obtain rfl := hrs rfl
            obtain ⟨S1, r1, hb1, p1, p2, p3⟩ := hst.here
            have q0 := hst.box 0 _ rfl
            have q2 := hst.box 2 _ rfl
            go_wp2_with fail
            refine (J.append false oA ss oc hb1 hon.ok (hon.whole rfl).2 (hon.whole rfl).1 hon.fits (HT.out.later hst.below) (HX.out.later hst.below).texts (by omega) (by omega) HX.out.none).mono ?_
            rintro e w5 ⟨rfl, S5, r5, hb5, hs5⟩
            have hS5 := hst.call hb1 p1 p2 p3 hb5 hs5
            have hcase := on_append hon false (bytesOf ss) (by have := HR.out; omega)
            generalize appJ d false (bytesOf ss) = q at *
            obtain ⟨e1, d1⟩ := q
            simp only at hcase hS5
            clear hb1 p1 p2 p3 hb5 hs5
            have hfm : fits maybe := fun p hp => hon.fits p (List.mem_append_right _ hp)
            have hfs : fits sure := fun p hp => hon.fits p (List.mem_append_left _ hp)
            have HFM := Lib.hid (And.intro hfs hfm)
            clear hfs hfm
            rcases hcase with ⟨rfl, rfl⟩ | ⟨rfl, hon5⟩ | ⟨rfl, hfit, hon5, hon6⟩
            · rw [then_no (by decide)] at hS5
              have HK5 : Hid (Kn C J w w5 g gj _ sure maybe false _ _ _ _ wr.heap.size [.int .i64 0, .int .i64 on, .slice oA ss.length oc]) := Lib.hid ⟨⟨_, hS5, fun _ => rfl⟩, hon, HKN.out.anew⟩
              clear hst q0 q2 hS5 hon
              go_wp2_with fail
              go_meet
              case rel => exact ⟨_, sure, maybe, false, _, _, HK5.out, HR.out.2.2⟩
            · rw [then_no (by decide)] at hS5
              have HS5 := Lib.hid hS5
              have HO5 := Lib.hid hon5
              have q2 := hS5.box 2 _ rfl
              clear hst hS5 hon hon5
              go_wp2_with (at_builtin
                           refine wpList_texts rfl (.tmp 61) (.tmp 63) rfl w.heap.size _ (texts maybe) ss oA oc rfl HS5.out.row2 rfl ((HX.out.later HS5.out.below).texts) (by omega) HS5.out.base HX.out.none.1 ?_
                           intro u' w6 ht6 hg6 hat6
                           have HS6 := Lib.hid (HS5.out.grow ht6 hg6 hat6)
                           clear ht6 hg6 hat6 q0 q2)
              go_meet
              case rel => exact ⟨d1, sure, maybe ++ bytesOf ss, true, _, _, ⟨⟨_, (by rw [texts_app, texts_bytesOf]; exact HS6.out), fun h => (by cases h)⟩, HO5.out, HKN.out.anew⟩, HR.out.1⟩
            · rw [then_yes] at hS5
              have HS5 := Lib.hid hS5
              have HO5 := Lib.hid hon5
              have q2 := hS5.box 2 _ rfl
              clear hst hS5 hon hon5 hon6 hfit
              go_wp2_with (at_builtin
                           refine wpList_texts rfl (.tmp 61) (.tmp 63) rfl w.heap.size _ (texts maybe) ss oA oc rfl HS5.out.row2 rfl ((HX.out.later HS5.out.below).texts) (by omega) HS5.out.base HX.out.none.1 ?_
                           intro u' w6 ht6 hg6 hat6
                           have HS6 := Lib.hid (HS5.out.grow ht6 hg6 hat6)
                           have q6 := HS6.out.box 0 _ rfl
                           clear ht6 hg6 hat6 q0 q2)
              go_meet
              case rel => exact ⟨d1, sure, maybe ++ bytesOf ss, false, _, _, ⟨⟨_, (by rw [texts_app, texts_bytesOf]; exact HS6.out), fun _ => List.append_assoc ..⟩, HO5.out, HKN.out.anew⟩, HR.out.1⟩
          by_cases k1 : ok = 1
          · subst k1
            obtain ⟨rs, hst, hrs⟩ := HKN.out.sta
            have hon := HKN.out.on
            obtain rfl := hrs rfl
            obtain ⟨S1, r1, hb1, p1, p2, p3⟩ := hst.here
            have q0 := hst.box 0 _ rfl
            have q2 := hst.box 2 _ rfl
            go_wp2_with fail
            refine (J.append true oA ss oc hb1 hon.ok (hon.whole rfl).2 (hon.whole rfl).1 hon.fits (HT.out.later hst.below) (HX.out.later hst.below).texts (by omega) (by omega) HX.out.none).mono ?_
            rintro e w5 ⟨rfl, S5, r5, hb5, hs5⟩
            have hS5 := hst.call hb1 p1 p2 p3 hb5 hs5
            have hcase := on_append hon true (bytesOf ss) (by have := HR.out; omega)
            generalize appJ d true (bytesOf ss) = q at *
            obtain ⟨e1, d1⟩ := q
            simp only at hcase hS5
            clear hb1 p1 p2 p3 hb5 hs5
            have hfm : fits maybe := fun p hp => hon.fits p (List.mem_append_right _ hp)
            have hfs : fits sure := fun p hp => hon.fits p (List.mem_append_left _ hp)
            have HFM := Lib.hid (And.intro hfs hfm)
            clear hfs hfm
            rcases hcase with ⟨rfl, rfl⟩ | ⟨rfl, hon5⟩ | ⟨rfl, hfit, hon5, hon6⟩
            · rw [then_no (by decide)] at hS5
              have HK5 : Hid (Kn C J w w5 g gj _ sure maybe false _ _ _ _ wr.heap.size [.int .i64 1, .int .i64 on, .slice oA ss.length oc]) := Lib.hid ⟨⟨_, hS5, fun _ => rfl⟩, hon, HKN.out.anew⟩
              clear hst q0 q2 hS5 hon
              go_wp2_with fail
              go_meet
              case rel => exact ⟨_, sure, maybe, false, _, _, HK5.out, HR.out.2.2⟩
            · rw [then_no (by decide)] at hS5
              have HS5 := Lib.hid hS5
              have HO5 := Lib.hid hon5
              have q2 := hS5.box 2 _ rfl
              clear hst hS5 hon hon5
              go_wp2_with (at_builtin
                           refine wpList_texts rfl (.tmp 61) (.tmp 63) rfl w.heap.size _ (texts maybe) ss oA oc rfl HS5.out.row2 rfl ((HX.out.later HS5.out.below).texts) (by omega) HS5.out.base HX.out.none.1 ?_
                           intro u' w6 ht6 hg6 hat6
                           have HS6 := Lib.hid (HS5.out.grow ht6 hg6 hat6)
                           clear ht6 hg6 hat6 q0 q2)
              go_meet
              case rel => exact ⟨d1, sure, maybe ++ bytesOf ss, true, _, _, ⟨⟨_, (by rw [texts_app, texts_bytesOf]; exact HS6.out), fun h => (by cases h)⟩, HO5.out, HKN.out.anew⟩, HR.out.1⟩
            · rw [then_yes] at hS5
              have HS5 := Lib.hid hS5
              have HO5 := Lib.hid (hon6 trivial)
              have q2 := hS5.box 2 _ rfl
              clear hst hS5 hon hon5 hon6 hfit
              go_wp2_with (first
                | (at_builtin
                   refine wpList_texts rfl (.tmp 61) (.tmp 63) rfl w.heap.size _ (texts maybe) ss oA oc rfl HS5.out.row2 rfl ((HX.out.later HS5.out.below).texts) (by omega) HS5.out.base HX.out.none.1 ?_
                   intro u' w6 ht6 hg6 hat6
                   have HS6 := Lib.hid (HS5.out.grow ht6 hg6 hat6)
                   obtain ⟨A6, c6, rfl, hs6, hc6⟩ := opened_cap ht6 (both_small (fits_small HFM.out.2) (strs_small HX.out.texts))
                   have H6 := Lib.hid (And.intro hs6 hc6)
                   have q6 := HS6.out.box 0 _ rfl
                   clear ht6 hg6 hat6 q0 q2 hs6 hc6)
                | (at_builtin
                   refine wpList_texts rfl (.tmp 72) (.tmp 73) rfl w.heap.size _ (texts sure) (texts maybe ++ ss) A6 c6 rfl HS6.out.row1 (by rw [List.length_append]; rfl) H6.out.1 (by rw [List.length_append]; omega) HS6.out.base H6.out.2.1 ?_
                   intro v' w7 ht7 hg7 hat7
                   have HS7 := Lib.hid (HS6.out.swap.grow ht7 hg7 hat7).swap.clear
                   clear ht7 hg7 hat7 q6))
              go_meet
              case rel => exact ⟨d1, sure ++ (maybe ++ bytesOf ss), [], false, _, _, ⟨⟨_, (by rw [texts_app, texts_app, texts_bytesOf]; exact HS7.out), fun _ => (by rw [List.append_nil, List.append_assoc])⟩, HO5.out, HKN.out.anew⟩, (by rw [List.append_nil]; exact HR.out.1)⟩
          by_cases k2 : ok = 2
          · subst k2
            obtain ⟨rs, hst, hrs⟩ := HKN.out.sta
            have hon := HKN.out.on
            obtain rfl := hrs rfl
            obtain ⟨S1, r1, hb1, p1, p2, p3⟩ := hst.here
            have q0 := hst.box 0 _ rfl
            have q2 := hst.box 2 _ rfl
            go_wp2_with fail
            refine (J.renew oA ss oc hb1 hon.ok (hon.whole rfl).2 (hon.whole rfl).1 hon.fits (HT.out.later hst.below) (HX.out.later hst.below).texts (by omega) (by omega) HX.out.none).mono ?_
            rintro e w5 ⟨rfl, S5, r5, hb5, hs5⟩
            have hS5 := hst.call hb1 p1 p2 p3 hb5 hs5
            have hcase := on_renew hon (bytesOf ss) (by have := HR.out; omega)
            generalize renJ d (bytesOf ss) = q at *
            obtain ⟨e1, d1⟩ := q
            simp only at hcase hS5
            clear hb1 p1 p2 p3 hb5 hs5
            rcases hcase with ⟨rfl, rfl⟩ | ⟨rfl, hon5⟩ | ⟨rfl, hon5⟩
            · rw [then_no (by decide)] at hS5
              have HK5 : Hid (Kn C J w w5 g gj _ sure maybe false _ _ _ _ wr.heap.size [.int .i64 2, .int .i64 on, .slice oA ss.length oc]) := Lib.hid ⟨⟨_, hS5, fun _ => rfl⟩, hon, HKN.out.anew⟩
              clear hst q0 q2 hS5 hon
              go_wp2_with fail
              go_meet
              case rel => exact ⟨_, sure, maybe, false, _, _, HK5.out, HR.out.2.2⟩
            · rw [then_no (by decide)] at hS5
              have HS5 := Lib.hid hS5
              have HO5 := Lib.hid hon5
              have q2 := hS5.box 2 _ rfl
              clear hst hS5 hon hon5
              go_wp2_with (at_builtin
                           refine wpList_texts rfl (.tmp 91) (.tmp 93) rfl w.heap.size _ (texts maybe) ss oA oc rfl HS5.out.row2 rfl ((HX.out.later HS5.out.below).texts) (by omega) HS5.out.base HX.out.none.1 ?_
                           intro u' w6 ht6 hg6 hat6
                           have HS6 := Lib.hid (HS5.out.grow ht6 hg6 hat6)
                           clear ht6 hg6 hat6 q0 q2)
              go_meet
              case rel => exact ⟨d1, sure, maybe ++ bytesOf ss, true, _, _, ⟨⟨_, (by rw [texts_app, texts_bytesOf]; exact HS6.out), fun h => (by cases h)⟩, HO5.out, true, oA, ss, oc, rfl, rfl, HX.out.texts, hq20⟩, HR.out.1⟩
            · rw [then_yes] at hS5
              have HS5 := Lib.hid hS5
              have HO5 := Lib.hid hon5
              have HF5 := Lib.hid hS5.swap.fresh
              have q2 := HF5.out.box 2 _ rfl
              clear hst hS5 hon hon5 q0
              go_wp2_with (at_builtin
                           refine wpList_texts rfl (.tmp 83) (.tmp 85) rfl w.heap.size (.slice (some ⟨w5.heap.size, 0, none⟩) 0 0) [] ss oA oc rfl HF5.out.row2 rfl ((HX.out.later HF5.out.below).texts) (by simp only [List.length_nil]; omega) HF5.out.base HX.out.none.1 ?_
                           intro u' w6 ht6 hg6 hat6
                           have HS6 := Lib.hid (HF5.out.grow ht6 hg6 hat6).swap.clear
                           clear ht6 hg6 hat6 q2)
              go_meet
              case rel => exact ⟨d1, bytesOf ss, [], false, _, _, ⟨⟨_, (by rw [texts_bytesOf]; exact HS6.out), fun _ => (by rw [List.append_nil])⟩, HO5.out, HKN.out.anew⟩, (by
                have h1 := HR.out.1
                rw [← List.append_assoc, frs_append, List.length_append] at h1
                rw [List.append_nil]
                omega)⟩
          by_cases k3 : ok = 3
          · subst k3
            obtain ⟨rs, hst, hrs⟩ := HKN.out.sta
            have hon := HKN.out.on
            obtain rfl := hrs rfl
            obtain ⟨S1, r1, hb1, p1, p2, p3⟩ := hst.here
            have q0 := hst.box 0 _ rfl
            have q1 := hst.box 1 _ rfl
            go_wp2_with fail
            refine (C.fuse on hb1.disk hon.ok HX.out.low HX.out.high).mono ?_
            rintro e w5 ⟨rfl, r5, hd5, ht5⟩
            have hS5 := hst.call hb1 p1 p2 p3 (hb1.disked hd5 ht5) (step_disk ht5)
            have HK5 : Hid (Kn C J w w5 g gj (fuseS d on) sure maybe false _ _ _ _ wr.heap.size [.int .i64 3, .int .i64 on, .slice oA ss.length oc]) := Lib.hid ⟨⟨_, hS5, fun _ => rfl⟩, on_fuse hon on HX.out.high, HKN.out.anew⟩
            clear hst q0 q1 hS5 hon hb1 p1 p2 p3 hd5 ht5
            go_wp2_with fail
            go_meet
            case rel => exact ⟨fuseS d on, sure, maybe, false, _, _, HK5.out, HR.out.2.2⟩
          · obtain ⟨rs, hst, hrs⟩ := HKN.out.sta
            have q0 := hst.box 0 _ rfl
            have b0 : (ok == 0) = false := by simpa using k0
            have b1 : (ok == 1) = false := by simpa using k1
            have b2 : (ok == 2) = false := by simpa using k2
            have b3 : (ok == 3) = false := by simpa using k3
            clear hst hrs
            go_wp2_with fail
            go_meet
            case rel => exact ⟨d, sure, maybe, false, _, _, HKN.out, HR.out.2.2⟩
        case rest =>
          obtain ⟨d2, sure2, maybe2, o2, b2, vs2, hkn2, hbd2⟩ := hcut
          obtain ⟨rs2, hst2, hrs2⟩ := hkn2.sta
          obtain ⟨S2, r2, hb2, _, _, _⟩ := hst2.here
          have HK2 := Lib.hid hkn2
          have HBD2 := Lib.hid hbd2
          have HOV := Lib.hid (J.over hb2.journal)
          clear hkn2 hst2 hrs2 hb2 hbd2
          cases o2 with
          | true =>
            go_wp2_with fail
            refine HOV.out.mono ?_
            rintro e w7 ⟨rfl, rfl⟩
            go_wp2_with fail
            go_meet
            case rel => exact ⟨d2, sure2, maybe2, true, b2, vs2, HK2.out, Nat.le_trans HBD2.out HR.out.2.1⟩
          | false =>
            go_wp2_with fail
            refine HOV.out.mono ?_
            rintro e w7 ⟨rfl, rfl⟩
            go_wp2_with fail
            go_roundw
            case measure => simp [intOf]; omega
            case rel => exact ⟨k + 1, d2, sure2, maybe2, by omega, by simp, HK2.out.bare, HBD2.out⟩
      · go_wp2_with fail
        go_meet
        case rel => exact ⟨d, sure, maybe, false, 0, [], hkn, by have := total_le os k; have := HL.out.2; omega⟩
  case rest =>
    obtain ⟨d, sure, maybe, o, b, vs, hkn, hlen⟩ := hcut
    obtain ⟨rs, hst, _⟩ := hkn.sta
    obtain ⟨z, A2, ts, c2, rfl, rfl, hts, htl⟩ := hkn.anew
    have hon := hkn.on
    obtain ⟨S1, r1, hb1, p1, p2, _⟩ := hst.here
    have hfs : fits sure := fun p hp => hon.fits p (List.mem_append_left _ hp)
    have hfm : fits maybe := fun p hp => hon.fits p (List.mem_append_right _ hp)
    obtain ⟨A1, c1, rfl, _, hc1⟩ := opened_cap hst.row1 (fits_small hfs)
    obtain ⟨A3, c3, rfl, _, hc3⟩ := opened_cap hst.row2 (fits_small hfm)
    have HS1 := Lib.hid hst
    have HON := Lib.hid hon
    have HB7 := Lib.hid hb1
    have HP := Lib.hid (And.intro p1 p2)
    have HF := Lib.hid (And.intro hfs hfm)
    have HC := Lib.hid (And.intro hc1 hc3)
    have HTS := Lib.hid hts
    clear hkn hst hon hb1 p1 p2 hfs hfm hc1 hc3 hts
    go_wp2_with fail
    refine (C.crash keep HB7.out.disk HON.out.ok HK.out.1 HK.out.2).mono ?_
    rintro e w8 ⟨rfl, r8, hd8, ht8⟩
    have hbl8 := C.below HB7.out.disk ht8 HS1.out.base
    have hr1 := row_only HS1.out.row1 ht8.1 fun k hk hp => HP.out.1 k hk (Or.inr hp)
    have hr2 := row_only HS1.out.row2 ht8.1 fun k hk hp => HP.out.2 k hk (Or.inr hp)
    have ha1 := (show Apart _ _ from fun k hk hp => HP.out.1 k hk (Or.inr hp) : Apart (rowFoot (.slice A1 (texts sure).length c1)) (pair g r1)).next (Step.of_turn ht8) fun k hk => (Txt.low HS1.out.row1 k hk).2
    have ha2 := (show Apart _ _ from fun k hk hp => HP.out.2 k hk (Or.inr hp) : Apart (rowFoot (.slice A3 (texts maybe).length c3)) (pair g r1)).next (Step.of_turn ht8) fun k hk => (Txt.low HS1.out.row2 k hk).2
    have H8 := Lib.hid (And.intro hd8 (And.intro (HS1.out.below.trans hbl8) (And.intro (And.intro hr1 hr2) (And.intro ha1 ha2))))
    clear hd8 ht8 hbl8 hr1 hr2 ha1 ha2
    obtain ⟨kk, hk1, hk2, hk3⟩ := on_crash HON.out keep
    have HKK := Lib.hid hk3
    go_wp2_with fail
    refine (J.opens H8.out.1 (crashS_ok HON.out.ok keep) rfl (HT.out.later H8.out.2.1)).mono ?_
    rw [HKK.out]
    rintro e w9 ⟨gj9, l9, S9, r9, rfl, hB, ht, hst, _, _⟩
    have hfk : fits ((sure ++ maybe).take kk) := fun p hp => HON.out.fits p (List.mem_of_mem_take hp)
    obtain ⟨A9, c9, rfl, hs9, hc9⟩ := opened_cap ht (fits_small hfk)
    have hbl9 := Lib.hid (H8.out.2.1.trans (hst.low (fun k hk => by
      rcases hk with rfl | hk
      · exact (C.own H8.out.1).1
      · exact (C.own H8.out.1).2 k hk.symm) H8.out.2.1.size))
    have hr1 := row_only H8.out.2.2.1.1 hst.only fun k hk => H8.out.2.2.2.1 k hk
    have hr2 := row_only H8.out.2.2.1.2 hst.only fun k hk => H8.out.2.2.2.2 k hk
    have hs1 := (opened_at hr1 (fits_small HF.out.1)).1
    have hs3 := (opened_at hr2 (fits_small HF.out.2)).1
    have hpre : (texts ((sure ++ maybe).take kk)).take (texts sure).length = texts sure := by
      unfold texts
      rw [← List.map_take, List.length_map, List.take_take, Nat.min_eq_left hk1, List.take_left]
    have hpre2 : (texts sure ++ texts maybe).take (texts ((sure ++ maybe).take kk)).length = texts ((sure ++ maybe).take kk) := by
      rw [← texts_app]
      unfold texts
      rw [List.length_map, List.length_take, Nat.min_eq_left hk2, ← List.map_take]
    have hcnt := frs_count (sure ++ maybe)
    rw [List.length_append] at hcnt
    have hl1 : (texts sure).length + (texts maybe).length ≤ 100000 := by rw [texts_length, texts_length]; omega
    have hl9 : (texts ((sure ++ maybe).take kk)).length ≤ (texts sure).length + (texts maybe).length := by
      rw [texts_length, texts_length, texts_length, List.length_take, List.length_append]
      omega
    have hl19 : (texts sure).length ≤ (texts ((sure ++ maybe).take kk)).length := by
      rw [texts_length, texts_length, List.length_take, List.length_append]
      omega
    have hz2 : ∀ s ∈ texts sure ++ texts maybe, s.size ≤ 140737488355328 := both_small (fits_small HF.out.1) (fits_small HF.out.2)
    have H9 := Lib.hid (And.intro hs1 (And.intro hs3 hs9))
    have HPR := Lib.hid (And.intro hpre hpre2)
    have HZ2 := Lib.hid hz2
    have HCA := Lib.hid hc9
    clear hB ht hst hs1 hs3 hs9 hr1 hr2 hfk hpre hpre2 hz2 hc9 hk1 hk2 hk3 hcnt hlen HKK
    generalize texts ((sure ++ maybe).take kk) = l at *
    generalize texts sure = xs at *
    generalize texts maybe = ys at *
    unfold at_
    have HBG1 : Hid (∀ w', Below w9.heap.size w9 w' → Calls Tryd.prog 14 #[.slice A1 xs.length c1, .slice A9 l.length c9] w' fun e w'' => e = .returned (.bool true) ∧ Below w'.heap.size w' w'') := Lib.hid fun w' hb =>
      begins_yes A1 A9 xs l c1 c9 w' (H9.out.1.later hb) (H9.out.2.2.later hb) (by omega) HCA.out.2 HPR.out.1
    have HSM : Hid (∀ w', Below w9.heap.size w9 w' → Calls Tryd.prog 13 #[.slice A9 l.length c9, .slice A2 ts.length c2] w' fun e w'' => e = .returned (.bool (decide (l = ts))) ∧ Below w'.heap.size w' w'') := Lib.hid fun w' hb =>
      same_any A9 A2 l ts c9 c2 w' (H9.out.2.2.later hb) (HTS.out.later (hbl9.out.trans (hb.mono hbl9.out.size))) (by omega)
    cases z with
    | true =>
      by_cases hlt : l = ts
      · rw [decide_eq_true hlt] at HSM
        clear hlt
        go_wp2_with fail
        refine (HSM.out w9 (Below.refl _ _)).mono ?_
        rintro e w10 ⟨rfl, hb10⟩
        have HB10 := Lib.hid (hbl9.out.trans (hb10.mono hbl9.out.size))
        clear hb10
        go_wp2_with fail
        go_returns
        exact ⟨rfl, HB10.out⟩
      · rw [decide_eq_false hlt] at HSM
        clear hlt
        go_wp2_with fail
        refine (HSM.out w9 (Below.refl _ _)).mono ?_
        rintro e w10 ⟨rfl, hb10⟩
        have HB10 := Lib.hid hb10
        clear hb10
        go_wp2_with fail
        refine (HBG1.out w10 HB10.out).mono ?_
        rintro e w11 ⟨rfl, hb11⟩
        have HB11 := Lib.hid (HB10.out.trans (hb11.mono HB10.out.size))
        have HA11 := Lib.hid (below_alloc w11 (.cells #[] 9))
        have HBA := Lib.hid (HB11.out.trans (HA11.out.mono HB11.out.size))
        have HT11 := Lib.hid (txt_new w11 w11.heap.size (Nat.le_refl _))
        clear hb11
        go_wp2_with (first
          | (at_builtin
             refine wpList_texts_if (by rfl) (.tmp 133) (.tmp 134) rfl w11.heap.size _ [] xs A1 c1 rfl HT11.out rfl (H9.out.1.later HBA.out) (by simp only [List.length_nil]; omega) HA11.out.size HC.out.1.1 ?_
             intro v12 w12 ht12 hg12 hat12
             have HB12 := Lib.hid ((Below.refl w11.heap.size w11).trans (HA11.out.trans ((Only.of_grown hg12).below HA11.out.size fun k hk => (Txt.low HT11.out k hk.symm).1)))
             have HT12 := Lib.hid ht12
             have HS12 := Lib.hid (HB11.out.trans (HB12.out.mono HB11.out.size))
             clear ht12 hg12 hat12)
          | (at_builtin
             refine wpList_texts_if (by rfl) (.tmp 135) (.tmp 136) rfl w11.heap.size _ ([] ++ xs) ys A3 c3 rfl HT12.out rfl (H9.out.2.1.later HS12.out) (by simp only [List.nil_append]; omega) HB12.out.size HC.out.2.1 ?_
             intro v13 w13 ht13 hg13 hat13
             have HB13 := Lib.hid (HB12.out.trans ((Only.of_grown hg13).below HB12.out.size fun k hk => (Txt.low HT12.out k hk.symm).1))
             rw [List.nil_append] at ht13
             obtain ⟨A13, c13, rfl, hs13, hc13⟩ := opened_cap ht13 HZ2.out
             have HS13 := Lib.hid (And.intro hs13 hc13)
             have HS14 := Lib.hid (HB11.out.trans (HB13.out.mono HB11.out.size))
             have HG := Lib.hid (begins_yes A9 A13 l (xs ++ ys) c9 c13 w13 (H9.out.2.2.later HS14.out) HS13.out.1 (by omega) HS13.out.2.2 HPR.out.2)
             rw [List.length_append] at HG
             clear ht13 hg13 hat13 hs13 hc13))
        refine HG.out.mono ?_
        rintro e w14 ⟨rfl, hb14⟩
        have HB14 := Lib.hid (hbl9.out.trans ((HS14.out.trans (hb14.mono HS14.out.size)).mono hbl9.out.size))
        clear hb14
        go_wp2_with fail
        go_returns
        exact ⟨rfl, HB14.out⟩
    | false =>
      have HB10 := Lib.hid (Below.refl w9.heap.size w9)
      go_wp2_with fail
      refine (HBG1.out w9 HB10.out).mono ?_
      rintro e w11 ⟨rfl, hb11⟩
      have HB11 := Lib.hid (HB10.out.trans (hb11.mono HB10.out.size))
      have HA11 := Lib.hid (below_alloc w11 (.cells #[] 9))
      have HBA := Lib.hid (HB11.out.trans (HA11.out.mono HB11.out.size))
      have HT11 := Lib.hid (txt_new w11 w11.heap.size (Nat.le_refl _))
      clear hb11
      go_wp2_with (first
        | (at_builtin
           refine wpList_texts_if (by rfl) (.tmp 133) (.tmp 134) rfl w11.heap.size _ [] xs A1 c1 rfl HT11.out rfl (H9.out.1.later HBA.out) (by simp only [List.length_nil]; omega) HA11.out.size HC.out.1.1 ?_
           intro v12 w12 ht12 hg12 hat12
           have HB12 := Lib.hid ((Below.refl w11.heap.size w11).trans (HA11.out.trans ((Only.of_grown hg12).below HA11.out.size fun k hk => (Txt.low HT11.out k hk.symm).1)))
           have HT12 := Lib.hid ht12
           have HS12 := Lib.hid (HB11.out.trans (HB12.out.mono HB11.out.size))
           clear ht12 hg12 hat12)
        | (at_builtin
           refine wpList_texts_if (by rfl) (.tmp 135) (.tmp 136) rfl w11.heap.size _ ([] ++ xs) ys A3 c3 rfl HT12.out rfl (H9.out.2.1.later HS12.out) (by simp only [List.nil_append]; omega) HB12.out.size HC.out.2.1 ?_
           intro v13 w13 ht13 hg13 hat13
           have HB13 := Lib.hid (HB12.out.trans ((Only.of_grown hg13).below HB12.out.size fun k hk => (Txt.low HT12.out k hk.symm).1))
           rw [List.nil_append] at ht13
           obtain ⟨A13, c13, rfl, hs13, hc13⟩ := opened_cap ht13 HZ2.out
           have HS13 := Lib.hid (And.intro hs13 hc13)
           have HS14 := Lib.hid (HB11.out.trans (HB13.out.mono HB11.out.size))
           have HG := Lib.hid (begins_yes A9 A13 l (xs ++ ys) c9 c13 w13 (H9.out.2.2.later HS14.out) HS13.out.1 (by omega) HS13.out.2.2 HPR.out.2)
           rw [List.length_append] at HG
           clear ht13 hg13 hat13 hs13 hc13))
      refine HG.out.mono ?_
      rintro e w14 ⟨rfl, hb14⟩
      have HB14 := Lib.hid (hbl9.out.trans ((HS14.out.trans (hb14.mono HS14.out.size)).mono hbl9.out.size))
      clear hb14
      go_wp2_with fail
      go_returns
      exact ⟨rfl, HB14.out⟩

theorem opened {H : Type} {enc : TypeId × Value → H} {W : World} {base : Nat} {gs : List (DataW H)} (v0 : Value) (d0 : DataW H) (p0 : List MemPlace) (v1 : Value) (d1 : DataW H) (p1 : List MemPlace)
    (o0 : Value.okWide Tryd.prog W .any base 22 v0) (t0 : DataW.Trod enc Tryd.prog W 0 (fun _ => true) true 22 v0 d0 p0)
    (o1 : Value.okWide Tryd.prog W .any base 3 v1) (t1 : DataW.Trod enc Tryd.prog W 0 (fun _ => true) true 3 v1 d1 p1)
    (hsz : (DataW.weightsEach Tryd.prog ([22, 3] ++ []) ([d0, d1] ++ gs)).all (· ≤ reachBytes) = true) (hT : Tab W) :
    Calls Tryd.prog 3 #[v0, v1] W fun e W' => e = .returned (.bool true) ∧ Below W.heap.size W W' := by
  obtain ⟨A, os, c, rfl, hs, _⟩ := open_ops o0 t0 (Base.small_of hsz (j := 0) rfl rfl)
  obtain ⟨n, rfl, rfl, rfl, hn⟩ := open_int Tryd.underlying3 o1 t1
  cases h : small 40 9000 os
  · exact walk_great _ Journal.code A os c n W hs hT h
  · exact walk _ Journal.code A os c n W hs hT h (range64 hn)

theorem contract (H : Type) (enc : TypeId × Value → H) (W : World) (base : Nat) (args : Array Value) (ds gs : List (DataW H)) (before : List MemPlace)
    (hval : ∀ (j : Nat) t v, Tryd.f3.params[j]? = some t → args[j]? = some v → Value.okWide Tryd.prog W .any base t v)
    (hW : DataW.Whole enc Tryd.prog Tryd.f3.params.toList Rows.journalKeepsSpec.vars false W args.toList ds gs before)
    (hsz : (DataW.weightsEach Tryd.prog (Tryd.f3.params.toList ++ []) (ds ++ gs)).all (· ≤ reachBytes) = true) (hG : Tab W) :
    Calls Tryd.prog 3 args W fun e W' => ∃ v, e = .returned v ∧ Rows.journalKeepsSpec.post enc Tryd.prog Tryd.f3 false true false false W args v W' := by
  have hW0 := hW
  obtain ⟨p, q, hA0, hV, rfl, _, _⟩ := hW
  have hA : DataW.TrodAll enc Tryd.prog W 0 (fun _ => true) true Tryd.f3.params.toList args.toList ds p := hA0
  rw [Tryd.params3] at hA hval hsz
  obtain ⟨v0, vs0, d0, ds0, p0, q0, hargs, rfl, rfl, h0, r0⟩ := trodAll_cons hA
  obtain ⟨v1, vs1, d1, ds1, p1, q1, rfl, rfl, rfl, h1, r1⟩ := trodAll_cons r0
  obtain ⟨rfl, rfl, rfl⟩ := trodAll_nil r1
  obtain rfl : args = #[v0, v1] := by cases args; simp_all
  refine (opened v0 d0 p0 v1 d1 p1 (hval 0 22 v0 rfl rfl) h0 (hval 1 3 v1 rfl rfl) h1 hsz hG).mono fun e W' ⟨he, hb⟩ => ⟨_, he, ?_⟩
  exact Base.law_post (tb := 4) Base.laidOut (by kernel_rfl) rfl Tryd.underlying4 rfl (fun l hl => by
    rw [Tryd.params3] at hl
    match l, hl with
    | [_, _], _ => rfl) (by rw [Tryd.params3]; rfl) hW0 hb

theorem laid_met (os : Os) : laidMet Tryd.prog Rows.journalKeepsRow.laid ((laidWorld os).forCall (fun _ _ => 0) ⟨#[], #[.slice none 0 0, .int .i64 0], []⟩).memory :=
  laidMet_of_run' 8 (by kernel_rfl) (by kernel_rfl)
theorem reads (os : Os) {H : Type} (enc : TypeId × Value → H) : ∃ places, DataW.whole enc Tryd.prog ((laidWorld os).forCall (fun _ _ => 0) ⟨#[], #[.slice none 0 0, .int .i64 0], []⟩).memory Tryd.f3.params.toList Rows.journalKeepsSpec.vars false (#[.slice none 0 0, .int .i64 0] : Array Value).toList 8 = some ([.nil, .lit (.int .i64 0)], [], places) :=
  ⟨[], by kernel_rfl⟩

set_option maxRecDepth 100000 in
theorem lifted (os : Os) (started : os.Started) (H : Type) (enc : TypeId × Value → H) (F : Stop.Interp) :
    ReturnsInHanded {} Tryd.checked os 3 .any ((OpenSpec.ofChange Rows.journalKeepsSpec).preRow enc Tryd.prog Tryd.f3 Rows.journalKeepsRow.domain false Rows.journalKeepsRow.laid) (((OpenSpec.ofChange Rows.journalKeepsSpec).at F).post enc Tryd.prog Tryd.f3 false true false false) := by
  obtain ⟨places, hx⟩ := reads os enc
  refine returnsInHanded_of_row (C := Tryd.checked) (s := OpenSpec.ofChange Rows.journalKeepsSpec) Base.own started (by kernel_rfl) Tryd.func3
    (witness_row_at (enc := enc) (C := Tryd.checked) false (laidWorld os) #[.slice none 0 0, .int .i64 0] rfl (by kernel_rfl) (by kernel_rfl) (by kernel_rfl)
      (OpenSpec.preRow_of_cond 8 hx (by kernel_rfl) (fun k hk => by cases hk) (by kernel_rfl) (laid_met os))) ?_
  intro W base args ds gs before hval hW _ _ hsz hL _ _
  exact contract H enc W base args ds gs before hval hW hsz (table hL)

theorem said : Rows.JournalKeepsSaid :=
  OpenClaim.holds_of_cond 3 Tryd.f3 rfl rfl rfl rfl rfl rfl rfl ⟨rfl, rfl, rfl, rfl, rfl⟩ rfl rfl rfl rfl rfl (by kernel_rfl) Tryd.func3 (by kernel_rfl)
    (of_decide_eq_true (by kernel_rfl)) (by unfold Func.isWrapper; rw [if_neg (of_decide_eq_false (by kernel_rfl))]; exact ⟨rfl, rfl⟩)
    (fun os started H enc _ F => by rw [OpenClaim.pre_eq_preRow]; exact lifted os started H enc F)

theorem plain (f : FuncId) (fn : Func) (hf : Tryd.pinned.checked.prog.funcNamed "remuda/remudalaw05.JournalKeeps" = some f) (hfn : Tryd.pinned.checked.prog.funcs[f]? = some fn) :
    false = Tryd.pinned.checked.prog.looks [] ∧ ∀ (j : Nat) t, fn.params[j]? = some t → Tryd.pinned.checked.prog.wantsStandIn t = false := by
  obtain rfl : f = 3 := Option.some.inj ((show Tryd.prog.funcNamed "remuda/remudalaw05.JournalKeeps" = some 3 by kernel_rfl).symm.trans hf) |>.symm
  obtain rfl : fn = Tryd.f3 := (Option.some.inj (Tryd.func3.symm.trans hfn)).symm
  refine ⟨by kernel_rfl, fun j t ht => ?_⟩
  have hall : Tryd.f3.params.toList.all (fun t => !(Tryd.prog.wantsStandIn t)) = true := by kernel_rfl
  have hm : t ∈ Tryd.f3.params.toList := by simpa using Array.mem_of_getElem? ht
  have h := List.all_eq_true.1 hall t hm
  exact (by simpa using h : Tryd.prog.wantsStandIn t = false)

theorem card : Rows.JournalKeepsCardSaid :=
  Claim7.holds_tied_plain_at .later [] _ _ _ _ said (fun _ h => by cases h) (by kernel_rfl) (fun _ h => by cases h) journalKeeps_row_tie rfl ⟨rfl, rfl⟩ (by kernel_rfl) rfl plain (by kernel_rfl)
#print axioms card
end Go.Proofs.YtfdhckfpkhoheaaDoor.JournalKeeps
