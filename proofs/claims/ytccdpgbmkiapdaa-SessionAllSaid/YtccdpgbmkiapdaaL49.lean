/-
  Layer 14, SessionOnce: an act is done.
  Conditions: none.
-/
import Derived.Test.YtccdpgbmkiapdaaL48
import Derived.Test.YtccdpgbmkiapdaaL25
import Derived.BigQuiet
namespace Go.Proofs.Ytccdpgbmkiapdaa.Ses
set_option maxRecDepth 100000
open Go.ChangeShapes Go.WideShapes Go.ChangeAt Go.RowKit Go.Deep Go.Proofs.Ytccdpgbmkiapdaa.Mem Go.Proofs.Ytccdpgbmkiapdaa.Win Go.ChangeMaps Go.MapKept
def Ac.val (a : Ac) : Value := .agg #[.int .i64 a.k, .int .i64 a.a, .int .i64 a.n]
def atI (n : Int) (len : Nat) : Int := if len = 0 then -1 else (atM n len : Int)
theorem atM_lt {n : Int} {len : Nat} (h : 0 < len) : atM n len < len := by
 unfold atM
 have h2 := Int.tmod_lt_of_pos (n.tmod len + len) (show (0 : Int) < (len : Int) by omega)
 omega
theorem atM_eq {n : Int} {len : Nat} (h : 0 < len) : (n.tmod (len : Int) + (len : Int)).tmod (len : Int) = (atM n len : Int) := by
 unfold atM
 have h1 : -(len : Int) < n.tmod len := by
  have := Int.lt_tmod_of_pos n (show (0 : Int) < (len : Int) by omega)
  omega
 have h2 := Int.tmod_nonneg (len : Int) (show (0 : Int) ≤ n.tmod len + len by omega)
 omega
theorem act_none {P : Pr} {x : Ac} (h : P.way = []) : P.way[atM x.n P.way.length]? = none := by rw [h]; rfl
set_option maxHeartbeats 2000000 in
theorem do_any {B pb k j : Nat} {w : World} {P : Pr} (h : PAtE B w pb P) (hJ : PJ k j P) (hk : k ≤ 1000) (hj : j ≤ 1000000) (x : Ac) :
  Calls Try.prog 30 #[.pointer (some ⟨pb, 0, none⟩), x.val] w fun e w' => e = .returned (.bool true) ∧ PAtE B w' pb (doM P x).2 ∧ Below B w w' := by
 obtain ⟨s0, s1, F0, F1, V, vc, mf, mt, m, h⟩ := h
 obtain ⟨K, A, N⟩ := x
 unfold Ac.val
 obtain ⟨PD, hPD⟩ : ∃ q, (doM P ⟨K, A, N⟩).2 = q := ⟨_, rfl⟩
 rw [hPD]
 have HPD := Lib.hid hPD
 clear hPD
 obtain ⟨n, hn⟩ : ∃ n, P.way.length = n := ⟨_, rfl⟩
 have HJ := Lib.hid hJ
 have hfew := hJ.pi.few
 rw [hn] at hfew
 obtain ⟨a, ha⟩ : ∃ a, sideOf A = a := ⟨_, rfl⟩
 have ha2 : a < 2 := by rw [← ha]; exact sideOf_lt A
 have hand : bits .and .i64 A 1 = (a : Int) := by rw [i64_and1, ← ha]; unfold sideOf; omega
 obtain ⟨w1, hw1⟩ : ∃ W, W = w.alloc (.cells #[.int .i64 K, .int .i64 A, .int .i64 N] 77) := ⟨_, rfl⟩
 have hb1 : Below w.heap.size w w1 := by rw [hw1]; exact below_alloc _ _
 have hc1 : Cells w1 w.heap.size 77 [.int .i64 K, .int .i64 A, .int .i64 N] := by rw [hw1]; exact cells_new _ _ _ _ rfl
 obtain ⟨xb, hxb⟩ : ∃ q, w.heap.size = q := ⟨_, rfl⟩
 have h1 := h.later hb1
 have HXK : Hid (∀ q, F0 q ∨ F1 q ∨ q = pb ∨ blk V = some q ∨ q = mf ∨ q = mt → q < xb) := Lib.hid fun q e => by
  rw [← hxb]
  rcases e with e | e | rfl | e | rfl | rfl
  ·exact SAt.lt h.a0 q e
  ·exact SAt.lt h.a1 q e
  ·exact h.way.box.lt
  ·exact (h.vlow q e).2
  ·exact h.src.lt
  ·exact h.took.lt
 rw [hxb] at hc1
 have HC1 := Lib.hid hc1
 have HP1 := Lib.hid h1
 have HB1 : Hid (Below B w w1) := Lib.hid (hb1.mono h.size)
 have x0 := hc1.cell (j := 0) rfl
 have x1 := hc1.cell (j := 1) rfl
 have x2 := hc1.cell (j := 2) rfl
 have c4 : w1.cell? ⟨pb, 4, none⟩ = some (.slice V n vc) := by rw [← hn]; exact h1.way.box.cell (j := 4) rfl
 have HN := Lib.hid hn
 have HSA := Lib.hid ha
 clear h hJ hb1 hc1 h1 hn ha
 go_enter Try.func30, Try.ntmps30
 go_upto_region 1 with (fail)
 rw [← hw1]
 clear hw1 hxb
 go_upto_region 3 with (fail)
 obtain ⟨av, hav⟩ : ∃ q, atI N n = q := ⟨_, rfl⟩
 have HAV := Lib.hid hav
 clear hav
 obtain ⟨bn, hbn⟩ : ∃ b, decide (0 < n) = b := ⟨_, rfl⟩
 go_cut [18] from 13 to 17 (fun v wx => v = .bool bn ∧ wx = w1)
 case first =>
  have hbn' : decide ((n : Int) > 0) = bn := by rw [← hbn]; exact decide_eq_decide.2 (by omega)
  go_wp2_with fail
  go_meet
  exact ⟨rfl, rfl⟩
 obtain ⟨rfl, hwr⟩ := hcut
 rw [hwr]
 clear hwr
 apply_assumption
 go_cut [6] from 19 to 38 (fun v wx => v = .int .i64 av ∧ Hid (∃ q, wx = w1.drewN q))
 case first =>
  by_cases hn0 : n = 0
  ·obtain rfl : av = -1 := by rw [← HAV.out]; unfold atI; rw [if_pos hn0]
   obtain rfl : bn = false := by rw [← hbn]; exact decide_eq_false (by omega)
   go_wp2_with fail
   go_meet
   exact ⟨rfl, Lib.hid ⟨0, rfl⟩⟩
  ·have hn1 : 0 < n := by omega
   have hat := atM_eq (n := N) hn1
   obtain rfl : (atM N n : Int) = av := by rw [← HAV.out]; unfold atI; rw [if_neg hn0]
   obtain rfl : bn = true := by rw [← hbn]; exact decide_eq_true hn1
   have e2 : ((n : Int) == 0) = false := by simp; omega
   have hb1 := Int.tmod_lt_of_pos N (show (0 : Int) < (n : Int) by omega)
   have hb2 := Int.lt_tmod_of_pos N (show (0 : Int) < (n : Int) by omega)
   obtain ⟨r, hr⟩ : ∃ r, N.tmod (n : Int) = r := ⟨_, rfl⟩
   rw [hr] at hat hb1 hb2
   obtain ⟨am, ham⟩ : ∃ r, atM N n = r := ⟨_, rfl⟩
   rw [ham] at hat
   have hw1 : IntKind.i64.wrap (r + (n : Int)) = r + (n : Int) := by rw [IntKind.wrap_i64]; omega
   have hw2 : IntKind.i64.wrap r = r := by rw [IntKind.wrap_i64]; omega
   have hw3 : IntKind.i64.wrap (am : Int) = (am : Int) := by rw [IntKind.wrap_i64]; have := atM_lt (n := N) hn1; omega
   have HAM := Lib.hid ham
   clear ham
   go_wp2_with fail
   go_quiet (fail)
   go_wp2_with fail
   go_meet
   exact ⟨by rw [HAM.out], Lib.hid ⟨_, rfl⟩⟩
 obtain ⟨rfl, HQ⟩ := hcut
 obtain ⟨w2, hw2⟩ : ∃ W, W = wc := ⟨_, rfl⟩
 subst hw2
 have hb2 : Below w1.heap.size w1 w2 := by obtain ⟨q, rfl⟩ := HQ.out; exact below_drewN (Below.refl _ _) q
 have HP2 := Lib.hid (HP1.out.later hb2)
 have hc2 := HC1.out.later hb2
 have HB2 : Hid (Below B w w2) := Lib.hid (HB1.out.trans (hb2.mono HP1.out.size))
 have x0 := hc2.cell (j := 0) rfl
 have x1 := hc2.cell (j := 1) rfl
 have x2 := hc2.cell (j := 2) rfl
 have HC2 := Lib.hid hc2
 have HQA := Lib.hid (HJ.out.q a ha2)
 clear hb2 hc2 HP1 HC1 HB1 HQ c4 hbn
 apply_assumption
 by_cases hK0 : K = 0
 ·subst hK0
  have hdo : (doM P ⟨0, A, N⟩).2 = sendP P a := by unfold doM; rw [if_pos rfl, ← HSA.out]
  obtain rfl := hdo.symm.trans HPD.out
  clear hdo
  have hsk := HJ.out.pi.sent
  obtain ⟨sn, hsn⟩ : ∃ q, P.sent = q := ⟨_, rfl⟩
  obtain ⟨u1, hu1⟩ : ∃ q, sn + 1 = q := ⟨_, rfl⟩
  have hu1' : (sn : Int) + 1 = (u1 : Int) := by omega
  rw [hsn] at hsk
  have c5 : w2.cell? ⟨pb, 5, none⟩ = some (.int .i64 (sn : Int)) := by rw [← hsn]; exact HP2.out.way.box.cell (j := 5) rfl
  have f5 : w2.frozen? ⟨pb, 5, none⟩ = false := HP2.out.way.box.frozen (j := 5) (by simp)
  obtain ⟨w3, hw3⟩ : ∃ W, W = w2.setCell ⟨pb, 5, none⟩ (.int .i64 (u1 : Int)) := ⟨_, rfl⟩
  have hp3 : PrAt B w3 pb { P with sent := u1 } s0 s1 F0 F1 V vc mf mt m := by
   rw [hw3]
   exact HP2.out.boxTurn (Only.of_set w2 ⟨pb, 5, none⟩ _) (HP2.out.way.box.set_ 5 (.int .i64 (u1 : Int)))
  have hb3 : Below B w2 w3 := by rw [hw3]; exact (Below.refl _ _).setCell HP2.out.low.1 _
  have c5' : w3.cell? ⟨pb, 5, none⟩ = some (.int .i64 (u1 : Int)) := hp3.way.box.cell (j := 5) rfl
  have HP3 := Lib.hid hp3
  have HB3 := Lib.hid (HB2.out.trans hb3)
  have HNM := Lib.hid (name_any u1 (by omega) w3)
  have HU := Lib.hid (And.intro hsn hu1)
  obtain ⟨nb, hnb⟩ : ∃ q, nameB u1 = q := ⟨_, rfl⟩
  rw [hnb] at HNM
  have HNB := Lib.hid hnb
  clear hsn hp3 hb3 hu1 hnb
  go_upto_region 7 with (fail)
  rw [← hw3]
  clear hw3 c5 f5 hu1'
  go_wp2_with fail
  refine HNM.out.mono ?_
  rintro e w4 ⟨rfl, hb4⟩
  have hp4 := HP3.out.later hb4
  have HB4 := Lib.hid (HB3.out.trans (hb4.mono HP3.out.size))
  obtain ⟨st, Ft, cs0, ce0, hsat, hfk, hstep⟩ := hp4.side ha2
  obtain ⟨w5, hw5⟩ : ∃ W, W = w4.alloc (.cells #[.string nb] 9) := ⟨_, rfl⟩
  have hb5 : Below w4.heap.size w4 w5 := by rw [hw5]; exact below_alloc _ _
  have hc5 : Cells w5 w4.heap.size 9 [.string nb] := by rw [hw5]; exact cells_new _ _ _ _ rfl
  have hstr : Strs w5 (some ⟨w4.heap.size, 0, none⟩) [nb] := fun q hq => by
   obtain rfl : q = 0 := by simpa using hq
   exact ⟨_, rfl, hc5.cell (j := 0) rfl, by show nb.size ≤ _; rw [← HNB.out, nameB_size]; decide⟩
  have hse := Send_any (hsat.later hb5) HQA.out.ok (by omega) (Nat.le_trans hp4.size hb5.size) (xo a) (some ⟨w4.heap.size, 0, none⟩) [nb] 1 hstr (fun ad e _ hF => by
   have e2 : (⟨w4.heap.size, 0, none⟩ : Addr) = ad := Option.some.inj e
   rw [← e2] at hF
   have := SAt.lt hsat _ hF
   exact absurd this (Nat.lt_irrefl _)) (by show 1 ≤ 1000000; decide)
  have hsf := sendF (S := P.s a) nb (other_xo ha2 (HJ.out.pi.node _ ha2) (HJ.out.pi.len _ ha2))
  have hsw := sendM_few (S := P.s a) (xo a) [nb]
  obtain ⟨R, hR⟩ : ∃ R, sendM (P.s a) (xo a) [nb] = R := ⟨_, rfl⟩
  have hse : Calls Try.prog 18 #[.pointer (some ⟨st, 0, none⟩), .int .i64 (2 - (a : Int)), .slice (some ⟨w4.heap.size, 0, none⟩) 1 1] w5 fun e w' => ∃ V6 n6 c6, e = .returned (.tuple #[.slice V6 n6 c6, .int .i64 R.2.1]) ∧ OwnG 89 6 Ot.vals w5.heap.size w' (.slice V6 n6 c6) R.1 ∧
    (∃ G0 G1, PrAt B w' pb { P with sent := u1, s := setS P.s a R.2.2 } s0 s1 G0 G1 V vc mf mt m) ∧ Below B w4 w' := by
   rw [← hR]
   refine hse.mono ?_
   rintro e w' ⟨V6, n6, c6, F', rfl, hrow, hst, _⟩
   exact ⟨V6, n6, c6, rfl, hrow, hstep (SStep.before hb5 hst) hsf.1.epoch⟩
  rw [hR] at hsf hsw
  have HSE := Lib.hid hse
  have HSF := Lib.hid hsf
  have HSW := Lib.hid hsw
  have HRE := Lib.hid hR
  have HP4 := Lib.hid hp4
  have H45 : Hid (w4.heap.size ≤ w5.heap.size) := Lib.hid hb5.size
  have hai : (a : Int) < 2 := by omega
  obtain ⟨er, her⟩ : ∃ q, R.2.1 = q := ⟨_, rfl⟩
  rw [her] at HSE
  have HER := Lib.hid her
  clear hb4 hp4 ce0 hsat hfk hstep hb5 hc5 hstr hse hsf hsw hR HNM HP3 HB3 c5' her
  go_wp2_with fail
  rw [← hw5]
  clear hw5 cs0
  refine HSE.out.mono ?_
  rintro e w6 ⟨V6, n6, c6, rfl, hrow, ⟨G0, G1, hpr⟩, hbl⟩
  have HPR := Lib.hid hpr
  have HROW := Lib.hid hrow
  have HB6 := Lib.hid (HB4.out.trans hbl)
  have b6 : w6.cell? ⟨pb, 6, none⟩ = some (.map (some mf)) := hpr.way.box.cell (j := 6) rfl
  obtain rfl : n6 = R.1.length := (OwnG.sl fit_ot hrow).1
  clear hpr hrow hbl HSE
  by_cases h0 : er = 0
  ·subst h0
   have hsd : sendP P a = ⟨setS P.s a R.2.2, putW P.way R.1, u1, ⟨a, (P.s a).epoch, (peerOf (P.s a) (xo a)).last + 1, nb⟩ :: P.log, P.took⟩ := by
    unfold sendP
    rw [HU.out.1, HU.out.2, HNB.out, HRE.out]
    dsimp only
    rw [if_pos HER.out]
   obtain ⟨r, hr⟩ : ∃ r : Sn, (⟨a, (P.s a).epoch, (peerOf (P.s a) (xo a)).last + 1, nb⟩ : Sn) = r := ⟨_, rfl⟩
   rw [hr] at hsd
   have hrp : r.pay = nb := by rw [← hr]
   have hrs : r.side = a := by rw [← hr]
   obtain ⟨w7, hst7, hp7, hbl7, ho7⟩ := HPR.out.fromPut r (by rw [hrp, ← HNB.out, nameB_size]; decide) fun q hq e => by
    obtain ⟨l, h1, h2, h3⟩ := HJ.out.pi.name q hq
    rw [h3, hrp, ← HNB.out] at e
    have hu := HU.out
    have := nameB_inj (by omega) (by omega) e
    omega
   rw [hrp, hrs] at hst7
   have hmf := HP4.out.src.lt
   have hro7 : OwnG 89 6 Ot.vals w5.heap.size w7 (.slice V6 R.1.length c6) R.1 := row_only HROW.out ho7 fun q e e2 => by
    have h1 := (World.ownsRow.lt HROW.out q e).1
    have := H45.out
    omega
   have hlt := fun q (e : blk V6 = some q) => World.ownsRow.lt hro7 q (by rw [own_blk]; exact e)
   have HPUT := Lib.hid (put_out hp7 (by show P.way.length ≤ 300; exact HJ.out.pi.few) R.1 V6 c6 (OwnG.sl fit_ot hro7).2 (by have := HSW.out; simp at this; omega) (fun o ho => by
    have := ((HSF.out.2.2.2 HER.out).2 o ho).1
    unfold xo at this
    omega) (fun q e => by
    have h1 := hlt q e
    have h2 := HP4.out.way.box.lt
    have h4 := H45.out
    refine ⟨by omega, fun e2 => ?_⟩
    have h3 := (HP4.out.vlow q e2).2
    omega) (fun q e => (hlt q e).2))
   have HSD := Lib.hid hsd
   have HB7 := Lib.hid (HB6.out.trans hbl7)
   clear hsd hr hrp hrs hp7 hbl7 ho7 hmf hro7 hlt HSF HSW
   go_wp2_with fail
   refine HPUT.out.mono ?_
   rintro e w8 ⟨rfl, hpe, hbl8⟩
   have HF : Hid (PAtE B w8 pb (sendP P a) ∧ Below B w w8) := Lib.hid ⟨by rw [HSD.out]; exact hpe, HB7.out.trans hbl8⟩
   clear hpe hbl8 HPUT
   go_wp2_with fail
   go_returns
   exact ⟨rfl, HF.out.1, HF.out.2⟩
  ·have e3 : (er == 0) = false := by simpa using h0
   have HF : Hid (PAtE B w6 pb (sendP P a)) := Lib.hid (by
    have hsd : sendP P a = ⟨setS P.s a R.2.2, P.way, u1, P.log, P.took⟩ := by
     unfold sendP
     rw [HU.out.1, HU.out.2, HNB.out, HRE.out]
     dsimp only
     rw [if_neg (by rw [HER.out]; exact h0)]
    rw [hsd]
    exact ⟨_, _, _, _, _, _, _, _, _, HPR.out⟩)
   clear h0
   go_wp2_with fail
   go_returns
   exact ⟨rfl, HF.out, HB6.out⟩
 have k0 : (K == 0) = false := by simpa using hK0
 by_cases hK4 : K = 4
 ·subst hK4
  have hdo : (doM P ⟨4, A, N⟩).2 = tickW P a := by unfold doM; rw [if_neg (by show ¬ (4 : Int) = 0; decide), if_pos rfl, ← HSA.out]
  obtain rfl := hdo.symm.trans HPD.out
  obtain ⟨st, Ft, cs0, ce0, hsat, hfk, hstep⟩ := HP2.out.side ha2
  have hq := HQA.out
  have HTK := Lib.hid (Tick_any hsat hq.ok HP2.out.size fun i hi e => hq.lone i _ (List.getElem?_eq_getElem hi) e)
  have hst2 := fun (F' : Nat → Prop) (w' : World) hs => hstep (S' := (tickM (P.s a)).2) (F' := F') (w' := w') hs (tick_fix _).epoch
  have HST := Lib.hid hst2
  clear hst2
  have hai : (a : Int) < 2 := by omega
  clear ce0 hsat hfk hstep hq hdo
  go_wp2_with fail
  refine HTK.out.mono ?_
  rintro r w3 ⟨V5, n5, c5, F', rfl, hrow, hst, hnf⟩
  obtain ⟨⟨G0, G1, hpr⟩, hbl⟩ := HST.out _ _ hst
  obtain ⟨hn5, hsl⟩ := OwnG.sl fit_ot hrow
  have hlt := fun q (e : blk V5 = some q) => World.ownsRow.lt hrow q (by rw [own_blk]; exact e)
  have HPUT := Lib.hid (put_out hpr (by show P.way.length ≤ 300; exact HJ.out.pi.few) (tickM (P.s a)).1 V5 c5 hsl (Nat.le_trans (tickM_few HQA.out.ok) (by decide)) (fun o ho => by
   obtain ⟨j, p, h1, h2, _⟩ := tickO_mem ho
   have := (List.getElem?_eq_some_iff.1 h1).1
   have := HJ.out.pi.len a ha2
   omega) (fun q e => by
   have h1 := hlt q e
   have h2 := HP2.out.way.box.lt
   refine ⟨by omega, fun e2 => ?_⟩
   have h3 := (HP2.out.vlow q e2).2
   omega) (fun q e => (hlt q e).2))
  have HB3 := Lib.hid (HB2.out.trans hbl)
  subst hn5
  clear hrow hst hnf hpr hbl hsl hlt HTK HST
  go_wp2_with fail
  refine HPUT.out.mono ?_
  rintro e w4 ⟨rfl, hpe, hbl4⟩
  have HF := Lib.hid (And.intro hpe (HB3.out.trans hbl4))
  clear hpe hbl4 HPUT
  go_wp2_with fail
  go_returns
  exact ⟨rfl, HF.out.1, HF.out.2⟩
 have k4 : (K == 4) = false := by simpa using hK4
 by_cases hK5 : K = 5
 ·subst hK5
  have hdo : (doM P ⟨5, A, N⟩).2 = anewP P a := by unfold doM; rw [if_neg (by show ¬ (5 : Int) = 0; decide), if_neg (by show ¬ (5 : Int) = 4; decide), if_pos rfl, ← HSA.out]
  obtain rfl := hdo.symm.trans HPD.out
  have HAN := Lib.hid (anew_any ⟨_, _, _, _, _, _, _, _, _, HP2.out⟩ HJ.out hk ha2)
  clear hdo
  go_wp2_with fail
  refine HAN.out.mono ?_
  rintro e w3 ⟨rfl, hpe, hbl⟩
  have HF := Lib.hid (And.intro hpe (HB2.out.trans hbl))
  clear hpe hbl HAN
  go_wp2_with fail
  go_returns
  exact ⟨rfl, HF.out.1, HF.out.2⟩
 have k5 : (K == 5) = false := by simpa using hK5
 by_cases hn0 : n = 0
 ·have hwn : P.way = [] := List.eq_nil_of_length_eq_zero (by rw [HN.out]; exact hn0)
  have hdo : (doM P ⟨K, A, N⟩).2 = P := by unfold doM; rw [if_neg hK0, if_neg hK4, if_neg hK5, act_none hwn]
  obtain rfl : av = -1 := by rw [← HAV.out]; unfold atI; rw [if_pos hn0]
  obtain rfl := hdo.symm.trans HPD.out
  clear hdo hwn hK0 hK4 hK5 hn0
  go_wp2_with fail
  go_returns
  exact ⟨rfl, ⟨_, _, _, _, _, _, _, _, _, HP2.out⟩, HB2.out⟩
 have hn1 : 0 < n := by omega
 have ham := atM_lt (n := N) hn1
 obtain rfl : (atM N n : Int) = av := by rw [← HAV.out]; unfold atI; rw [if_neg hn0]
 obtain ⟨am, hamq⟩ : ∃ q, atM N n = q := ⟨_, rfl⟩
 rw [hamq] at ham ⊢
 have hayl : am < P.way.length := by rw [HN.out]; exact ham
 obtain ⟨y, hy⟩ : ∃ y, P.way[am] = y := ⟨_, rfl⟩
 have hyq : P.way[am]? = some y := by rw [List.getElem?_eq_getElem hayl, hy]
 have hyq2 : P.way[atM N P.way.length]? = some y := by rw [HN.out, hamq]; exact hyq
 have eav : decide ((am : Int) < 0) = false := decide_eq_false (by omega)
 have hdo : (doM P ⟨K, A, N⟩).2 = (if K = 1 then comeM P am y else if K = 2 then (true, { P with way := P.way.eraseIdx am }) else if K = 3 ∧ n < 300 then (true, { P with way := P.way ++ [y] }) else (true, P)).2 := by
  unfold doM
  rw [if_neg hK0, if_neg hK4, if_neg hK5]
  dsimp only
  rw [hyq2]
  dsimp only
  rw [HN.out, hamq]
 have HYQ := Lib.hid hyq
 clear hyq hyq2 hK0 hK4 hK5 hn0 hy hamq
 by_cases hK1 : K = 1
 ·subst hK1
  rw [if_pos rfl] at hdo
  obtain rfl := hdo.symm.trans HPD.out
  clear hdo
  have HCO := Lib.hid (come_any ⟨_, _, _, _, _, _, _, _, _, HP2.out⟩ HJ.out hk hj HYQ.out)
  go_wp2_with fail
  refine HCO.out.mono ?_
  rintro e w3 ⟨rfl, hpe, hbl⟩
  have HF := Lib.hid (And.intro hpe (HB2.out.trans hbl))
  clear hpe hbl HCO
  go_wp2_with fail
  go_returns
  exact ⟨rfl, HF.out.1, HF.out.2⟩
 have k1 : (K == 1) = false := by simpa using hK1
 rw [if_neg hK1] at hdo
 clear hK1
 by_cases hK2 : K = 2
 ·subst hK2
  rw [if_pos rfl] at hdo
  obtain rfl := hdo.symm.trans HPD.out
  clear hdo
  obtain ⟨g, rfl⟩ := HP2.out.way.first hayl
  have hcap : n ≤ vc := by
   have h9 := HP2.out.way.row
   unfold OwnG at h9
   rw [← HN.out]
   exact (cells_of_own h9).2.1
  have hfit := (OwnG.sl fit_wy HP2.out.way.row).2
  have C4 : Hid (w2.cell? ⟨pb, 4, none⟩ = some (.slice (some ⟨g, 0, none⟩) n vc)) := Lib.hid (by rw [← HN.out]; exact HP2.out.way.box.cell (j := 4) rfl)
  obtain ⟨AD, hAD, hDS⟩ : ∃ AD : Addr, (if vc = am + 1 then some ⟨g, 0, none⟩ else some ⟨g, (am + 1) * 6, none⟩ : Option Addr) = some AD ∧ ∀ wi, Below w2.heap.size w2 wi → Sl wi (some AD) 6 ((P.way.drop (am + 1)).map Wy.vals) := by
   by_cases he : vc = am + 1
   ·refine ⟨_, if_pos he, fun wi hb => ?_⟩
    rw [List.drop_eq_nil_iff.2 (by rw [HN.out]; omega)]
    exact sl_nil _ _ _
   ·refine ⟨_, if_neg he, fun wi hb => ?_⟩
    have := sl_drop' (hfit.later hb) (am + 1)
    rw [Nat.zero_add] at this
    rw [List.map_drop]
    exact this
  have HAD := Lib.hid hAD
  have HDS := Lib.hid hDS
  have HTS : Hid (∀ wi, Below w2.heap.size w2 wi → Sl wi (some ⟨g, 0, none⟩) 6 ((P.way.take am).map Wy.vals)) := Lib.hid fun wi hb => by rw [List.map_take]; exact sl_take' (hfit.later hb) am
  have HI : Hid (am < n ∧ n ≤ vc ∧ n ≤ 300) := Lib.hid ⟨ham, hcap, hfew⟩
  have HTL : Hid ((P.way.take am).length = am) := Lib.hid (by rw [List.length_take, HN.out]; omega)
  have HDL : Hid ((P.way.drop (am + 1)).length = n - (am + 1)) := Lib.hid (by rw [List.length_drop, HN.out])
  clear hAD hDS hfit hcap hayl
  go_upto_region 20 with (fail)
  refine Reg.region_inv (by kernel_rfl) (fun i => ([some (.pointer (some ⟨pb, 0, none⟩)), none, some (.pointer (some ⟨pb, 0, none⟩)), some (.pointer (some ⟨pb, 0, none⟩)), some (.pointer (some ⟨pb, 4, none⟩)), some (.slice (some ⟨g, 0, none⟩) n vc), some (.int .i64 (am : Int)), some (.slice (some ⟨g, 0, none⟩) am vc), none, some (.pointer (some ⟨pb, 0, none⟩)), some (.pointer (some ⟨pb, 0, none⟩)), some (.pointer (some ⟨pb, 4, none⟩)), some (.slice (some ⟨g, 0, none⟩) n vc), some (.int .i64 (am : Int)), some (.int .i64 ((am : Int) + 1)), some (.slice (some AD) (n - (am + 1)) (vc - (am + 1))), none, some (.pointer (some ⟨pb, 0, none⟩)), some (.pointer (some ⟨pb, 4, none⟩)), none] : List (Option Value)).getD i none) (fun D V W => ((D 19) = false → ApG 134 6 Wy.vals w2 (D 1) (cond (D 16) (V 16) (cond (D 8) (V 8) (V 1))) (cond (D 16) (P.way.take am ++ P.way.drop (am + 1)) (cond (D 8) (P.way.take am) [])) false undef y W) ∧ ((D 19) = true → WyStep B w2 pb (boxP P s0 s1 (some ⟨g, 0, none⟩) vc mf mt) (some ⟨g, 0, none⟩) (P.way.take am ++ P.way.drop (am + 1)) W)) (fun V => [(some 114, V 0), (some 115, V 1), (some 116, V 2), (some 117, V 3), (some 118, V 4), (some 119, V 5), (some 120, V 6), (some 121, V 7), (some 122, V 8), (some 123, V 9), (some 124, V 10), (some 125, V 11), (some 126, V 12), (some 127, V 13), (some 128, V 14), (some 129, V 15), (some 130, V 16), (some 131, V 17), (some 132, V 18), (none, V 19)]) (by kernel_rfl) (by kernel_rfl) (fun V => rfl) ?_ ?_ ?_
  ·intro V
   exact ⟨fun _ => ApG.start (Below.refl _ _).drew _ _ _ _, fun e => (by cases e)⟩
  ·intro i o ho
   have hi : i < 20 := (Array.getElem?_eq_some_iff.1 ho).1
   rcases i with _ | _ | _ | _ | _ | _ | _ | _ | _ | _ | _ | _ | _ | _ | _ | _ | _ | _ | _ | _ | i
   rotate_right
   ·omega
   all_goals obtain rfl := Option.some.inj ho
   all_goals intro D V ρ wi hE hI hDi hT hF hs hd hk
   ·have e0 : ρ (.tmp 0) = .pointer (some ⟨pb, 0, none⟩) := hs 0; clear hT hF hk
    exact Reg.Gives.value (v := .pointer (some ⟨pb, 0, none⟩)) (w' := wi) (by go_simp) ⟨fun x h => Option.some.inj h, hI⟩
   ·have hD1 : D 1 = false := hDi; have hD8 : D 8 = false := hF 1 8; have hD16 : D 16 = false := hF 2 16; have hD19 : D 19 = false := hF 1 19; clear hT hF; have h1 := hI.1 hD19
    rw [hD1] at h1
    rw [hD8] at h1
    rw [hD16] at h1
    simp only [cond_false] at h1
    exact Reg.Gives.value (v := .slice (some ⟨wi.heap.size, 0, none⟩) 0 0) (w' := wi.alloc (.cells #[] 134)) (by go_simp) ⟨fun x h => (by cases h), by show ((D 19) = false → ApG 134 6 Wy.vals w2 true (cond (D 16) (V 16) (cond (D 8) (V 8) (.slice (some ⟨wi.heap.size, 0, none⟩) 0 0))) (cond (D 16) (P.way.take am ++ P.way.drop (am + 1)) (cond (D 8) (P.way.take am) [])) false undef y (wi.alloc (.cells #[] 134))) ∧ ((D 19) = true → WyStep B w2 pb (boxP P s0 s1 (some ⟨g, 0, none⟩) vc mf mt) (some ⟨g, 0, none⟩) (P.way.take am ++ P.way.drop (am + 1)) (wi.alloc (.cells #[] 134))); rw [hD8, hD16, hD19]; simp only [cond_false]; exact ⟨fun _ => h1.mkz, fun e => by cases e⟩⟩
   ·have e0 : ρ (.tmp 0) = .pointer (some ⟨pb, 0, none⟩) := hs 0; clear hT hF hk
    exact Reg.Gives.value (v := .pointer (some ⟨pb, 0, none⟩)) (w' := wi) (by go_simp) ⟨fun x h => Option.some.inj h, hI⟩
   ·have e116 : ρ (.tmp 116) = .pointer (some ⟨pb, 0, none⟩) := (hd 2 116).trans (hk 2 _ rfl); clear hT hF hk
    exact Reg.Gives.value (v := .pointer (some ⟨pb, 0, none⟩)) (w' := wi) (by go_simp) ⟨fun x h => Option.some.inj h, hI⟩
   ·have e117 : ρ (.tmp 117) = .pointer (some ⟨pb, 0, none⟩) := (hd 3 117).trans (hk 3 _ rfl); clear hT hF hk
    exact Reg.Gives.value (v := .pointer (some ⟨pb, 4, none⟩)) (w' := wi) (by go_simp) ⟨fun x h => Option.some.inj h, hI⟩
   ·have e118 : ρ (.tmp 118) = .pointer (some ⟨pb, 4, none⟩) := (hd 4 118).trans (hk 4 _ rfl); have hD19 : D 19 = false := hF 1 19; clear hT hF; have hL : Below w2.heap.size w2 wi := (hI.1 hD19).low; have x0 := (hL.cell (block_of_cell C4.out)).trans C4.out
    exact Reg.Gives.value (v := .slice (some ⟨g, 0, none⟩) n vc) (w' := wi) (by go_simp) ⟨fun x h => Option.some.inj h, hI⟩
   ·have e6 : ρ (.tmp 6) = .int .i64 (am : Int) := hs 6; clear hT hF hk
    exact Reg.Gives.value (v := .int .i64 (am : Int)) (w' := wi) (by go_simp) ⟨fun x h => Option.some.inj h, hI⟩
   ·have e119 : ρ (.tmp 119) = .slice (some ⟨g, 0, none⟩) n vc := (hd 5 119).trans (hk 5 _ rfl); have e120 : ρ (.tmp 120) = .int .i64 (am : Int) := (hd 6 120).trans (hk 6 _ rfl); clear hT hF
    have z1 : am ≤ vc := by have := HI.out; omega
    have z2 : am ≤ n := by have := HI.out; omega
    have z3 : (am : Int) ≤ (vc : Int) := by omega
    exact Reg.Gives.value (v := .slice (some ⟨g, 0, none⟩) am vc) (w' := wi) (by go_simp) ⟨fun x h => Option.some.inj h, hI⟩
   ·have e115 : ρ (.tmp 115) = V 1 := hd 1 115; have e121 : ρ (.tmp 121) = .slice (some ⟨g, 0, none⟩) am vc := (hd 7 121).trans (hk 7 _ rfl); have hD1 : D 1 = true := hT 1 1; have hD8 : D 8 = false := hDi; have hD16 : D 16 = false := hF 1 16; have hD19 : D 19 = false := hF 1 19; clear hT hF; have h1 := hI.1 hD19
    rw [hD1] at h1
    rw [hD8] at h1
    rw [hD16] at h1
    simp only [cond_false] at h1
    have hL := h1.low
    obtain ⟨A2, n2, c2, w4, hrun, hn⟩ := h1.app el_wy fit_wy (m := P.way.take am) (HTS.out wi hL) (fun e => by cases e) (by have := HI.out; simp; omega)
    rw [HTL.out] at hrun
    exact Reg.Gives.value (v := .slice A2 n2 c2) (w' := w4) (Reg.exec_append rfl e115 e121 hrun) ⟨fun x h => (by cases h), by show ((D 19) = false → ApG 134 6 Wy.vals w2 (D 1) (cond (D 16) (V 16) (cond true (.slice A2 n2 c2) (V 1))) (cond (D 16) (P.way.take am ++ P.way.drop (am + 1)) (cond true (P.way.take am) [])) false undef y w4) ∧ ((D 19) = true → WyStep B w2 pb (boxP P s0 s1 (some ⟨g, 0, none⟩) vc mf mt) (some ⟨g, 0, none⟩) (P.way.take am ++ P.way.drop (am + 1)) w4); rw [hD1, hD16, hD19]; simp only [cond_false, cond_true]; exact ⟨fun _ => hn, fun e => by cases e⟩⟩
   ·have e0 : ρ (.tmp 0) = .pointer (some ⟨pb, 0, none⟩) := hs 0; clear hT hF hk
    exact Reg.Gives.value (v := .pointer (some ⟨pb, 0, none⟩)) (w' := wi) (by go_simp) ⟨fun x h => Option.some.inj h, hI⟩
   ·have e123 : ρ (.tmp 123) = .pointer (some ⟨pb, 0, none⟩) := (hd 9 123).trans (hk 9 _ rfl); clear hT hF hk
    exact Reg.Gives.value (v := .pointer (some ⟨pb, 0, none⟩)) (w' := wi) (by go_simp) ⟨fun x h => Option.some.inj h, hI⟩
   ·have e124 : ρ (.tmp 124) = .pointer (some ⟨pb, 0, none⟩) := (hd 10 124).trans (hk 10 _ rfl); clear hT hF hk
    exact Reg.Gives.value (v := .pointer (some ⟨pb, 4, none⟩)) (w' := wi) (by go_simp) ⟨fun x h => Option.some.inj h, hI⟩
   ·have e125 : ρ (.tmp 125) = .pointer (some ⟨pb, 4, none⟩) := (hd 11 125).trans (hk 11 _ rfl); have hD19 : D 19 = false := hF 1 19; clear hT hF; have hL : Below w2.heap.size w2 wi := (hI.1 hD19).low; have x0 := (hL.cell (block_of_cell C4.out)).trans C4.out
    exact Reg.Gives.value (v := .slice (some ⟨g, 0, none⟩) n vc) (w' := wi) (by go_simp) ⟨fun x h => Option.some.inj h, hI⟩
   ·have e6 : ρ (.tmp 6) = .int .i64 (am : Int) := hs 6; clear hT hF hk
    exact Reg.Gives.value (v := .int .i64 (am : Int)) (w' := wi) (by go_simp) ⟨fun x h => Option.some.inj h, hI⟩
   ·have e127 : ρ (.tmp 127) = .int .i64 (am : Int) := (hd 13 127).trans (hk 13 _ rfl); have hc := hE.const; clear hT hF
    have z0 : IntKind.i64.wrap ((am : Int) + 1) = (am : Int) + 1 := by rw [IntKind.wrap_i64]; have := HI.out; omega
    exact Reg.Gives.value (v := .int .i64 ((am : Int) + 1)) (w' := wi) (by go_simp) ⟨fun x h => Option.some.inj h, hI⟩
   ·have e126 : ρ (.tmp 126) = .slice (some ⟨g, 0, none⟩) n vc := (hd 12 126).trans (hk 12 _ rfl); have e128 : ρ (.tmp 128) = .int .i64 ((am : Int) + 1) := (hd 14 128).trans (hk 14 _ rfl); clear hT hF
    have z1 : am + 1 ≤ n := by have := HI.out; omega
    have z2 : am + 1 ≤ vc := by have := HI.out; omega
    have z3 : (0 : Int) ≤ (am : Int) + 1 := by omega
    have z4 : (am : Int) + 1 ≤ (n : Int) := by omega
    have z5 := HAD.out
    exact Reg.Gives.value (v := .slice (some AD) (n - (am + 1)) (vc - (am + 1))) (w' := wi) (by go_simp) ⟨fun x h => Option.some.inj h, hI⟩
   ·have e122 : ρ (.tmp 122) = V 8 := hd 8 122; have e129 : ρ (.tmp 129) = .slice (some AD) (n - (am + 1)) (vc - (am + 1)) := (hd 15 129).trans (hk 15 _ rfl); have hD1 : D 1 = true := hT 2 1; have hD8 : D 8 = true := hT 1 8; have hD16 : D 16 = false := hDi; have hD19 : D 19 = false := hF 1 19; clear hT hF; have h1 := hI.1 hD19
    rw [hD1] at h1
    rw [hD8] at h1
    rw [hD16] at h1
    simp only [cond_false, cond_true] at h1
    have hL := h1.low
    obtain ⟨A2, n2, c2, w4, hrun, hn⟩ := h1.app el_wy fit_wy (m := P.way.drop (am + 1)) (HDS.out wi hL) (fun e => by cases e) (by have := HI.out; have := HN.out; simp; omega)
    rw [HDL.out] at hrun
    exact Reg.Gives.value (v := .slice A2 n2 c2) (w' := w4) (Reg.exec_append rfl e122 e129 hrun) ⟨fun x h => (by cases h), by show ((D 19) = false → ApG 134 6 Wy.vals w2 (D 1) (cond true (.slice A2 n2 c2) (cond (D 8) (V 8) (V 1))) (cond true (P.way.take am ++ P.way.drop (am + 1)) (cond (D 8) (P.way.take am) [])) false undef y w4) ∧ ((D 19) = true → WyStep B w2 pb (boxP P s0 s1 (some ⟨g, 0, none⟩) vc mf mt) (some ⟨g, 0, none⟩) (P.way.take am ++ P.way.drop (am + 1)) w4); rw [hD1, hD8, hD19]; simp only [cond_true]; exact ⟨fun _ => hn, fun e => by cases e⟩⟩
   ·have e114 : ρ (.tmp 114) = .pointer (some ⟨pb, 0, none⟩) := (hd 0 114).trans (hk 0 _ rfl); clear hT hF hk
    exact Reg.Gives.value (v := .pointer (some ⟨pb, 0, none⟩)) (w' := wi) (by go_simp) ⟨fun x h => Option.some.inj h, hI⟩
   ·have e131 : ρ (.tmp 131) = .pointer (some ⟨pb, 0, none⟩) := (hd 17 131).trans (hk 17 _ rfl); clear hT hF hk
    exact Reg.Gives.value (v := .pointer (some ⟨pb, 4, none⟩)) (w' := wi) (by go_simp) ⟨fun x h => Option.some.inj h, hI⟩
   ·have e132 : ρ (.tmp 132) = .pointer (some ⟨pb, 4, none⟩) := (hd 18 132).trans (hk 18 _ rfl); have e130 : ρ (.tmp 130) = V 16 := hd 16 130; have hD1 : D 1 = true := hT 1 1; have hD8 : D 8 = true := hT 1 8; have hD16 : D 16 = true := hT 1 16; have hD19 : D 19 = false := hDi; clear hT hF; have h1 := hI.1 hD19
    rw [hD1] at h1
    rw [hD8] at h1
    rw [hD16] at h1
    simp only [cond_true] at h1
    have hac := h1.acc rfl; obtain ⟨A2, c2, hv2⟩ := row_slice hac
    rw [hv2] at hac
    obtain ⟨f4, g4, hst⟩ := HP2.out.way.swap HP2.out.size h1.low rfl hac
    rw [hv2] at e130
    obtain ⟨nl, hnl⟩ : ∃ q, (P.way.take am ++ P.way.drop (am + 1)).length = q := ⟨_, rfl⟩
    rw [hnl] at e130 hst
    clear hac hv2 h1 hnl; have HST9 := Lib.hid hst; clear hst
    exact Reg.Gives.skip (w' := wi.setCell ⟨pb, 4, none⟩ (.slice A2 nl c2)) (by go_simp) ⟨fun x h => (by cases h), by show (true = false → ApG 134 6 Wy.vals w2 (D 1) (cond (D 16) (V 16) (cond (D 8) (V 8) (V 1))) (cond (D 16) (P.way.take am ++ P.way.drop (am + 1)) (cond (D 8) (P.way.take am) [])) false undef y (wi.setCell ⟨pb, 4, none⟩ (.slice A2 nl c2))) ∧ (true = true → WyStep B w2 pb (boxP P s0 s1 (some ⟨g, 0, none⟩) vc mf mt) (some ⟨g, 0, none⟩) (P.way.take am ++ P.way.drop (am + 1)) (wi.setCell ⟨pb, 4, none⟩ (.slice A2 nl c2))); exact ⟨fun e => (by cases e), fun _ => HST9.out⟩⟩
  ·intro V w3 hk hI
   simp only [Reg.putsO, List.foldl_cons, List.foldl_nil, Act.put, List.setIfInBounds_toArray, List.set_cons_succ, List.set_cons_zero]
   replace hI : (true = false → ApG 134 6 Wy.vals w2 true (cond true (V 16) (cond true (V 8) (V 1))) (cond true (P.way.take am ++ P.way.drop (am + 1)) (cond true (P.way.take am) [])) false undef y w3) ∧ (true = true → WyStep B w2 pb (boxP P s0 s1 (some ⟨g, 0, none⟩) vc mf mt) (some ⟨g, 0, none⟩) (P.way.take am ++ P.way.drop (am + 1)) w3) := hI
   clear hk
   have hst := hI.2 rfl
   rw [← List.eraseIdx_eq_take_drop_succ] at hst
   obtain ⟨⟨V5, vc5, hp5, _⟩, _, hbl5⟩ := HP2.out.puts hst
   have HF : Hid (PAtE B w3 pb { P with way := P.way.eraseIdx am } ∧ Below B w w3) := Lib.hid ⟨⟨_, _, _, _, _, _, _, _, _, hp5⟩, HB2.out.trans hbl5⟩
   clear hst hp5 hbl5
   go_wp2_with fail
   go_returns
   exact ⟨rfl, HF.out.1, HF.out.2⟩
 have k2 : (K == 2) = false := by simpa using hK2
 rw [if_neg hK2] at hdo
 clear hK2
 have c4 : w2.cell? ⟨pb, 4, none⟩ = some (.slice V n vc) := by rw [← HN.out]; exact HP2.out.way.box.cell (j := 4) rfl
 by_cases hK3 : K = 3
 ·subst hK3
  by_cases h300 : n < 300
  ·rw [if_pos ⟨rfl, h300⟩] at hdo
   obtain rfl := hdo.symm.trans HPD.out
   clear hdo
   obtain ⟨g, rfl⟩ := HP2.out.way.first hayl
   obtain ⟨g9, e9, hel⟩ := OwnG.elem fit_wy HP2.out.way.row hayl
   obtain rfl : g = g9 := by simpa using e9
   have hya : P.way[am] = y := (List.getElem?_eq_some_iff.1 HYQ.out).2
   rw [hya] at hel
   have HEL := Lib.hid hel
   have C4 := Lib.hid c4
   have HI : Hid (am < n ∧ n < 300) := Lib.hid ⟨ham, h300⟩
   have HFL : Hid (P.way.length ≤ 1000) := Lib.hid (by rw [HN.out]; omega)
   have e3 : decide ((n : Int) < 300) = true := decide_eq_true (by omega)
   clear hel hya e9 hayl
   go_upto_region 22 with (fail)
   clear c4
   refine Reg.region_inv (by kernel_rfl) (fun i => ([some (.pointer (some ⟨pb, 0, none⟩)), some (.pointer (some ⟨pb, 0, none⟩)), some (.pointer (some ⟨pb, 0, none⟩)), some (.pointer (some ⟨pb, 4, none⟩)), some (.slice (some ⟨g, 0, none⟩) n vc), some (.pointer (some ⟨pb, 0, none⟩)), some (.pointer (some ⟨pb, 0, none⟩)), some (.pointer (some ⟨pb, 4, none⟩)), some (.slice (some ⟨g, 0, none⟩) n vc), some (.int .i64 (am : Int)), some (.pointer (some ⟨g, am * 6, none⟩)), some (.agg #[.int .i64 (y.tgt : Int), .int .i64 y.e.kind, .int .i64 y.e.epoch, .int .i64 y.e.peer, .int .i64 y.e.seq, .string y.e.pay]), none, none, some (.pointer (some ⟨pb, 0, none⟩)), some (.pointer (some ⟨pb, 4, none⟩)), none] : List (Option Value)).getD i none) (fun D V W => (D 13 = false → Below w2.heap.size w2 W ∧ (D 12 = true → ∃ kz, V 12 = Value.slice (some ⟨kz, 0, none⟩) 1 1 ∧ Cells W kz 134 (Wy.vals y))) ∧ (D 13 = true → D 16 = false → WPend B w2 (some ⟨g, 0, none⟩) P.way y (V 13) W) ∧ (D 16 = true → WyStep B w2 pb (boxP P s0 s1 (some ⟨g, 0, none⟩) vc mf mt) (some ⟨g, 0, none⟩) (P.way ++ [y]) W)) (fun V => [(some 145, V 0), (some 146, V 1), (some 147, V 2), (some 148, V 3), (some 149, V 4), (some 150, V 5), (some 151, V 6), (some 152, V 7), (some 153, V 8), (some 154, V 9), (some 155, V 10), (some 156, V 11), (some 157, V 12), (some 158, V 13), (some 159, V 14), (some 160, V 15), (none, V 16)]) (by kernel_rfl) (by kernel_rfl) (fun V => rfl) ?_ ?_ ?_
   ·intro V
    exact ⟨fun _ => ⟨(Below.refl _ _).drew, fun e => (by cases e)⟩, fun e => (by cases e), fun e => (by cases e)⟩
   ·intro i o ho
    have hi : i < 17 := (Array.getElem?_eq_some_iff.1 ho).1
    rcases i with _ | _ | _ | _ | _ | _ | _ | _ | _ | _ | _ | _ | _ | _ | _ | _ | _ | i
    rotate_right
    ·omega
    all_goals obtain rfl := Option.some.inj ho
    all_goals intro D V ρ wi hE hI hDi hT hF hs hd hk
    ·have e0 : ρ (.tmp 0) = .pointer (some ⟨pb, 0, none⟩) := hs 0; clear hT hF hk
     exact Reg.Gives.value (v := .pointer (some ⟨pb, 0, none⟩)) (w' := wi) (by go_simp) ⟨fun x h => Option.some.inj h, hI⟩
    ·have e0 : ρ (.tmp 0) = .pointer (some ⟨pb, 0, none⟩) := hs 0; clear hT hF hk
     exact Reg.Gives.value (v := .pointer (some ⟨pb, 0, none⟩)) (w' := wi) (by go_simp) ⟨fun x h => Option.some.inj h, hI⟩
    ·have e146 : ρ (.tmp 146) = .pointer (some ⟨pb, 0, none⟩) := (hd 1 146).trans (hk 1 _ rfl); clear hT hF hk
     exact Reg.Gives.value (v := .pointer (some ⟨pb, 0, none⟩)) (w' := wi) (by go_simp) ⟨fun x h => Option.some.inj h, hI⟩
    ·have e147 : ρ (.tmp 147) = .pointer (some ⟨pb, 0, none⟩) := (hd 2 147).trans (hk 2 _ rfl); clear hT hF hk
     exact Reg.Gives.value (v := .pointer (some ⟨pb, 4, none⟩)) (w' := wi) (by go_simp) ⟨fun x h => Option.some.inj h, hI⟩
    ·have e148 : ρ (.tmp 148) = .pointer (some ⟨pb, 4, none⟩) := (hd 3 148).trans (hk 3 _ rfl); have hD13 : D 13 = false := hF 1 13; clear hT hF; have hL : Below w2.heap.size w2 wi := (hI.1 hD13).1; have x0 := (hL.cell (block_of_cell C4.out)).trans C4.out
     exact Reg.Gives.value (v := .slice (some ⟨g, 0, none⟩) n vc) (w' := wi) (by go_simp) ⟨fun x h => Option.some.inj h, hI⟩
    ·have e0 : ρ (.tmp 0) = .pointer (some ⟨pb, 0, none⟩) := hs 0; clear hT hF hk
     exact Reg.Gives.value (v := .pointer (some ⟨pb, 0, none⟩)) (w' := wi) (by go_simp) ⟨fun x h => Option.some.inj h, hI⟩
    ·have e150 : ρ (.tmp 150) = .pointer (some ⟨pb, 0, none⟩) := (hd 5 150).trans (hk 5 _ rfl); clear hT hF hk
     exact Reg.Gives.value (v := .pointer (some ⟨pb, 0, none⟩)) (w' := wi) (by go_simp) ⟨fun x h => Option.some.inj h, hI⟩
    ·have e151 : ρ (.tmp 151) = .pointer (some ⟨pb, 0, none⟩) := (hd 6 151).trans (hk 6 _ rfl); clear hT hF hk
     exact Reg.Gives.value (v := .pointer (some ⟨pb, 4, none⟩)) (w' := wi) (by go_simp) ⟨fun x h => Option.some.inj h, hI⟩
    ·have e152 : ρ (.tmp 152) = .pointer (some ⟨pb, 4, none⟩) := (hd 7 152).trans (hk 7 _ rfl); have hD13 : D 13 = false := hF 4 13; clear hT hF; have hL : Below w2.heap.size w2 wi := (hI.1 hD13).1; have x0 := (hL.cell (block_of_cell C4.out)).trans C4.out
     exact Reg.Gives.value (v := .slice (some ⟨g, 0, none⟩) n vc) (w' := wi) (by go_simp) ⟨fun x h => Option.some.inj h, hI⟩
    ·have e6 : ρ (.tmp 6) = .int .i64 (am : Int) := hs 6; clear hT hF hk
     exact Reg.Gives.value (v := .int .i64 (am : Int)) (w' := wi) (by go_simp) ⟨fun x h => Option.some.inj h, hI⟩
    ·have e153 : ρ (.tmp 153) = .slice (some ⟨g, 0, none⟩) n vc := (hd 8 153).trans (hk 8 _ rfl); have e154 : ρ (.tmp 154) = .int .i64 (am : Int) := (hd 9 154).trans (hk 9 _ rfl); clear hT hF; have z1 : am < n := HI.out.1
     have z2 : (am : Int) < (n : Int) := by omega
     exact Reg.Gives.value (v := .pointer (some ⟨g, am * 6, none⟩)) (w' := wi) (by go_simp) ⟨fun x h => Option.some.inj h, hI⟩
    ·have e155 : ρ (.tmp 155) = .pointer (some ⟨g, am * 6, none⟩) := (hd 10 155).trans (hk 10 _ rfl); have hD13 : D 13 = false := hF 2 13; clear hT hF; have hL : Below w2.heap.size w2 wi := (hI.1 hD13).1; have hq := HEL.out.later hL; have u0 : wi.cell? ⟨g, am * 6, none⟩ = _ := hq.cell (j := 0) rfl; have u1 := hq.cell (j := 1) rfl; have u2 := hq.cell (j := 2) rfl
     have u3 := hq.cell (j := 3) rfl; have u4 := hq.cell (j := 4) rfl; have u5 := hq.cell (j := 5) rfl
     exact Reg.Gives.value (v := .agg #[.int .i64 (y.tgt : Int), .int .i64 y.e.kind, .int .i64 y.e.epoch, .int .i64 y.e.peer, .int .i64 y.e.seq, .string y.e.pay]) (w' := wi) (by go_simp) ⟨fun x h => Option.some.inj h, hI⟩
    ·have e156 : ρ (.tmp 156) = .agg #[.int .i64 (y.tgt : Int), .int .i64 y.e.kind, .int .i64 y.e.epoch, .int .i64 y.e.peer, .int .i64 y.e.seq, .string y.e.pay] := (hd 11 156).trans (hk 11 _ rfl); have hD13 : D 13 = false := hF 1 13; have hD16 : D 16 = false := hF 1 16; clear hT hF; have h1 := hI.1 hD13
     have hal := below_alloc wi (.cells #[.int .i64 (y.tgt : Int), .int .i64 y.e.kind, .int .i64 y.e.epoch, .int .i64 y.e.peer, .int .i64 y.e.seq, .string y.e.pay] 134)
     exact Reg.Gives.value (v := .slice (some ⟨wi.heap.size, 0, none⟩) 1 1) (w' := wi.alloc (.cells #[.int .i64 (y.tgt : Int), .int .i64 y.e.kind, .int .i64 y.e.epoch, .int .i64 y.e.peer, .int .i64 y.e.seq, .string y.e.pay] 134)) (by go_simp) ⟨fun x h => (by cases h), by show ((D 13) = false → Below w2.heap.size w2 (wi.alloc (.cells #[.int .i64 (y.tgt : Int), .int .i64 y.e.kind, .int .i64 y.e.epoch, .int .i64 y.e.peer, .int .i64 y.e.seq, .string y.e.pay] 134)) ∧ (true = true → ∃ kz, (Value.slice (some ⟨wi.heap.size, 0, none⟩) 1 1) = Value.slice (some ⟨kz, 0, none⟩) 1 1 ∧ Cells (wi.alloc (.cells #[.int .i64 (y.tgt : Int), .int .i64 y.e.kind, .int .i64 y.e.epoch, .int .i64 y.e.peer, .int .i64 y.e.seq, .string y.e.pay] 134)) kz 134 (Wy.vals y))) ∧ ((D 13) = true → (D 16) = false → WPend B w2 (some ⟨g, 0, none⟩) P.way y (V 13) (wi.alloc (.cells #[.int .i64 (y.tgt : Int), .int .i64 y.e.kind, .int .i64 y.e.epoch, .int .i64 y.e.peer, .int .i64 y.e.seq, .string y.e.pay] 134))) ∧ ((D 16) = true → WyStep B w2 pb (boxP P s0 s1 (some ⟨g, 0, none⟩) vc mf mt) (some ⟨g, 0, none⟩) (P.way ++ [y]) (wi.alloc (.cells #[.int .i64 (y.tgt : Int), .int .i64 y.e.kind, .int .i64 y.e.epoch, .int .i64 y.e.peer, .int .i64 y.e.seq, .string y.e.pay] 134))); exact ⟨fun _ => ⟨h1.1.trans (hal.mono h1.1.size), fun _ => ⟨_, rfl, cells_new _ _ _ _ rfl⟩⟩, fun e => (by rw [hD13] at e; cases e), fun e => (by rw [hD16] at e; cases e)⟩⟩
    ·have e149 : ρ (.tmp 149) = .slice (some ⟨g, 0, none⟩) n vc := (hd 4 149).trans (hk 4 _ rfl); have e157 : ρ (.tmp 157) = V 12 := hd 12 157; have hD12 : D 12 = true := hT 1 12; have hD13 : D 13 = false := hDi; have hD16 : D 16 = false := hF 1 16; clear hT hF; have h1 := hI.1 hD13; obtain ⟨kk, hv2, hcs⟩ := h1.2 hD12
     rw [hv2] at e157
     obtain ⟨v2, w5, hrun, hpd⟩ := HP2.out.way.grow HP2.out.size h1.1 hcs HFL.out
     rw [HN.out] at hrun
     clear hv2
     exact Reg.Gives.value (v := v2) (w' := w5) (Reg.exec_append rfl e149 e157 hrun) ⟨fun x h => (by cases h), by show (true = false → Below w2.heap.size w2 w5 ∧ ((D 12) = true → ∃ kz, (V 12) = Value.slice (some ⟨kz, 0, none⟩) 1 1 ∧ Cells w5 kz 134 (Wy.vals y))) ∧ (true = true → (D 16) = false → WPend B w2 (some ⟨g, 0, none⟩) P.way y v2 w5) ∧ ((D 16) = true → WyStep B w2 pb (boxP P s0 s1 (some ⟨g, 0, none⟩) vc mf mt) (some ⟨g, 0, none⟩) (P.way ++ [y]) w5); exact ⟨fun e => (by cases e), fun _ _ => hpd, fun e => (by rw [hD16] at e; cases e)⟩⟩
    ·have e145 : ρ (.tmp 145) = .pointer (some ⟨pb, 0, none⟩) := (hd 0 145).trans (hk 0 _ rfl); clear hT hF hk
     exact Reg.Gives.value (v := .pointer (some ⟨pb, 0, none⟩)) (w' := wi) (by go_simp) ⟨fun x h => Option.some.inj h, hI⟩
    ·have e159 : ρ (.tmp 159) = .pointer (some ⟨pb, 0, none⟩) := (hd 14 159).trans (hk 14 _ rfl); clear hT hF hk
     exact Reg.Gives.value (v := .pointer (some ⟨pb, 4, none⟩)) (w' := wi) (by go_simp) ⟨fun x h => Option.some.inj h, hI⟩
    ·have e160 : ρ (.tmp 160) = .pointer (some ⟨pb, 4, none⟩) := (hd 15 160).trans (hk 15 _ rfl); have e158 : ρ (.tmp 158) = V 13 := hd 13 158; have hD13 : D 13 = true := hT 1 13; have hD16 : D 16 = false := hDi; clear hT hF; have h2 := hI.2.1 hD13 hD16; obtain ⟨A2, n2, c2, hv2, x1, x2, hfin⟩ := h2.put HP2.out.way; have e9 := e158
     rw [hv2] at e9
     clear e158 hv2 h2; have HFI := Lib.hid hfin; clear hfin
     exact Reg.Gives.skip (w' := wi.setCell ⟨pb, 4, none⟩ (.slice A2 n2 c2)) (by go_simp) ⟨fun x h => (by cases h), by show ((D 13) = false → Below w2.heap.size w2 (wi.setCell ⟨pb, 4, none⟩ (.slice A2 n2 c2)) ∧ ((D 12) = true → ∃ kz, (V 12) = Value.slice (some ⟨kz, 0, none⟩) 1 1 ∧ Cells (wi.setCell ⟨pb, 4, none⟩ (.slice A2 n2 c2)) kz 134 (Wy.vals y))) ∧ ((D 13) = true → true = false → WPend B w2 (some ⟨g, 0, none⟩) P.way y (V 13) (wi.setCell ⟨pb, 4, none⟩ (.slice A2 n2 c2))) ∧ (true = true → WyStep B w2 pb (boxP P s0 s1 (some ⟨g, 0, none⟩) vc mf mt) (some ⟨g, 0, none⟩) (P.way ++ [y]) (wi.setCell ⟨pb, 4, none⟩ (.slice A2 n2 c2))); exact ⟨fun e => (by rw [hD13] at e; cases e), fun _ e => (by cases e), fun _ => HFI.out⟩⟩
   ·intro V w3 hk hI
    simp only [Reg.putsO, List.foldl_cons, List.foldl_nil, Act.put, List.setIfInBounds_toArray, List.set_cons_succ, List.set_cons_zero]
    replace hI : ((fun _ => true) 13 = false → Below w2.heap.size w2 w3 ∧ ((fun _ => true) 12 = true → ∃ kz, V 12 = Value.slice (some ⟨kz, 0, none⟩) 1 1 ∧ Cells w3 kz 134 (Wy.vals y))) ∧ ((fun _ => true) 13 = true → (fun _ => true) 16 = false → WPend B w2 (some ⟨g, 0, none⟩) P.way y (V 13) w3) ∧ ((fun _ => true) 16 = true → WyStep B w2 pb (boxP P s0 s1 (some ⟨g, 0, none⟩) vc mf mt) (some ⟨g, 0, none⟩) (P.way ++ [y]) w3) := hI
    clear hk
    have hst := hI.2.2 rfl
    obtain ⟨⟨V5, vc5, hp5, _⟩, _, hbl5⟩ := HP2.out.puts hst
    have HF : Hid (PAtE B w3 pb { P with way := P.way ++ [y] } ∧ Below B w w3) := Lib.hid ⟨⟨_, _, _, _, _, _, _, _, _, hp5⟩, HB2.out.trans hbl5⟩
    clear hst hp5 hbl5
    go_wp2_with fail
    go_returns
    exact ⟨rfl, HF.out.1, HF.out.2⟩
  ·rw [if_neg fun e => h300 e.2] at hdo
   obtain rfl := hdo.symm.trans HPD.out
   clear hdo
   have e3 : decide ((n : Int) < 300) = false := decide_eq_false (by omega)
   go_wp2_with fail
   go_returns
   exact ⟨rfl, ⟨_, _, _, _, _, _, _, _, _, HP2.out⟩, HB2.out⟩
 have k3 : (K == 3) = false := by simpa using hK3
 rw [if_neg fun e => hK3 e.1] at hdo
 obtain rfl := hdo.symm.trans HPD.out
 clear hK3 hdo
 go_wp2_with fail
 go_returns
 exact ⟨rfl, ⟨_, _, _, _, _, _, _, _, _, HP2.out⟩, HB2.out⟩
end Go.Proofs.Ytccdpgbmkiapdaa.Ses
