/- Part 55 of the proof. Conditions: none. -/
import Derived.Test.YtdkchpiinelmiaaGreatZ53
import Derived.Test.YtdkchpiinelmiaaGreatZ54
namespace Go.Proofs.YtdkchpiinelmiaaGreat.Rec
set_option maxRecDepth 100000
open Go.RowKit Mem fN
set_option maxHeartbeats 2000000 in
theorem Ak (r : Rc) (y : Lay) (f : Nat) (w : World) (hf : f < 8) :
  Calls Tryz.prog 68 #[r.val y, iv ((f + 1 : Nat) : Int)] w fun e w' => e = .returned (iv (r.get f)) /\ Below w.heap.size w w' := by
 obtain ⟨k, ⟨t1, t2, t3⟩, its, tT, a0, a1, a2, a3, a4, a5, a6, a7, yes⟩ := r; obtain ⟨A, c, B, d⟩ := y
 generalize hL : its.length = L
 generalize hM : tT.length = M
 unfold Rc.val; simp only [hL, hM]; clear hL hM; rcases Ug hf with rfl | rfl | rfl | rfl | rfl | rfl | rfl | rfl
 ·go_enter Tryz.func68, Tryz.ntmps68
  go_wp2
  go_returns
  exact ⟨rfl, Go.Joins.below_alloc2 _ _ _⟩
 ·go_enter Tryz.func68, Tryz.ntmps68
  go_wp2
  go_returns
  exact ⟨rfl, Go.Joins.below_alloc2 _ _ _⟩
 ·go_enter Tryz.func68, Tryz.ntmps68
  go_wp2
  go_returns
  exact ⟨rfl, Go.Joins.below_alloc2 _ _ _⟩
 ·go_enter Tryz.func68, Tryz.ntmps68
  go_wp2
  go_returns
  exact ⟨rfl, Go.Joins.below_alloc2 _ _ _⟩
 ·go_enter Tryz.func68, Tryz.ntmps68
  go_wp2
  go_returns
  exact ⟨rfl, Go.Joins.below_alloc2 _ _ _⟩
 ·go_enter Tryz.func68, Tryz.ntmps68
  go_wp2
  go_returns
  exact ⟨rfl, Go.Joins.below_alloc2 _ _ _⟩
 ·go_enter Tryz.func68, Tryz.ntmps68
  go_wp2
  go_returns
  exact ⟨rfl, Go.Joins.below_alloc2 _ _ _⟩
 go_enter Tryz.func68, Tryz.ntmps68
 go_wp2
 go_returns
 exact ⟨rfl, Go.Joins.below_alloc2 _ _ _⟩
def Fm (r : Rc) (j : Nat) : Bool := (List.range j).any fun m => !decide (((m : Int) + 1) ∈ rl r.kind) && decide (r.get m ≠ 0)
def p3 (nm tz rt e6 e11 yes : Bool) : Bool := (!nm && tz) || (nm && !rt) || (!e6 && !e11 && yes)
def p4 (e4 e5 bL bM : Bool) : Bool := !e4 && !e5 && (bL || bM)
def p5 (e4 bL ri rn : Bool) : Bool := ((e4 || bL) && !ri) || !rn
def p6 (hc c1 c2 h1 h2 g8 h0 : Bool) : Bool := hc && (c1 || c2 || h1 || h2 || (g8 && h0))
def p7 (v1 v2 : Bool) : Bool := v1 || v2
def DZ (r : Rc) : Bool :=
 if r.kind = 1 then decide (1 <= r.count /\ r.count <= 16 /\ 1 <= r.node /\ r.node <= r.count /\ 1 <= r.num /\ r.num <= 16) else if r.kind = 2 then decide (1 <= r.num /\ r.num <= 1099511627776) else if r.kind = 8 then decide (1 <= r.node /\ r.node <= 16)
 else if r.kind = 3 then decide (0 <= r.status /\ r.status <= 2 /\ ((r.status = 2 /\ 1 <= r.node /\ r.node <= 16) \/ (r.status < 2 /\ r.node = 0))) else true
def kA (r : Rc) : Bool := decide (1 <= r.kind /\ r.kind <= 12) && (!Fm r 8 && (!p3 (named r.kind) (!KT r.tid) (cF r.tid) (r.kind == 6) (r.kind == 11) r.yes && (!p4 (r.kind == 4) (r.kind == 5) (decide (0 < r.items.length)) (decide (0 < r.nodes.length)) && (!p5 (r.kind == 4) (decide (0 < r.items.length)) (aY r.items) (bn r.nodes) && (!p6 (decide ((4 : Int) ∈ rl r.kind)) (decide (r.cell < 0)) (decide (15 < r.cell)) (decide (r.hop < 0)) (decide (1099511627776 < r.hop)) (decide (8 <= r.kind)) (r.hop == 0) && (!p7 (decide (r.version < 0)) (decide (1099511627776 < r.version)) && DZ r))))))
theorem Hi (r : Rc) (j : Nat) : Fm r (j + 1) = (Fm r j || (!decide (((j : Int) + 1) ∈ rl r.kind) && decide (r.get j ≠ 0))) := by unfold Fm; rw [List.range_succ, List.any_append]; simp
theorem Hh (r : Rc) (j : Nat) (h : Fm r j = true) (hj : j <= 8) : Fm r 8 = true := by
 unfold Fm at h ⊢; rw [List.any_eq_true] at h ⊢; obtain ⟨x, hx, h⟩ := h; exact ⟨x, List.mem_range.2 (by have := List.mem_range.1 hx; omega), h⟩
set_option maxHeartbeats 4000000 in
theorem vZ (r : Rc) (y : Lay) (w : World) (h : Has w r y) (h1 : r.items.length <= 1000) (h2 : r.nodes.length <= 1000) :
  Calls Tryz.prog 31 #[r.val y] w fun e w' => e = .returned (.bool (kA r)) /\ Below w.heap.size w w' := by
 have Jo := ak (fun w' (hk : 1 <= r.kind /\ r.kind <= 12) => uD r.kind w' hk); have XE := ak (fun f (hf : f < 8) w' => Ak r y f w' hf); have YL := ak (fun w' => wj r.kind w'); have iG := ak (fun w' => rN r.tid w'); have Vk := ak (fun w' (hb : Below w.heap.size w w') => mQ y.A r.items y.c w' (h.items.later hb) (by omega)); have Uu := ak (fun w' (hb : Below w.heap.size w w') => mP y.B r.nodes y.d w' (h.nodes.later hb) (by omega)); have Vg := rU r.tid.node r.tid.epoch r.tid.seq 0 0 0; have Uw := ak (Hi r); have bU := ak (Hh r); have kW : Hid (Fm r 0 = false) := ak rfl; have HZ : Hid (kA r = (decide (1 <= r.kind /\ r.kind <= 12) && (!Fm r 8 && (!p3 (named r.kind) (!KT r.tid) (cF r.tid) (r.kind == 6) (r.kind == 11) r.yes && (!p4 (r.kind == 4) (r.kind == 5) (decide (0 < r.items.length)) (decide (0 < r.nodes.length)) && (!p5 (r.kind == 4) (decide (0 < r.items.length)) (aY r.items) (bn r.nodes) && (!p6 (decide ((4 : Int) ∈ rl r.kind)) (decide (r.cell < 0)) (decide (15 < r.cell)) (decide (r.hop < 0)) (decide (1099511627776 < r.hop)) (decide (8 <= r.kind)) (r.hop == 0) && (!p7 (decide (r.version < 0)) (decide (1099511627776 < r.version)) && DZ r)))))))) := ak rfl; have HRL := ak (TM r.kind); clear h; obtain ⟨Z, hz⟩ := ah (kA r); obtain ⟨PE, hpe⟩ := ah (DZ r); have kL : Hid (PE = DZ r) := ak hpe.symm; unfold DZ at kL; obtain ⟨nm, hnm⟩ := ah (named r.kind); obtain ⟨rt, hrt⟩ := ah (cF r.tid); obtain ⟨ri, XP⟩ := ah (aY r.items); obtain ⟨rn, XO⟩ := ah (bn r.nodes); obtain ⟨P2, X9⟩ := ah (Fm r); obtain ⟨G, hG⟩ := ah r.get; obtain ⟨FL, Ya⟩ := ah (rl r.kind); obtain ⟨KZ, vD⟩ := ah (decide ((4 : Int) ∈ FL)); obtain ⟨tz, XM⟩ := ah (!KT r.tid); have Vz : (!(decide (r.tid.node = 0) && decide (r.tid.epoch = 0) && decide (r.tid.seq = 0))) = tz := XM; rw [Vz] at Vg; rw [hz, hpe, hnm, hrt, XP, XO, X9, XM, Ya, vD] at HZ; rw [hz]; rw [hnm] at YL; rw [hrt] at iG; rw [XP] at Vk; rw [XO] at Uu; simp only [X9, hG, Ya] at Uw bU kW XE Jo HRL; have j_ := ak vD; have hrl := HRL.o; clear hz hpe hnm hrt XP XO X9 hG Ya vD XM Vz; obtain ⟨k, ⟨t1, t2, t3⟩, its, tT, a0, a1, a2, a3, a4, a5, a6, a7, yes⟩ := r; obtain ⟨A, c, B, d⟩ := y; simp only at Jo YL iG Vk Uu Vg HZ kL h1 h2; obtain ⟨L, hLL⟩ := ah its.length; obtain ⟨M, hMM⟩ := ah tT.length; unfold Rc.val at XE ⊢; unfold cT.val at iG; simp only [hLL, hMM] at XE Vk Uu HZ h1 h2 ⊢; clear hLL hMM; obtain ⟨e6, XY⟩ := ah (k == 6); rw [XY] at HZ; have He6 := ak XY; clear XY; obtain ⟨e11, SM⟩ := ah (k == 11); rw [SM] at HZ; have Wh := ak SM; clear SM; obtain ⟨e4, X0⟩ := ah (k == 4); rw [X0] at HZ; have Yu := ak X0; clear X0; obtain ⟨e5, XZ⟩ := ah (k == 5); rw [XZ] at HZ; have He5 := ak XZ; clear XZ; obtain ⟨bL, hbL⟩ := ah (decide (0 < L)); rw [hbL] at HZ; have Yv := ak hbL; clear hbL; obtain ⟨bM, X5⟩ := ah (decide (0 < M)); rw [X5] at HZ; have HbM := ak X5; clear X5; obtain ⟨c1, hc1⟩ := ah (decide (a3 < 0)); rw [hc1] at HZ; have Hc1 := ak hc1; clear hc1; obtain ⟨c2, hc2⟩ := ah (decide (15 < a3)); rw [hc2] at HZ; have Hc2 := ak hc2; clear hc2; obtain ⟨x1, hx1⟩ := ah (decide (a5 < 0)); rw [hx1] at HZ; have Hx1 := ak hx1; clear hx1; obtain ⟨x2, hx2⟩ := ah (decide (1099511627776 < a5)); rw [hx2] at HZ; have Hx2 := ak hx2; clear hx2; obtain ⟨g8, XV⟩ := ah (decide (8 <= k)); rw [XV] at HZ; have Hg8 := ak XV; clear XV; obtain ⟨x0, hx0⟩ := ah (a5 == 0); rw [hx0] at HZ; have Hx0 := ak hx0; clear hx0; obtain ⟨v1, hv1⟩ := ah (decide (a6 < 0)); rw [hv1] at HZ; have Hv1 := ak hv1; clear hv1; obtain ⟨v2, hv2⟩ := ah (decide (1099511627776 < a6)); rw [hv2] at HZ; have Hv2 := ak hv2; clear hv2; have HB := ak (av w (.cells #[iv k, iv t1, iv t2, iv t3, .slice A L c, .slice B M d, iv a0, iv a1, iv a2, iv a3, iv a4, iv a5, iv a6, iv a7, .bool yes] 55)); have HC := ak (aB w 55 _ #[iv k, iv t1, iv t2, iv t3, .slice A L c, .slice B M d, iv a0, iv a1, iv a2, iv a3, iv a4, iv a5, iv a6, iv a7, .bool yes] rfl)
 by_cases hk1 : k < 1
 ·have l6 : Hid (Z = false) := ak (by rw [HZ.o, decide_eq_false (by omega)]; rfl)
  go_enter Tryz.func31, Tryz.ntmps31
  go_wp2_with fail
  go_returns
  exact ⟨aG l6.o, HB.o⟩
 by_cases hk2 : 12 < k
 ·have l6 : Hid (Z = false) := ak (by rw [HZ.o, decide_eq_false (by omega)]; rfl)
  go_enter Tryz.func31, Tryz.ntmps31
  go_wp2_with fail
  go_returns
  exact ⟨aG l6.o, HB.o⟩
 have hk : 1 <= k /\ k <= 12 := by omega
 rw [decide_eq_true hk, Bool.true_and] at HZ; have YQ := ak hk; clear hk
 go_enter Tryz.func31, Tryz.ntmps31
 go_wp2_with fail
 refine (Jo.o _ YQ.o).mono ?_; rintro e w1 ⟨FA, fc, rfl, UO, _, hb1⟩; have fW := ak (HB.o.trans (hb1.mono HB.o.size)); have DV := ak (HC.o.later hb1); have Uz := ak UO; clear UO hb1 hk1 hk2
 go_wp2_with fail
 go_loopw [5] (fun i wr => ∃ j : Nat, j <= 8 /\ i = iv ((j + 1 : Nat) : Int) /\ Hid (P2 j = false) /\ Below w1.heap.size w1 wr) (fun i _ => 9 - (intOf i).toNat)
 case atStart => exact ⟨0, by omega, rfl, kW, Below.refl _ _⟩
 case round =>
  obtain ⟨j, hj, rfl, hz, hbr⟩ := hrel; have dA := ak hbr; have JK := ak (Uz.o.later hbr); have l7 := ak (DV.o.later hbr); clear hbr
  by_cases hlt : j < 8
  ·have HS := ak (Uw.o j)
   have HNJ := ak (XE.o j hlt); have uS := ak (fun w' hn => tA FA FL fc ((j + 1 : Nat) : Int) w' hn (by omega)); obtain ⟨hm, KY⟩ := ah (decide ((((j + 1 : Nat) : Int)) ∈ FL)); have VE : decide (((j : Int) + 1) ∈ FL) = hm := by rw [<- KY]; simp
   rw [VE] at HS; rw [KY] at uS; clear KY VE; obtain ⟨f, hf⟩ := aj (j + 1); have HFJ := ak hf; have hf9 : f <= 8 := by omega
   rw [<- hf] at uS HNJ ⊢; clear hf; have hcc := l7.o; obtain ⟨q0, q1, q2, q3, q4, q5, q6, q7, q8, q9, Fl, uN, wP, Bc, wI⟩ := hcc.iZ; clear hcc
   go_wp2_with fail
   refine (uS.o _ JK.o).mono ?_; rintro e w3 ⟨rfl, rfl⟩
   cases hm
   ·go_wp2_with fail
    refine (HNJ.o _).mono ?_; rintro e w3 ⟨rfl, hb3⟩; have mW := ak (dA.o.trans (hb3.mono dA.o.size)); clear hb3 q0 q1 q2 q3 q4 q5 q6 q7 q8 q9 Fl uN wP Bc wI; obtain ⟨x, hx⟩ := ah (G j); rw [hx] at HS ⊢; clear hx
    by_cases h0 : x = 0
    ·have HN : Hid (P2 (j + 1) = false) := ak (by rw [HS.o, hz.o, h0]; rfl)
     subst h0; clear hz
     go_wp2_with fail
     go_roundw
     case rel => exact ⟨j + 1, by omega, by rw [HFJ.o]; go_num, HN, mW.o⟩
     case measure => simp [intOf]; omega
    have HN : Hid (P2 8 = true) := ak (bU.o (j + 1) (by rw [HS.o, decide_eq_true h0]; simp) (by omega))
    have l6 : Hid (Z = false) := ak (by rw [HZ.o, HN.o]; rfl); have h0' : (x != 0) = true := by simp [h0]
    clear hz
    go_wp2_with fail
    go_returns
    exact ⟨aG l6.o, fW.o.trans (mW.o.mono fW.o.size)⟩
   have HN : Hid (P2 (j + 1) = false) := ak (by rw [HS.o, hz.o]; rfl)
   clear hz q0 q1 q2 q3 q4 q5 q6 q7 q8 q9 Fl uN wP Bc wI
   go_wp2_with fail
   go_roundw
   case rel => exact ⟨j + 1, by omega, by rw [HFJ.o]; go_num, HN, dA.o⟩
   case measure => simp [intOf]; omega
  obtain rfl : j = 8 := by omega
  have hz3 := HZ.o; rw [hz.o, Bool.not_false, Bool.true_and] at hz3; have kf := ak hz3; clear hz3; have rR := ak (fW.o.trans (dA.o.mono fW.o.size)); have aat := ak JK.o; have uS := ak (fun w' (hn : gZ w' FA FL) => tA FA FL fc 4 w' hn (by omega)); rw [j_.o] at uS; clear hz HZ Uw bU kW
  go_wp2_with fail
  refine (YL.o _).mono ?_; rintro e w4 ⟨rfl, rfl⟩; have hcc := l7.o; obtain ⟨q0, q1, q2, q3, q4, q5, q6, q7, q8, q9, Fl, uN, wP, Bc, wI⟩ := hcc.iZ; clear hcc
  go_upto_region 11 with fail
  go_cut [61] from 33 to 61 (fun x wx => x = .bool (p3 nm tz rt e6 e11 yes) /\ Below wr.heap.size wr wx)
  case first =>
   have g6 := He6.o; have g11 := Wh.o; have g6n : (k != 6) = !e6 := by rw [<- g6]; rfl
   have aeg : (k != 11) = !e11 := by rw [<- g11]; rfl
   cases nm
   ·cases tz
    ·cases e6
     ·cases e11
      ·go_wp2_with fail
       go_meet
       exact ⟨by simp [p3], Below.refl _ _⟩
      go_wp2_with fail
      go_meet
      exact ⟨by simp [p3], Below.refl _ _⟩
     go_wp2_with fail
     go_meet
     exact ⟨by simp [p3], Below.refl _ _⟩
    go_wp2_with fail
    go_meet
    exact ⟨by simp [p3], Below.refl _ _⟩
   go_wp2_with fail
   refine (iG.o _).mono ?_; rintro e w5 ⟨rfl, wJ⟩; have Gh := ak wJ; clear wJ
   cases rt
   ·go_wp2_with fail
    go_meet
    exact ⟨by simp [p3], Gh.o⟩
   cases e6
   ·cases e11
    ·have hcd := l7.o.later Gh.o
     obtain ⟨cd0, cd1, cd2, cd3, cd4, cd5, cd6, cd7, cd8, cd9, afV, afU, afT, afS, afR⟩ := hcd.iZ; clear hcd
     go_wp2_with fail
     go_meet
     exact ⟨by simp [p3], Gh.o⟩
    go_wp2_with fail
    go_meet
    exact ⟨by simp [p3], Gh.o⟩
   go_wp2_with fail
   go_meet
   exact ⟨by simp [p3], Gh.o⟩
  case rest =>
   obtain ⟨rfl, hbc⟩ := hcut; obtain ⟨b3, hb3⟩ := ah (p3 nm tz rt e6 e11 yes); rw [hb3] at kf ⊢; clear hb3; obtain ⟨wa, cM⟩ := aj wc; rw [<- cM] at hbc ⊢; have gG := ak (rR.o.trans (hbc.mono rR.o.size)); have tY := ak (l7.o.later hbc); have aau := ak (aat.o.later hbc); have hcf := tY.o; obtain ⟨cp0, cp1, U7, cp3, cp4, cp5, cp6, cp7, cp8, cp9, afL, afK, afJ, afI, afH⟩ := hcf.iZ; clear hcf hbc cM q0 q1 q2 q3 q4 q5 q6 q7 q8 q9 Fl uN wP Bc wI
   cases b3
   ·rw [Bool.not_false, Bool.true_and] at kf
    go_upto_region 13 with fail
    go_cut [79] from 62 to 79 (fun x wx => x = .bool (p4 e4 e5 bL bM) /\ wx = wa)
    case first =>
     have g4 := Yu.o; have g5 := He5.o; have g4n : (k != 4) = !e4 := by rw [<- g4]; rfl
     have g5n : (k != 5) = !e5 := by rw [<- g5]; rfl
     have gL := Yv.o; have gM := HbM.o
     cases e4
     ·cases e5
      ·cases bL
       ·go_wp2_with fail
        go_meet
        exact ⟨by simp [p4], rfl⟩
       go_wp2_with fail
       go_meet
       exact ⟨by simp [p4], rfl⟩
      go_wp2_with fail
      go_meet
      exact ⟨by simp [p4], rfl⟩
     go_wp2_with fail
     go_meet
     exact ⟨by simp [p4], rfl⟩
    case rest =>
     obtain ⟨rfl, jf⟩ := hcut; replace jf := jf.symm; subst jf; obtain ⟨b4, hb4⟩ := ah (p4 e4 e5 bL bM); rw [hb4] at kf ⊢; clear hb4
     cases b4
     ·rw [Bool.not_false, Bool.true_and] at kf
      go_upto_region 15 with fail
      go_cut [99] from 80 to 99 (fun x wx => x = .bool (p5 e4 bL ri rn) /\ Below wa.heap.size wa wx)
      case first =>
       have g4 := Yu.o; have gL := Yv.o
       cases e4
       ·cases bL
        ·go_wp2_with fail
         refine (Uu.o _ gG.o).mono ?_; rintro e w6 ⟨rfl, rI⟩; have Gg := ak rI; clear rI
         go_wp2_with fail
         go_meet
         exact ⟨by simp [p5], Gg.o⟩
        go_wp2_with fail
        refine (Vk.o _ gG.o).mono ?_; rintro e w6 ⟨rfl, rI⟩; have Gg := ak rI; have hce := tY.o.later rI; obtain ⟨ce0, ce1, ce2, ce3, ce4, ce5, ce6, ce7, ce8, ce9, aai, aah, aag, aaf, aae⟩ := hce.iZ; clear rI hce
        cases ri
        ·go_wp2_with fail
         go_meet
         exact ⟨by simp [p5], Gg.o⟩
        go_wp2_with fail
        refine (Uu.o _ (gG.o.trans (Gg.o.mono gG.o.size))).mono ?_; rintro e w7 ⟨rfl, vE⟩; have I9 := ak (Gg.o.trans (vE.mono Gg.o.size)); clear vE
        go_wp2_with fail
        go_meet
        exact ⟨by simp [p5], I9.o⟩
       go_wp2_with fail
       refine (Vk.o _ gG.o).mono ?_; rintro e w6 ⟨rfl, rI⟩; have Gg := ak rI; have hce := tY.o.later rI; obtain ⟨ce0, ce1, ce2, ce3, ce4, ce5, ce6, ce7, ce8, ce9, aai, aah, aag, aaf, aae⟩ := hce.iZ; clear rI hce
       cases ri
       ·go_wp2_with fail
        go_meet
        exact ⟨by simp [p5], Gg.o⟩
       go_wp2_with fail
       refine (Uu.o _ (gG.o.trans (Gg.o.mono gG.o.size))).mono ?_; rintro e w7 ⟨rfl, vE⟩; have I9 := ak (Gg.o.trans (vE.mono Gg.o.size)); clear vE
       go_wp2_with fail
       go_meet
       exact ⟨by simp [p5], I9.o⟩
      case rest =>
       obtain ⟨rfl, hbd⟩ := hcut; obtain ⟨b5, wJ⟩ := ah (p5 e4 bL ri rn); rw [wJ] at kf ⊢; clear wJ; obtain ⟨wb, hwb⟩ := aj wc; rw [<- hwb] at hbd ⊢; have kg := ak (gG.o.trans (hbd.mono gG.o.size)); have FB := ak (aau.o.later hbd); have hcf := tY.o.later hbd; obtain ⟨cm0, cm1, cm2, cm3, cm4, cm5, cm6, cm7, cm8, cm9, afQ, afP, afO, afN, afM⟩ := hcf.iZ; clear hcf hbd hwb
       cases b5
       ·rw [Bool.not_false, Bool.true_and] at kf
        go_upto_region 17 with fail
        go_cut [130] from 100 to 130 (fun x wx => x = .bool (p6 KZ c1 c2 x1 x2 g8 x0) /\ wx = wb)
        case first =>
         go_wp2_with fail
         refine (uS.o _ FB.o).mono ?_; rintro e w7 ⟨rfl, rfl⟩; have y1 := Hc1.o; have y2 := Hc2.o; have y3 := Hx1.o; have y4 := Hx2.o; have y5 := Hg8.o; have y6 := Hx0.o
         cases KZ
         ·go_wp2_with fail
          go_meet
          exact ⟨by simp [p6], rfl⟩
         cases c1
         ·cases c2
          ·cases x1
           ·cases x2
            ·cases g8
             ·go_wp2_with fail
              go_meet
              exact ⟨by simp [p6], rfl⟩
             go_wp2_with fail
             go_meet
             exact ⟨by simp [p6], rfl⟩
            go_wp2_with fail
            go_meet
            exact ⟨by simp [p6], rfl⟩
           go_wp2_with fail
           go_meet
           exact ⟨by simp [p6], rfl⟩
          go_wp2_with fail
          go_meet
          exact ⟨by simp [p6], rfl⟩
         go_wp2_with fail
         go_meet
         exact ⟨by simp [p6], rfl⟩
        case rest =>
         obtain ⟨rfl, jf⟩ := hcut; replace jf := jf.symm; subst jf; obtain ⟨b6, rI⟩ := ah (p6 KZ c1 c2 x1 x2 g8 x0); rw [rI] at kf ⊢; clear rI
         cases b6
         ·rw [Bool.not_false, Bool.true_and] at kf
          go_upto_region 19 with fail
          go_cut [138] from 131 to 138 (fun x wx => x = .bool (p7 v1 v2) /\ wx = wb)
          case first =>
           have y1 := Hv1.o; have y2 := Hv2.o
           cases v1
           ·go_wp2_with fail
            go_meet
            exact ⟨by simp [p7], rfl⟩
           go_wp2_with fail
           go_meet
           exact ⟨by simp [p7], rfl⟩
          case rest =>
           obtain ⟨rfl, jf⟩ := hcut; replace jf := jf.symm; subst jf; obtain ⟨b7, vE⟩ := ah (p7 v1 v2); rw [vE] at kf ⊢; clear vE
           cases b7
           ·rw [Bool.not_false, Bool.true_and] at kf
            clear He6 Wh Yu He5 Yv HbM Hc1 Hc2 Hx1 Hx2 Hg8 Hx0 Hv1 Hv2
            by_cases Ye : k = 1
            ·subst Ye
             rw [if_pos rfl] at kL
             by_cases f1 : 1 <= a1
             ·by_cases f2 : a1 <= 16
              ·by_cases f3 : 1 <= a0
               ·by_cases f4 : a0 <= a1
                ·by_cases f5 : 1 <= a2
                 ·by_cases f6 : a2 <= 16
                  ·have HV : Hid (Z = true) := ak (by rw [kf.o, kL.o, decide_eq_true (by omega)])
                   go_wp2_with fail
                   go_returns
                   exact ⟨aG HV.o, kg.o⟩
                  have HV : Hid (Z = false) := ak (by rw [kf.o, kL.o, decide_eq_false (by omega)])
                  go_wp2_with fail
                  go_returns
                  exact ⟨aG HV.o, kg.o⟩
                 have HV : Hid (Z = false) := ak (by rw [kf.o, kL.o, decide_eq_false (by omega)])
                 go_wp2_with fail
                 go_returns
                 exact ⟨aG HV.o, kg.o⟩
                have HV : Hid (Z = false) := ak (by rw [kf.o, kL.o, decide_eq_false (by omega)])
                go_wp2_with fail
                go_returns
                exact ⟨aG HV.o, kg.o⟩
               have HV : Hid (Z = false) := ak (by rw [kf.o, kL.o, decide_eq_false (by omega)])
               go_wp2_with fail
               go_returns
               exact ⟨aG HV.o, kg.o⟩
              have HV : Hid (Z = false) := ak (by rw [kf.o, kL.o, decide_eq_false (by omega)])
              go_wp2_with fail
              go_returns
              exact ⟨aG HV.o, kg.o⟩
             have HV : Hid (Z = false) := ak (by rw [kf.o, kL.o, decide_eq_false (by omega)])
             go_wp2_with fail
             go_returns
             exact ⟨aG HV.o, kg.o⟩
            by_cases Yd : k = 2
            ·subst Yd
             rw [if_neg (by decide), if_pos rfl] at kL
             by_cases f1 : 1 <= a2
             ·by_cases f2 : a2 <= 1099511627776
              ·have HV : Hid (Z = true) := ak (by rw [kf.o, kL.o, decide_eq_true (by omega)])
               go_wp2_with fail
               go_returns
               exact ⟨aG HV.o, kg.o⟩
              have HV : Hid (Z = false) := ak (by rw [kf.o, kL.o, decide_eq_false (by omega)])
              go_wp2_with fail
              go_returns
              exact ⟨aG HV.o, kg.o⟩
             have HV : Hid (Z = false) := ak (by rw [kf.o, kL.o, decide_eq_false (by omega)])
             go_wp2_with fail
             go_returns
             exact ⟨aG HV.o, kg.o⟩
            by_cases Yb : k = 8
            ·subst Yb
             rw [if_neg (by decide), if_neg (by decide), if_pos rfl] at kL
             by_cases f1 : 1 <= a0
             ·by_cases f2 : a0 <= 16
              ·have HV : Hid (Z = true) := ak (by rw [kf.o, kL.o, decide_eq_true (by omega)])
               go_wp2_with fail
               go_returns
               exact ⟨aG HV.o, kg.o⟩
              have HV : Hid (Z = false) := ak (by rw [kf.o, kL.o, decide_eq_false (by omega)])
              go_wp2_with fail
              go_returns
              exact ⟨aG HV.o, kg.o⟩
             have HV : Hid (Z = false) := ak (by rw [kf.o, kL.o, decide_eq_false (by omega)])
             go_wp2_with fail
             go_returns
             exact ⟨aG HV.o, kg.o⟩
            by_cases Yc : k = 3
            ·subst Yc
             rw [if_neg (by decide), if_neg (by decide), if_neg (by decide), if_pos rfl] at kL
             by_cases f1 : 0 <= a4
             ·by_cases f2 : a4 <= 2
              ·by_cases f3 : a4 = 2
               ·subst f3
                by_cases f4 : 1 <= a0
                ·by_cases f5 : a0 <= 16
                 ·have HV : Hid (Z = true) := ak (by rw [kf.o, kL.o, decide_eq_true (by omega)])
                  go_wp2_with fail
                  go_returns
                  exact ⟨aG HV.o, kg.o⟩
                 have HV : Hid (Z = false) := ak (by rw [kf.o, kL.o, decide_eq_false (by omega)])
                 go_wp2_with fail
                 go_returns
                 exact ⟨aG HV.o, kg.o⟩
                have HV : Hid (Z = false) := ak (by rw [kf.o, kL.o, decide_eq_false (by omega)])
                go_wp2_with fail
                go_returns
                exact ⟨aG HV.o, kg.o⟩
               have f3b : (a4 == 2) = false := by simp [f3]
               have f6 : a4 < 2 := by omega
               by_cases f7 : a0 = 0
               ·subst f7
                have HV : Hid (Z = true) := ak (by rw [kf.o, kL.o, decide_eq_true (by omega)])
                go_wp2_with fail
                go_returns
                exact ⟨aG HV.o, kg.o⟩
               have f7b : (a0 == 0) = false := by simp [f7]
               have HV : Hid (Z = false) := ak (by rw [kf.o, kL.o, decide_eq_false (by omega)])
               go_wp2_with fail
               go_returns
               exact ⟨aG HV.o, kg.o⟩
              have HV : Hid (Z = false) := ak (by rw [kf.o, kL.o, decide_eq_false (by omega)])
              go_wp2_with fail
              go_returns
              exact ⟨aG HV.o, kg.o⟩
             have HV : Hid (Z = false) := ak (by rw [kf.o, kL.o, decide_eq_false (by omega)])
             go_wp2_with fail
             go_returns
             exact ⟨aG HV.o, kg.o⟩
            rw [if_neg Ye, if_neg Yd, if_neg Yb, if_neg Yc] at kL
            have HV : Hid (Z = true) := ak (by rw [kf.o, kL.o]); have k1b : (k == 1) = false := by simp [Ye]
            have k2b : (k == 2) = false := by simp [Yd]
            have k8b : (k == 8) = false := by simp [Yb]
            have k3b : (k == 3) = false := by simp [Yc]
            go_wp2_with fail
            go_returns
            exact ⟨aG HV.o, kg.o⟩
           have l6 : Hid (Z = false) := ak (by rw [kf.o]; rfl)
           go_wp2_with fail
           go_returns
           exact ⟨aG l6.o, kg.o⟩
         have l6 : Hid (Z = false) := ak (by rw [kf.o]; rfl)
         go_wp2_with fail
         go_returns
         exact ⟨aG l6.o, kg.o⟩
       have l6 : Hid (Z = false) := ak (by rw [kf.o]; rfl)
       go_wp2_with fail
       go_returns
       exact ⟨aG l6.o, kg.o⟩
     have l6 : Hid (Z = false) := ak (by rw [kf.o]; rfl)
     go_wp2_with fail
     go_returns
     exact ⟨aG l6.o, gG.o⟩
   have l6 : Hid (Z = false) := ak (by rw [kf.o]; rfl)
   go_wp2_with fail
   go_returns
   exact ⟨aG l6.o, gG.o⟩
