/- Part 30 of the proof. Conditions: none. -/
import Derived.Test.YtdkchpiinelmiaaGreatZ28
import Derived.Test.YtdkchpiinelmiaaGreatZ29
import Derived.Test.YtdkchpiinelmiaaGreatZ19
import Derived.Test.YtdkchpiinelmiaaGreatZ23
import Derived.Test.YtdkchpiinelmiaaGreatZ24
import Derived.Test.YtdkchpiinelmiaaGreatZ25
import Derived.Test.YtdkchpiinelmiaaGreatZ26
import Derived.Test.YtdkchpiinelmiaaGreatZ27
namespace Go.Proofs.YtdkchpiinelmiaaGreat.Rec
set_option maxRecDepth 100000
open Go.RowKit Mem fN
def left (r : Rc) (l : List Int) (k : Nat) : List Bool := (hasB r).mapIdx fun j b => b && !decide ((j : Int) ∈ l.take k)
theorem yK (r : Rc) (l : List Int) (k : Nat) : (left r l k).length = 12 := by simp [left, hasB]
theorem Es (r : Rc) (l : List Int) : left r l 0 = hasB r := by simp [left, hasB]
theorem Hr (r : Rc) (l : List Int) (k : Nat) (hk : k < l.length) (f : Nat) (hf : l[k] = (f : Int)) : ((left r l k).map Value.bool).set f (.bool false) = (left r l (k + 1)).map Value.bool := by
 apply List.ext_getElem
 ·simp [left]
 intro j h1 h2
 rw [List.getElem_set]; have ht : l.take (k + 1) = l.take k ++ [(f : Int)] := by rw [List.take_succ_eq_append_getElem hk, hf]
 by_cases e : f = j
 ·subst e
  simp [left, ht]
 rw [if_neg e]
 have : ¬ (j : Int) = (f : Int) := by omega
 simp [left, ht, this]
def fE (r : Rc) (l : List Int) : Bool := (left r l l.length).any id
set_option maxHeartbeats 1000000 in
theorem Ai (r : Rc) (y : Lay) (A0 : Option Addr) (l : List Int) (c0 : Nat) (w : World) (hl : gZ w A0 l) (hr : ∀ k (h : k < l.length), ∃ f : Nat, f < 12 /\ l[k] = (f : Int)) (hm : l.length <= 1000) :
  Calls Tryz.prog 48 #[r.val y, .slice A0 l.length c0] w fun e w' => e = .returned (.bool (fE r l)) /\ Below w.heap.size w w' := by
 have HN := ak (fun w => fF r y w); have HS := ak (Hr r l); have YO := ak (yK r l); have H0 := ak (Es r l); have HO := ak (show (left r l l.length).any id = fE r l from rfl)
 have Uz := ak hl; have Xx := ak hr; obtain ⟨K, hK⟩ := ah (left r l); obtain ⟨Z, hZ⟩ := ah (fE r l); obtain ⟨X, hX⟩ := ah (hasB r); have Uq := ak (dY r); rw [hK] at HS YO H0 HO; rw [hZ] at HO ⊢; rw [hX] at HN H0 Uq; clear hK hZ hX hl hr; obtain ⟨k, ⟨t1, t2, t3⟩, its, tT, a0, a1, a2, a3, a4, a5, a6, a7, yes⟩ := r; obtain ⟨A, c, B, d⟩ := y
 generalize hL : its.length = L at HN
 generalize hM : tT.length = M at HN
 unfold Rc.val at HN ⊢; simp only [hL, hM] at HN ⊢; clear hL hM; obtain ⟨b0, b1, b2, b3, b4, b5, b6, b7, b8, b9, b10, uR, hX⟩ := zX X Uq.o; rw [hX] at HN H0; clear hX Uq; simp only [List.map_cons, List.map_nil] at HN
 go_enter Tryz.func48, Tryz.ntmps48
 go_wp2_with fail
 refine (HN.o _).mono ?_; rintro e w1 ⟨rfl, hb1⟩; have hb := Below.trans (av w _) (Below.mono hb1 (by simp)); have HB := ak hb; have hcn := aB w1 124 ((K 0).map Value.bool) #[.bool b0, .bool b1, .bool b2, .bool b3, .bool b4, .bool b5, .bool b6, .bool b7, .bool b8, .bool b9, .bool b10, .bool uR] (by rw [H0.o]; rfl); have YW := ak hcn; clear hcn hb hb1 H0 HN
 go_wp2_with fail
 go_loopw [7, 12] (fun _ i wr => ∃ k : Nat, k <= l.length /\ i = iv (k : Int) /\ Cells wr w1.heap.size 124 ((K k).map Value.bool) /\ Below w.heap.size w wr) (fun _ i _ => l.length - (intOf i).toNat)
 case atStart => exact ⟨0, by omega, rfl, YW.o, HB.o.alloc HB.o.size _⟩
 case round =>
  obtain ⟨k, hk, rfl, gH, hbk⟩ := hrel; have wN := ak gH; have Vy := ak hbk
  by_cases hlt : k < l.length
  ·obtain ⟨f, hf, KX⟩ := Xx.o k hlt
   have Lc := ak (HS.o k hlt f KX); obtain ⟨bl, off, rfl, hcl⟩ := Uz.o k hlt; have Jv := (hbk.cell (aH hcl)).trans hcl; rw [KX] at Jv; have hkl := YO.o k; obtain ⟨u, hu⟩ : ∃ u, ((K k).map Value.bool)[f]? = some u := ⟨_, List.getElem?_eq_getElem (by rw [List.length_map, hkl]; exact hf)⟩; have ck := gH.cell (j := f) hu; have fk := gH.frozen (j := f) (by simp; omega); clear gH hbk hcl KX hu
   go_wp2_with fail
   go_roundw
   case rel =>
    refine ⟨k + 1, by omega, by go_num, ?_, ?_⟩
    ·rw [<- Lc.o]
     exact wN.o.fB f (.bool false)
    exact Vy.o.setCell HB.o.size _
   case measure => simp [intOf]; omega
  obtain rfl : k = l.length := by omega
  obtain ⟨b0, b1, b2, b3, b4, b5, b6, b7, b8, b9, b10, uR, hZ⟩ := zX (K l.length) (YO.o _); rw [hZ] at gH HO; have hne := Ko b0 b1 b2 b3 b4 b5 b6 b7 b8 b9 b10 uR; rw [HO.o] at hne; obtain ⟨c0, c1, c2, c3, c4, c5, c6, c7, c8, c9, c10, c11⟩ := gH.wP; clear gH hbk HO hZ
  go_wp2_with fail
  go_returns
  exact ⟨rfl, Vy.o⟩
def rf (r : Rc) (f : Nat) : Bool :=
 if f = 8 then cF r.tid else if f = 9 then (decide (r.kind = 5) && decide (r.items.length = 0)) || aY r.items else if f = 10 then bn r.nodes else if f = 11 then true
 else decide ((iP r f).1 <= r.get f) && decide (r.get f <= (iP r f).2)
set_option maxHeartbeats 1000000 in
theorem tP (r : Rc) (y : Lay) (f : Nat) (w : World) (hf : f < 12) (h : Has w r y) (h1 : r.items.length <= 1000) (h2 : r.nodes.length <= 1000) :
  Calls Tryz.prog 49 #[r.val y, iv (f : Int)] w fun e w' => e = .returned (.bool (rf r f)) /\ Below w.heap.size w w' := by
 have HI := ak (fun w' (hb : Below w.heap.size w w') => tN y.A r.items y.c w' (h.items.later hb) (by omega)); have HM := ak (fun w' (hb : Below w.heap.size w w') => tM y.B r.nodes y.d w' (h.nodes.later hb) (by omega)); have HT := ak (fun w' => vY r.tid w'); have HN := ak (fun w' => rA r y w'); have HL := ak (fun hf w' => Am r y f w' hf); have HX := ak (fun hf w' => u7 r f hf w'); obtain ⟨Z, hZ⟩ := aj (rf r f); have HZ := ak hZ; rw [<- hZ]; clear hZ h; obtain ⟨p, hp⟩ := ah (iP r f); obtain ⟨G, hG⟩ := ah (r.get f); obtain ⟨RI, hRI⟩ := ah (aY r.items); obtain ⟨RN, hRN⟩ := ah (bn r.nodes); obtain ⟨RT, hRT⟩ := ah (cF r.tid); unfold rf at HZ; rw [hp] at HL HZ; rw [hG] at HX HZ; rw [hRI] at HI HZ; rw [hRN] at HM HZ; rw [hRT] at HT HZ; clear hp hG hRI hRN hRT; obtain ⟨p1, p2⟩ := p; obtain ⟨k, ⟨t1, t2, t3⟩, its, tT, a0, a1, a2, a3, a4, a5, a6, a7, yes⟩ := r; obtain ⟨A, c, B, d⟩ := y; simp only at HI HM HT h1 h2 HL HX HN HZ
 generalize hL : its.length = L at *
 generalize hM : tT.length = M at *
 unfold Rc.val at HN HL ⊢; unfold cT.val at HT; simp only [hL, hM] at HN HL HT ⊢; clear hL hM; have HB := ak (av w (.cells #[iv k, iv t1, iv t2, iv t3, .slice A L c, .slice B M d, iv a0, iv a1, iv a2, iv a3, iv a4, iv a5, iv a6, iv a7, .bool yes] 51))
 by_cases e8 : f = 8
 ·subst e8
  rw [if_pos rfl] at HZ
  go_enter Tryz.func49, Tryz.ntmps49
  go_wp2_with fail
  refine (HT.o _).mono ?_; rintro e w1 ⟨rfl, hb1⟩; have fW := ak (HB.o.trans (hb1.mono HB.o.size)); clear hb1
  go_wp2_with fail
  go_returns
  exact ⟨aG HZ.o, fW.o⟩
 rw [if_neg e8] at HZ
 by_cases e9 : f = 9
 ·subst e9
  rw [if_pos rfl] at HZ
  by_cases h5 : k = 5
  ·subst h5
   by_cases h0 : L = 0
   ·subst h0
    have l6 : Hid (Z = true) := ak (by rw [HZ.o]; simp); clear e8
    go_enter Tryz.func49, Tryz.ntmps49
    go_wp2_with fail
    go_returns
    exact ⟨aG l6.o, HB.o⟩
   have l6 : Hid (Z = ((L : Int) == 0 || RI)) := ak (by rw [HZ.o]; simp [h0])
   clear e8
   go_enter Tryz.func49, Tryz.ntmps49
   go_wp2_with fail
   refine (HI.o _ HB.o).mono ?_; rintro e w1 ⟨rfl, hb1⟩; have fW := ak (HB.o.trans (hb1.mono HB.o.size)); clear hb1
   go_wp2_with fail
   go_returns
   exact ⟨aG l6.o, fW.o⟩
  have l6 : Hid (Z = RI) := ak (by rw [HZ.o]; simp [h5])
  clear e8
  go_enter Tryz.func49, Tryz.ntmps49
  go_wp2_with fail
  refine (HI.o _ HB.o).mono ?_; rintro e w1 ⟨rfl, hb1⟩; have fW := ak (HB.o.trans (hb1.mono HB.o.size)); clear hb1
  go_wp2_with fail
  go_returns
  exact ⟨aG l6.o, fW.o⟩
 rw [if_neg e9] at HZ
 by_cases e10 : f = 10
 ·subst e10
  rw [if_pos rfl] at HZ; clear e8 e9
  go_enter Tryz.func49, Tryz.ntmps49
  go_wp2_with fail
  refine (HM.o _ HB.o).mono ?_; rintro e w1 ⟨rfl, rfl⟩
  go_wp2_with fail
  go_returns
  exact ⟨aG HZ.o, HB.o⟩
 rw [if_neg e10] at HZ
 by_cases e11 : f = 11
 ·subst e11
  rw [if_pos rfl] at HZ; clear e8 e9 e10
  go_enter Tryz.func49, Tryz.ntmps49
  go_wp2_with fail
  go_returns
  exact ⟨aG HZ.o, HB.o⟩
 rw [if_neg e11] at HZ; have hf8 : f < 8 := by omega
 have hx := HX.o hf8; have n8 : ¬ (f : Int) = 8 := by omega
 have n9 : ¬ (f : Int) = 9 := by omega
 have n10 : ¬ (f : Int) = 10 := by omega
 have n11 : ¬ (f : Int) = 11 := by omega
 clear e8 e9 e10 e11; have aaB := ak (aB w 51 _ #[iv k, iv t1, iv t2, iv t3, .slice A L c, .slice B M d, iv a0, iv a1, iv a2, iv a3, iv a4, iv a5, iv a6, iv a7, .bool yes] rfl)
 go_enter Tryz.func49, Tryz.ntmps49
 go_wp2_with fail
 refine (HN.o _).mono ?_; rintro e w1 ⟨rfl, hb1⟩; have fW := ak (HB.o.trans (hb1.mono HB.o.size)); have hc := aaB.o.later hb1; obtain ⟨q0, q1, q2, q3, q4, q5, q6, q7, q8, q9, Fl, uN, wP, Bc, wI⟩ := hc.iZ; clear hb1 hc
 go_wp2_with fail
 refine (HL.o hf8 _).mono ?_; rintro e w2 ⟨rfl, hb2⟩; have bZ := ak (fW.o.trans (hb2.mono fW.o.size)); clear hb2 q0 q1 q2 q3 q4 q5 q6 q7 q8 q9 Fl uN wP Bc wI hx
 by_cases g1 : p1 <= G
 ·by_cases g2 : G <= p2
  ·rw [decide_eq_true g1, decide_eq_true g2] at HZ
   go_wp2_with fail
   go_returns
   exact ⟨aG HZ.o, bZ.o⟩
  rw [decide_eq_false g2, Bool.and_false] at HZ
  go_wp2_with fail
  go_returns
  exact ⟨aG (HZ.o.trans (decide_eq_false (by omega)).symm), bZ.o⟩
 rw [decide_eq_false g1, Bool.false_and] at HZ
 go_wp2_with fail
 go_returns
 exact ⟨aG HZ.o, bZ.o⟩
theorem T9 (k : Int) : ∀ x ∈ fl k, 0 <= x /\ x < 12 := by
 intro x hx; unfold fl at hx
 split at hx
 ·simp at hx; omega
 split at hx
 ·simp at hx; omega
 split at hx
 ·simp at hx; omega
 split at hx
 ·simp at hx; omega
 split at hx
 ·simp at hx; omega
 split at hx
 ·simp at hx; omega
 split at hx
 ·simp at hx; omega
 split at hx
 ·simp at hx; omega
 split at hx
 ·simp at hx; omega
 split at hx
 ·simp at hx; omega
 split at hx
 ·simp at hx; omega
 simp at hx
theorem KO (k : Int) : ∀ i (h : i < (fl k).length), ∃ f : Nat, f < 12 /\ (fl k)[i] = (f : Int) := by
 intro i h; have := T9 k _ (List.getElem_mem h); exact ⟨((fl k)[i]).toNat, by omega, by omega⟩
theorem GS (k : Int) : (fl k).length <= 6 := by
 unfold fl
 split
 ·decide
 split
 ·decide
 split
 ·decide
 split
 ·decide
 split
 ·decide
 split
 ·decide
 split
 ·decide
 split
 ·decide
 split
 ·decide
 split
 ·decide
 split
 ·decide
 decide
def right (r : Rc) : Bool := decide (1 <= r.kind /\ r.kind <= 12) && !fE r (fl r.kind) && (fl r.kind).all fun x => rf r x.toNat
theorem IQ (r : Rc) (l : List Int) (k f : Nat) (h : k < l.length) (e : l[k] = (f : Int)) : ((l.drop k).all fun x => rf r x.toNat) = (rf r f && (l.drop (k + 1)).all fun x => rf r x.toNat) := by
 rw [List.drop_eq_getElem_cons h, List.all_cons, e, Int.toNat_natCast]
set_option maxHeartbeats 1000000 in
theorem cU (r : Rc) (y : Lay) (w : World) (h : Has w r y) (h1 : r.items.length <= 1000) (h2 : r.nodes.length <= 1000) :
  Calls Tryz.prog 25 #[r.val y] w fun e w' => e = .returned (.bool (right r)) /\ Below w.heap.size w w' := by
 have HF := ak (fun f hf w' (hb : Below w.heap.size w w') => tP r y f w' hf (h.later hb) h1 h2); have HO := ak (fun A0 c0 w' (hl : gZ w' A0 (fl r.kind)) => Ai r y A0 (fl r.kind) c0 w' hl (KO r.kind) (Nat.le_trans (GS _) (by decide))); have Jo := ak (fun w' => AU r.kind w'); have lD := ak (KO r.kind); have HST := ak (IQ r (fl r.kind)); have lC := ak (GS r.kind); have HZ : Hid (right r = (decide (1 <= r.kind /\ r.kind <= 12) && !fE r (fl r.kind) && ((fl r.kind).drop 0).all fun x => rf r x.toNat)) := ak rfl; clear h; obtain ⟨Z, hz⟩ := ah (right r); obtain ⟨O, ho⟩ := ah (fE r (fl r.kind)); obtain ⟨F, hf⟩ := ah (fl r.kind); obtain ⟨R, hR⟩ := ah (rf r); rw [ho] at HZ HO; rw [hz] at HZ ⊢; rw [hf] at HO Jo lD HST HZ lC; simp only [hR] at HF HST HZ; clear hz ho hf hR; have hle := lC.o; obtain ⟨k, ⟨t1, t2, t3⟩, its, tT, a0, a1, a2, a3, a4, a5, a6, a7, yes⟩ := r; obtain ⟨A, c, B, d⟩ := y; simp only at HZ Jo h1 h2
 generalize hL : its.length = L at *
 generalize hM : tT.length = M at *
 unfold Rc.val at HF HO ⊢; simp only [hL, hM] at HF HO ⊢; clear hL hM; have HB := ak (av w (.cells #[iv k, iv t1, iv t2, iv t3, .slice A L c, .slice B M d, iv a0, iv a1, iv a2, iv a3, iv a4, iv a5, iv a6, iv a7, .bool yes] 51)); have HC := ak (aB w 51 _ #[iv k, iv t1, iv t2, iv t3, .slice A L c, .slice B M d, iv a0, iv a1, iv a2, iv a3, iv a4, iv a5, iv a6, iv a7, .bool yes] rfl)
 go_enter Tryz.func25, Tryz.ntmps25
 go_wp2_with fail
 refine (Jo.o _).mono ?_; rintro e w1 ⟨FA, fc, rfl, UO, _, hb1⟩; have Uz := ak UO; have fW := ak (HB.o.trans (hb1.mono HB.o.size)); have DV := ak (HC.o.later hb1); clear UO hb1
 by_cases hk : 1 <= k /\ k <= 12
 ·rw [decide_eq_true hk, Bool.true_and] at HZ
  rw [decide_eq_true hk]; clear hk; have hc := DV.o; obtain ⟨q0, q1, q2, q3, q4, q5, q6, q7, q8, q9, Fl, uN, wP, Bc, wI⟩ := hc.iZ; clear hc
  go_wp2_with fail
  refine (HO.o _ _ _ Uz.o).mono ?_; rintro e w2 ⟨rfl, hb2⟩; have JK := ak (Uz.o.later hb2); have bZ := ak (fW.o.trans (hb2.mono fW.o.size)); have l7 := ak (DV.o.later hb2); clear hb2 q0 q1 q2 q3 q4 q5 q6 q7 q8 q9 Fl uN wP Bc wI
  cases O
  ·rw [Bool.not_false, Bool.true_and] at HZ
   go_wp2_with fail
   go_loopw [6, 22] (fun _ i wr => ∃ j : Nat, j <= F.length /\ i = iv (j : Int) /\ Hid (Z = (F.drop j).all fun x => R x.toNat) /\ Below w2.heap.size w2 wr) (fun _ i _ => F.length - (intOf i).toNat)
   case atStart => exact ⟨0, by omega, rfl, HZ, Below.refl _ _⟩
   case round =>
    obtain ⟨j, hj, rfl, hz, hbr⟩ := hrel; have dA := ak hbr
    by_cases hlt : j < F.length
    ·obtain ⟨f, hf, KX⟩ := lD.o j hlt
     have HSJ := ak (HST.o j f hlt KX); obtain ⟨bl, off, rfl, hcl⟩ := JK.o j hlt; have Jv := (hbr.cell (aH hcl)).trans hcl; rw [KX] at Jv; have hc := l7.o.later hbr; obtain ⟨q0, q1, q2, q3, q4, q5, q6, q7, q8, q9, Fl, uN, wP, Bc, wI⟩ := hc.iZ; clear hc hcl KX hbr
     go_wp2_with fail
     refine (HF.o f hf _ (bZ.o.trans (dA.o.mono bZ.o.size))).mono ?_; rintro e w3 ⟨rfl, hb3⟩; have mW := ak (dA.o.trans (hb3.mono dA.o.size)); clear hb3 q0 q1 q2 q3 q4 q5 q6 q7 q8 q9 Fl uN wP Bc wI Jv
     by_cases hr : R f = true
     ·have l6 : Hid (Z = (F.drop (j + 1)).all fun x => R x.toNat) := ak (by rw [hz.o, HSJ.o, hr, Bool.true_and])
      rw [hr]; clear hr hz
      go_wp2_with fail
      go_roundw
      case rel => exact ⟨j + 1, by omega, by go_num, l6, mW.o⟩
      case measure => simp [intOf]; omega
     have hr' : R f = false := by simpa using hr
     have l6 : Hid (Z = false) := ak (by rw [hz.o, HSJ.o, hr', Bool.false_and]); rw [hr']; clear hr hr' hz
     go_wp2_with fail
     go_returns
     exact ⟨aG l6.o, bZ.o.trans (mW.o.mono bZ.o.size)⟩
    obtain rfl : j = F.length := by omega
    have l6 : Hid (Z = true) := ak (by rw [hz.o, List.drop_length, List.all_nil]); clear hz hbr
    go_wp2_with fail
    go_returns
    exact ⟨aG l6.o, bZ.o.trans (dA.o.mono bZ.o.size)⟩
  rw [Bool.not_true, Bool.false_and] at HZ
  go_wp2_with fail
  go_returns
  exact ⟨aG HZ.o, bZ.o⟩
 rw [decide_eq_false hk, Bool.false_and, Bool.false_and] at HZ
 rw [decide_eq_false hk]; clear hk
 go_wp2_with fail
 go_returns
 exact ⟨aG HZ.o, fW.o⟩
end Go.Proofs.YtdkchpiinelmiaaGreat.Rec
namespace Go.Proofs.YtdkchpiinelmiaaGreat.Led
set_option maxRecDepth 100000
open Go.RowKit Go.Deep Mem fN Rec
theorem iM {r : Rc} (h : right r = true) (hk : r.kind = 1) : 1 <= r.num /\ r.num <= 16 := by
  unfold right at h; simp only [Bool.and_eq_true] at h; have h2 := h.2; rw [hk] at h2; have h3 := List.all_eq_true.1 h2 2 (by decide)
  simp [rf, iP, hk, Rc.get, Rc.jN] at h3
  exact h3
def aV (s : St) (r : Rc) : St × Int := if r.kind = 1 then (cJ r.node r.count r.num.toNat, 0) else if r.kind = 2 then gj s r else if r.kind = 3 then eB s r else if r.kind = 4 then bq s r else if r.kind = 6 then cK s r else if r.kind = 11 then dK s r else if r.kind = 5 then cQ s r else if r.kind = 7 then lf s r else if r.kind = 8 then iz s r else if r.kind = 9 then vG s r else if r.kind = 10 then fY s r else (s, 0)
def aC (s : St) (r : Rc) : St × Int := if right r = false then (s, 1) else aV s r
theorem Em {base b : Nat} {s s' : St} {y z : Sy} {w w' w9 : World} (h : Own base w b s y) (hb : Below w.heap.size w w') (hl : Lists (fun k => k < w.heap.size) w.heap.size w' s' z) (hc : Cells w9 b 32 (s'.vals z)) (ho : Only (fun k => k = b) w' w9) : Step base b s y w s' w9 := by
  have hlt := h.br.lt; have fO := h.low; have h1 := hl.only ho (fun k _ e => by rw [e]; exact hlt) (fun k hk e => by have := (hl.lt hk).1; omega)
  have hroom := h.room; have hbs := hb.size; have hos := ho.size; refine ⟨z, ⟨h.low, hc, h1.weak (by omega) (fun k e => by unfold sb at e; omega), fun e => by have := (hl.lt e).1; omega, by omega⟩, (Only.of_below hb).trans ho fun _ _ e => Or.inl e, fun k e => ?_⟩
  rcases e with e | e
  · exact Or.inl (Or.inl e)
  exact Or.inr (hl.lt e).1
