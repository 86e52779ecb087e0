/- Part 29 of the proof. Conditions: none. -/
import Derived.Test.YtdkchpiinelmiaaGreatZ4
namespace Go.Proofs.YtdkchpiinelmiaaGreat.fN
open Go.RowKit Mem
def cF (t : cT) : Bool := decide (1 <= t.node /\ t.node <= 16 /\ 1 <= t.epoch /\ t.epoch <= 1099511627776 /\ 1 <= t.seq /\ t.seq <= 1099511627776)
def fD (x : It) : Bool := decide (0 <= x.cell /\ x.cell <= 15 /\ 0 <= x.version /\ x.version <= 1099511627775 /\ (x.write = true \/ x.new = 0))
def bW (last : Int) : List It -> Bool
 | [] => true
 | x :: l => decide (last < x.cell) && fD x && bW x.cell l
def aY (l : List It) : Bool := bW (-1) l && decide (0 < l.length)
def dS (last : Int) : List Int -> Bool
 | [] => true
 | n :: l => decide (last < n /\ n <= 16) && dS n l
def bn (l : List Int) : Bool := dS 0 l
def iR (l : List It) (k : Nat) : Int := if k = 0 then -1 else ((l[k - 1]?).map (·.cell)).getD 0
def gJ (l : List Int) (k : Nat) : Int := if k = 0 then 0 else (l[k - 1]?).getD 0
theorem tE (l : List It) (k : Nat) (h : k < l.length) : iR l (k + 1) = l[k].cell := by
 unfold iR; rw [if_neg (by omega), Nat.add_sub_cancel, List.getElem?_eq_getElem h]
 rfl
theorem lO (l : List Int) (k : Nat) (h : k < l.length) : gJ l (k + 1) = l[k] := by
 unfold gJ; rw [if_neg (by omega), Nat.add_sub_cancel, List.getElem?_eq_getElem h]
 rfl
theorem kH (l : List It) (k : Nat) (h : k < l.length) : bW (iR l k) (l.drop k) = (decide (iR l k < l[k].cell) && fD l[k] && bW (iR l (k + 1)) (l.drop (k + 1))) := by
 rw [tE l k h, List.drop_eq_getElem_cons h]
 rfl
theorem kI (l : List Int) (k : Nat) (h : k < l.length) : dS (gJ l k) (l.drop k) = (decide (gJ l k < l[k] /\ l[k] <= 16) && dS (gJ l (k + 1)) (l.drop (k + 1))) := by
 rw [lO l k h, List.drop_eq_getElem_cons h]
 rfl
theorem cO (n a b : Int) (w : World) : Calls Tryz.prog 100 #[iv n, iv a, iv b] w fun e w' => e = .returned (.bool (decide (a <= n /\ n <= b))) /\ w = w' := by
 by_cases h1 : a <= n
 ·by_cases h2 : n <= b
  ·have HV := ak (decide_eq_true (And.intro h1 h2))
   go_enter Tryz.func100, Tryz.ntmps100
   go_wp2
   go_returns
   exact ⟨aG HV.o, rfl⟩
  rw [decide_eq_false (fun h : a <= n /\ n <= b => h2 h.2)]
  go_enter Tryz.func100, Tryz.ntmps100
  go_wp2
  go_returns
  exact ⟨rfl, rfl⟩
 rw [decide_eq_false (fun h : a <= n /\ n <= b => h1 h.1)]
 go_enter Tryz.func100, Tryz.ntmps100
 go_wp2
 go_returns
 exact ⟨rfl, rfl⟩
theorem vY (t : cT) (w : World) : Calls Tryz.prog 82 #[t.val] w fun e w' => e = .returned (.bool (cF t)) /\ Below w.heap.size w w' := by
 obtain ⟨n, p, s⟩ := t; have HB := ak (av w (.cells #[iv n, iv p, iv s] 47)); unfold cT.val
 by_cases h1 : 1 <= n /\ n <= 16
 ·have H1 := ak (decide_eq_true h1)
  by_cases h2 : 1 <= p /\ p <= 1099511627776
  ·have H2 := ak (decide_eq_true h2)
   have HV : Hid (cF ⟨n, p, s⟩ = decide (1 <= s /\ s <= 1099511627776)) := ak (by
    have a1 := h1.1; have a2 := h1.2; have a3 := h2.1; have a4 := h2.2
    simp [cF, a1, a2, a3, a4])
   clear h1 h2
   go_enter Tryz.func82, Tryz.ntmps82
   go_wp2_with fail
   refine (cO n 1 16 _).mono ?_; rintro e w1 ⟨rfl, rfl⟩; rw [H1.o]
   go_wp2_with fail
   refine (cO p 1 1099511627776 _).mono ?_; rintro e w1 ⟨rfl, rfl⟩; rw [H2.o]
   go_wp2_with fail
   refine (cO s 1 1099511627776 _).mono ?_; rintro e w1 ⟨rfl, rfl⟩; rw [<- HV.o]
   go_wp2_with fail
   go_returns
   exact ⟨rfl, HB.o⟩
  have H2 := ak (decide_eq_false h2)
  have HV : Hid (cF ⟨n, p, s⟩ = false) := ak (decide_eq_false fun h => h2 ⟨h.2.2.1, h.2.2.2.1⟩); clear h1 h2
  go_enter Tryz.func82, Tryz.ntmps82
  go_wp2_with fail
  refine (cO n 1 16 _).mono ?_; rintro e w1 ⟨rfl, rfl⟩; rw [H1.o]
  go_wp2_with fail
  refine (cO p 1 1099511627776 _).mono ?_; rintro e w1 ⟨rfl, rfl⟩; rw [H2.o]
  go_wp2_with fail
  go_returns
  exact ⟨aG HV.o, HB.o⟩
 have H1 := ak (decide_eq_false h1)
 have HV : Hid (cF ⟨n, p, s⟩ = false) := ak (decide_eq_false fun h => h1 ⟨h.1, h.2.1⟩); clear h1
 go_enter Tryz.func82, Tryz.ntmps82
 go_wp2_with fail
 refine (cO n 1 16 _).mono ?_; rintro e w1 ⟨rfl, rfl⟩; rw [H1.o]
 go_wp2_with fail
 go_returns
 exact ⟨aG HV.o, HB.o⟩
theorem rN (t : cT) (w : World) : Calls Tryz.prog 70 #[t.val] w fun e w' => e = .returned (.bool (cF t)) /\ Below w.heap.size w w' := by
 obtain ⟨n, p, s⟩ := t; have HB := ak (av w (.cells #[iv n, iv p, iv s] 47)); have HV := ak (show cF ⟨n, p, s⟩ = decide (1 <= n /\ n <= 16 /\ 1 <= p /\ p <= 1099511627776 /\ 1 <= s /\ s <= 1099511627776) from rfl)
 unfold cT.val
 by_cases h1 : 1 <= n
 ·by_cases h2 : n <= 16
  ·by_cases h3 : 1 <= p
   ·by_cases h4 : p <= 1099511627776
    ·by_cases h5 : 1 <= s
     ·by_cases h6 : s <= 1099511627776
      ·rw [decide_eq_true (by exact ⟨h1, h2, h3, h4, h5, h6⟩)] at HV
       go_enter Tryz.func70, Tryz.ntmps70
       go_wp2
       go_returns
       exact ⟨aG HV.o, HB.o⟩
      rw [decide_eq_false (by omega)] at HV
      go_enter Tryz.func70, Tryz.ntmps70
      go_wp2
      go_returns
      exact ⟨aG HV.o, HB.o⟩
     rw [decide_eq_false (by omega)] at HV
     go_enter Tryz.func70, Tryz.ntmps70
     go_wp2
     go_returns
     exact ⟨aG HV.o, HB.o⟩
    rw [decide_eq_false (by omega)] at HV
    go_enter Tryz.func70, Tryz.ntmps70
    go_wp2
    go_returns
    exact ⟨aG HV.o, HB.o⟩
   rw [decide_eq_false (by omega)] at HV
   go_enter Tryz.func70, Tryz.ntmps70
   go_wp2
   go_returns
   exact ⟨aG HV.o, HB.o⟩
  rw [decide_eq_false (by omega)] at HV
  go_enter Tryz.func70, Tryz.ntmps70
  go_wp2
  go_returns
  exact ⟨aG HV.o, HB.o⟩
 rw [decide_eq_false (by omega)] at HV
 go_enter Tryz.func70, Tryz.ntmps70
 go_wp2
 go_returns
 exact ⟨aG HV.o, HB.o⟩
theorem uz (x : It) (w : World) : Calls Tryz.prog 101 #[x.val] w fun e w' => e = .returned (.bool (fD x)) /\ Below w.heap.size w w' := by
 obtain ⟨c, v, a, wr, n⟩ := x; have HB := ak (av w (.cells #[iv c, iv v, iv a, .bool wr, iv n] 64)); have HV := ak (show fD ⟨c, v, a, wr, n⟩ = decide (0 <= c /\ c <= 15 /\ 0 <= v /\ v <= 1099511627775 /\ (wr = true \/ n = 0)) from rfl)
 unfold It.val
 by_cases h1 : 0 <= c /\ c <= 15
 ·have H1 := ak (decide_eq_true h1)
  by_cases h2 : 0 <= v /\ v <= 1099511627775
  ·have H2 := ak (decide_eq_true h2)
   cases wr
   ·have HW : Hid (fD ⟨c, v, a, false, n⟩ = (n == 0)) := ak (by
     rw [HV.o]; have a1 := h1.1; have a2 := h1.2; have a3 := h2.1; have a4 := h2.2; simp only [a1, a2, a3, a4, true_and]
     by_cases h : n = 0 <;> simp [h])
    clear h1 h2 HV
    go_enter Tryz.func101, Tryz.ntmps101
    go_wp2_with fail
    refine (cO c 0 15 _).mono ?_; rintro e w1 ⟨rfl, rfl⟩; rw [H1.o]
    go_wp2_with fail
    refine (cO v 0 1099511627775 _).mono ?_; rintro e w1 ⟨rfl, rfl⟩; rw [H2.o]
    go_wp2_with fail
    go_returns
    exact ⟨aG HW.o, HB.o⟩
   rw [decide_eq_true (by exact ⟨h1.1, h1.2, h2.1, h2.2, Or.inl rfl⟩)] at HV
   clear h1 h2
   go_enter Tryz.func101, Tryz.ntmps101
   go_wp2_with fail
   refine (cO c 0 15 _).mono ?_; rintro e w1 ⟨rfl, rfl⟩; rw [H1.o]
   go_wp2_with fail
   refine (cO v 0 1099511627775 _).mono ?_; rintro e w1 ⟨rfl, rfl⟩; rw [H2.o]
   go_wp2_with fail
   go_returns
   exact ⟨aG HV.o, HB.o⟩
  have H2 := ak (decide_eq_false h2)
  rw [decide_eq_false (fun h => h2 ⟨h.2.2.1, h.2.2.2.1⟩)] at HV; clear h1 h2
  go_enter Tryz.func101, Tryz.ntmps101
  go_wp2_with fail
  refine (cO c 0 15 _).mono ?_; rintro e w1 ⟨rfl, rfl⟩; rw [H1.o]
  go_wp2_with fail
  refine (cO v 0 1099511627775 _).mono ?_; rintro e w1 ⟨rfl, rfl⟩; rw [H2.o]
  go_wp2_with fail
  go_returns
  exact ⟨aG HV.o, HB.o⟩
 have H1 := ak (decide_eq_false h1)
 rw [decide_eq_false (fun h => h1 ⟨h.1, h.2.1⟩)] at HV; clear h1
 go_enter Tryz.func101, Tryz.ntmps101
 go_wp2_with fail
 refine (cO c 0 15 _).mono ?_; rintro e w1 ⟨rfl, rfl⟩; rw [H1.o]
 go_wp2_with fail
 go_returns
 exact ⟨aG HV.o, HB.o⟩
set_option maxHeartbeats 1000000 in
theorem tN (A : Option Addr) (l : List It) (cap : Nat) (w : World) (hs : Items w A l) (hm : l.length <= 1000000) :
  Calls Tryz.prog 83 #[.slice A l.length cap] w fun e w' => e = .returned (.bool (aY l)) /\ Below w.heap.size w w' := by
 have HS := ak hs; clear hs
 go_enter Tryz.func83, Tryz.ntmps83
 go_wp2_with fail
 go_loopw [3, 5, 8] (fun last _ i wr => ∃ k : Nat, k <= l.length /\ i = iv (k : Int) /\ last = iv (iR l k) /\ Hid (bW (-1) l = bW (iR l k) (l.drop k)) /\ Below w.heap.size w wr) (fun _ _ i _ => l.length - (intOf i).toNat)
 case atStart => exact ⟨0, Nat.zero_le _, rfl, rfl, ak rfl, Below.refl _ _⟩
 case round =>
  obtain ⟨k, hk, rfl, rfl, hz, hbr⟩ := hrel
  by_cases hlt : k < l.length
  ·obtain ⟨b, off, rfl, hi⟩ := HS.o k hlt
   have hi1 := hi.below hbr hi.lt; have c0 := hi1.cell; have c1 := hi1.version; have c2 := hi1.value; have c3 := hi1.write; have c4 := hi1.new; have HST := ak (kH l k hlt); have UA := ak (tE l k hlt); have dA := ak hbr; clear hi hi1 hbr
   generalize l[k] = x at *
   have HR := ak (uz x); obtain ⟨c, v, a, wt, n⟩ := x; simp only at c0 c1 c2 c3 c4; have gG := ak (dA.o.alloc dA.o.size (.cells #[iv c, iv v, iv a, .bool wt, iv n] 64)); have YW := ak (aB wr 64 [iv c, iv v, iv a, .bool wt, iv n] #[iv c, iv v, iv a, .bool wt, iv n] rfl)
   generalize iR l k = last at *
   unfold It.val at HR
   by_cases h1 : c <= last
   ·have HF : Hid (aY l = false) := ak (by
     unfold aY; rw [hz.o, HST.o, decide_eq_false (by show ¬ last < c; omega)]
     rfl)
    go_wp2_with fail
    go_returns
    exact ⟨aG HF.o, gG.o⟩
   go_wp2_with fail
   refine (HR.o _).mono ?_; rintro e w1 ⟨rfl, hb1⟩; have fW := ak (gG.o.trans (hb1.mono gG.o.size)); have hcn := YW.o.later (hb1.mono (by simp)); have d0 := hcn.cell (j := 0) rfl; clear hcn hb1
   by_cases hr : fD ⟨c, v, a, wt, n⟩ = true
   ·have HZ : Hid (bW (-1) l = bW (iR l (k + 1)) (l.drop (k + 1))) := ak (by
     rw [hz.o, HST.o, decide_eq_true (by show last < c; omega), hr]
     rfl)
    rw [hr]; clear hr c0 c1 c2 c3 c4
    go_wp2_with fail
    go_roundw
    case rel => exact ⟨k + 1, by omega, by go_num, by rw [UA.o], HZ, fW.o⟩
    case measure => simp [intOf]; omega
   have hrf : fD ⟨c, v, a, wt, n⟩ = false := by simpa using hr
   have HF : Hid (aY l = false) := ak (by
    unfold aY; rw [hz.o, HST.o, hrf, Bool.and_false]
    rfl)
   rw [hrf]; clear hr hrf c0 c1 c2 c3 c4
   go_wp2_with fail
   go_returns
   exact ⟨aG HF.o, fW.o⟩
  have HV : Hid (aY l = decide (0 < l.length)) := ak (by
   unfold aY; rw [hz.o, List.drop_of_length_le (by omega)]
   rfl)
  have dA := ak hbr; clear hbr hz
  by_cases h0 : 0 < l.length
  ·rw [decide_eq_true h0] at HV
   go_wp2_with fail
   go_returns
   exact ⟨aG HV.o, dA.o⟩
  rw [decide_eq_false h0] at HV
  go_wp2_with fail
  go_returns
  exact ⟨aG HV.o, dA.o⟩
theorem Il (l : List It) (k : Nat) (h : k - 1 < l.length) (h0 : 0 < k) : iR l k = l[k - 1].cell := by
 unfold iR; rw [if_neg (by omega), List.getElem?_eq_getElem h]
 rfl
def xH (k : Nat) : Nat -> Value -> World -> Prop
 | 0, v, _ => v = iv (k : Int)
 | 1, v, _ => v = .bool false
 | 2, v, _ => v = .bool false
 | 3, v, _ => v = undef
 | 4, v, _ => v = undef
 | 5, v, _ => v = undef
 | 6, v, _ => v = undef
 | 7, v, _ => v = undef
 | 8, v, _ => v = undef
 | 9, v, _ => v = undef
 | 10, v, _ => v = undef
 | 11, v, _ => v = undef
 | 12, v, _ => v = .bool false
 | _, _, _ => True
set_option maxHeartbeats 1000000 in
theorem mQ (A : Option Addr) (l : List It) (cap : Nat) (w : World) (hs : Items w A l) (hm : l.length <= 1000000) :
  Calls Tryz.prog 71 #[.slice A l.length cap] w fun e w' => e = .returned (.bool (aY l)) /\ Below w.heap.size w w' := by
 have HS := ak hs; clear hs
 go_enter Tryz.func71, Tryz.ntmps71
 go_wp2_with fail
 go_loopw [3, 4] (fun i _ wr => ∃ k : Nat, k <= l.length /\ i = iv (k : Int) /\ Hid (bW (-1) l = bW (iR l k) (l.drop k)) /\ Below w.heap.size w wr) (fun i _ _ => l.length - (intOf i).toNat)
 case atStart => exact ⟨0, Nat.zero_le _, rfl, ak rfl, Below.refl _ _⟩
 case round =>
  obtain ⟨k, hk, rfl, hz, hbr⟩ := hrel
  by_cases hlt : k < l.length
  ·obtain ⟨b, off, rfl, hi⟩ := HS.o k hlt
   have hi1 := hi.below hbr hi.lt; have c0 := hi1.cell; have c1 := hi1.version; have c2 := hi1.value; have c3 := hi1.write; have c4 := hi1.new; have HST := ak (kH l k hlt); have dA := ak hbr; have Ux : Hid (0 < k -> ∃ p : Int, iR l k = p /\ ∀ wi, Below wr.heap.size wr wi -> wi.cell? ⟨b, off + (k - 1) * 5, none⟩ = some (iv p)) := ak fun h0 => by
    obtain ⟨b', off', he, hp⟩ := HS.o (k - 1) (by omega); obtain ⟨rfl, rfl⟩ : b' = b /\ off' = off := by simpa [eq_comm] using he
    refine ⟨_, Il l k (by omega) h0, fun wi hb => ?_⟩; have hp1 := (hp.below hbr hp.lt).later hb; exact hp1.cell
   clear hi hi1 hbr
   generalize l[k] = x at *
   obtain ⟨c, v, a, wt, n⟩ := x; simp only at c0 c1 c2 c3 c4; have gG := ak (dA.o.alloc dA.o.size (.cells #[iv c, iv v, iv a, .bool wt, iv n] 64)); have kg := ak (av wr (.cells #[iv c, iv v, iv a, .bool wt, iv n] 64))
   by_cases hr : fD ⟨c, v, a, wt, n⟩ = true
   ·have hr' := of_decide_eq_true hr
    obtain ⟨r1, r2, r3, r4, r5⟩ := hr'; simp only at r1 r2 r3 r4 r5
    by_cases h0 : 0 < k
    ·obtain ⟨p, hp, X3⟩ := Ux.o h0
     have cp := X3 _ kg.o.drew; have U7 := X3 _ kg.o; have HZ : Hid (bW (-1) l = (decide (p < c) && bW (iR l (k + 1)) (l.drop (k + 1)))) := ak (by
      rw [hz.o, HST.o, hr, hp, Bool.and_true])
     have hw1 : IntKind.i64.wrap ((k : Int) - 1) = (k : Int) - 1 := IntWalk.i64_in _ (by omega); have hn1 : 0 <= (k : Int) - 1 := by omega
     have hn2 : (k : Int) - 1 < (l.length : Int) := by omega
     have t_ : ((k : Int) - 1).toNat = k - 1 := by omega
     have UQ : 0 < (k : Int) := by omega
     clear hr hp X3
     by_cases hpc : p < c
     ·rw [decide_eq_true hpc, Bool.true_and] at HZ
      cases wt
      ·obtain rfl : n = 0 := by simpa using r5
       clear r5
       go_wp2_with fail
       go_region
       clear cp U7 hw1 hn1 hn2 t_
       go_wp2_with fail
       go_roundw
       case rel => exact ⟨k + 1, by omega, by go_num, HZ, gG.o.drew⟩
       case measure => simp [intOf]; omega
      clear r5
      go_wp2_with fail
      go_region
      clear cp U7 hw1 hn1 hn2 t_
      go_wp2_with fail
      go_roundw
      case rel => exact ⟨k + 1, by omega, by go_num, HZ, gG.o.drew⟩
      case measure => simp [intOf]; omega
     rw [decide_eq_false hpc, Bool.false_and] at HZ
     have HF : Hid (aY l = false) := ak (by unfold aY; rw [HZ.o]; rfl)
     cases wt
     ·obtain rfl : n = 0 := by simpa using r5
      clear r5
      go_wp2_with fail
      go_region
      clear cp U7 hw1 hn1 hn2 t_
      go_wp2_with fail
      go_returns
      exact ⟨aG HF.o, gG.o.drew⟩
     clear r5
     go_wp2_with fail
     go_region
     clear cp U7 hw1 hn1 hn2 t_
     go_wp2_with fail
     go_returns
     exact ⟨aG HF.o, gG.o.drew⟩
    have hk0 : k = 0 := by omega
    have HZ : Hid (bW (-1) l = bW (iR l (k + 1)) (l.drop (k + 1))) := ak (by
     rw [hz.o, HST.o, hr, decide_eq_true (by rw [hk0]; show (-1 : Int) < c; omega)]
     rfl)
    have hkn : ¬ 0 < (k : Int) := by omega
    have zG := ak hk0; clear hr h0 Ux hk0 hkn
    cases wt
    ·obtain rfl : n = 0 := by simpa using r5
     clear r5
     go_wp2_with fail
     refine N.fI (by kernel_rfl) 12 [12] (xH k) (fun a => Below wr.heap.size wr a) (fun a => Below wr.heap.size wr a) (fun V => [(some 43, V 0), (some 44, V 1), (some 45, V 2), (some 46, V 3), (some 47, V 4), (some 48, V 5), (some 49, V 6), (some 50, V 7), (some 51, V 8), (some 52, V 9), (some 53, V 10), (some 54, V 11), (some 55, V 12)]) (by kernel_rfl) (by kernel_rfl) (by kernel_rfl) (fun V => rfl) ?_ ?_ ?_
     ·exact kg.o.drew
     ·intro i o ho
      have hi : i < 13 := (Array.getElem?_eq_some_iff.1 ho).1; rcases i with _ | _ | _ | _ | _ | _ | _ | _ | _ | _ | _ | _ | _ | i
      rotate_right
      ·omega
      all_goals obtain rfl := Option.some.inj ho
      all_goals intro ρ wi hE hI hs hd
      all_goals try dsimp only at hI
      all_goals (have hc := hE.const)
      ·have e3 : ρ (.tmp 3) = iv (k : Int) := hs 3; exact N.gw hI
      ·obtain ⟨_, rfl, uP⟩ := hd 0 43; have hx := zG.o; exact N.gw hI
      ·obtain ⟨_, rfl, uO⟩ := hd 1 44; exact N.gw hI
      iterate 9 ·exact N.no hI
      obtain ⟨_, rfl, DI⟩ := hd 2 45; obtain ⟨_, rfl, Xk⟩ := hd 11 54; exact N.gw hI
     intro V w1 hV hI
     have sB : V 12 = .bool false := hV 12 (by decide) rfl; simp only [N.aP, List.foldl_cons, List.foldl_nil, Act.put, List.setIfInBounds_toArray, List.set_cons_succ, List.set_cons_zero, sB]; replace hI : (fun a => Below wr.heap.size wr a) w1 := hI; clear hV sB
     go_wp2_with fail
     go_roundw
     case rel => exact ⟨k + 1, by omega, by go_num, HZ, dA.o.trans (hI.mono dA.o.size)⟩
     case measure => simp [intOf]; omega
    clear r5
    go_wp2_with fail
    refine N.fI (by kernel_rfl) 12 [12] (xH k) (fun a => Below wr.heap.size wr a) (fun a => Below wr.heap.size wr a) (fun V => [(some 43, V 0), (some 44, V 1), (some 45, V 2), (some 46, V 3), (some 47, V 4), (some 48, V 5), (some 49, V 6), (some 50, V 7), (some 51, V 8), (some 52, V 9), (some 53, V 10), (some 54, V 11), (some 55, V 12)]) (by kernel_rfl) (by kernel_rfl) (by kernel_rfl) (fun V => rfl) ?_ ?_ ?_
    ·exact kg.o.drew
    ·intro i o ho
     have hi : i < 13 := (Array.getElem?_eq_some_iff.1 ho).1; rcases i with _ | _ | _ | _ | _ | _ | _ | _ | _ | _ | _ | _ | _ | i
     rotate_right
     ·omega
     all_goals obtain rfl := Option.some.inj ho
     all_goals intro ρ wi hE hI hs hd
     all_goals try dsimp only at hI
     all_goals (have hc := hE.const)
     ·have e3 : ρ (.tmp 3) = iv (k : Int) := hs 3; exact N.gw hI
     ·obtain ⟨_, rfl, uP⟩ := hd 0 43; have hx := zG.o; exact N.gw hI
     ·obtain ⟨_, rfl, uO⟩ := hd 1 44; exact N.gw hI
     iterate 9 ·exact N.no hI
     obtain ⟨_, rfl, DI⟩ := hd 2 45; obtain ⟨_, rfl, Xk⟩ := hd 11 54; exact N.gw hI
    intro V w1 hV hI
    have sB : V 12 = .bool false := hV 12 (by decide) rfl; simp only [N.aP, List.foldl_cons, List.foldl_nil, Act.put, List.setIfInBounds_toArray, List.set_cons_succ, List.set_cons_zero, sB]; replace hI : (fun a => Below wr.heap.size wr a) w1 := hI; clear hV sB
    go_wp2_with fail
    go_roundw
    case rel => exact ⟨k + 1, by omega, by go_num, HZ, dA.o.trans (hI.mono dA.o.size)⟩
    case measure => simp [intOf]; omega
   have hrf : fD ⟨c, v, a, wt, n⟩ = false := by simpa using hr
   have HF : Hid (aY l = false) := ak (by
    unfold aY; rw [hz.o, HST.o, hrf, Bool.and_false]
    rfl)
   have hd := of_decide_eq_false hrf; simp only at hd; clear hr hrf Ux
   by_cases r1 : 0 <= c
   ·by_cases r2 : c <= 15
    ·by_cases r3 : 0 <= v
     ·by_cases r4 : v <= 1099511627775
      ·cases wt
       ·have r5 : ¬ n = 0 := fun h => hd ⟨r1, r2, r3, r4, Or.inr h⟩
        have r6 : (n != 0) = true := by simpa using r5
        clear hd
        go_wp2_with fail
        go_returns
        exact ⟨aG HF.o, gG.o⟩
       exact absurd (And.intro r1 (And.intro r2 (And.intro r3 (And.intro r4 (Or.inl rfl))))) hd
      clear hd
      go_wp2_with fail
      go_returns
      exact ⟨aG HF.o, gG.o⟩
     clear hd
     go_wp2_with fail
     go_returns
     exact ⟨aG HF.o, gG.o⟩
    clear hd
    go_wp2_with fail
    go_returns
    exact ⟨aG HF.o, gG.o⟩
   clear hd
   go_wp2_with fail
   go_returns
   exact ⟨aG HF.o, gG.o⟩
  have HV : Hid (aY l = decide (0 < l.length)) := ak (by
   unfold aY; rw [hz.o, List.drop_of_length_le (by omega)]
   rfl)
  have dA := ak hbr; clear hbr hz
  by_cases h0 : 0 < l.length
  ·rw [decide_eq_true h0] at HV
   go_wp2_with fail
   go_returns
   exact ⟨aG HV.o, dA.o⟩
  rw [decide_eq_false h0] at HV
  go_wp2_with fail
  go_returns
  exact ⟨aG HV.o, dA.o⟩
set_option maxHeartbeats 1000000 in
theorem tM (A : Option Addr) (l : List Int) (cap : Nat) (w : World) (hs : gZ w A l) (hm : l.length <= 1000000) :
  Calls Tryz.prog 84 #[.slice A l.length cap] w fun e w' => e = .returned (.bool (bn l)) /\ w = w' := by
 have HS := ak hs; clear hs
 go_enter Tryz.func84, Tryz.ntmps84
 go_wp2_with fail
 go_loop [3, 5, 8] (fun last _ i => ∃ k : Nat, k <= l.length /\ i = iv (k : Int) /\ last = iv (gJ l k) /\ Hid (bn l = dS (gJ l k) (l.drop k))) (fun _ _ i => l.length - (intOf i).toNat)
 case atStart => exact ⟨0, Nat.zero_le _, rfl, rfl, ak rfl⟩
 case round =>
  obtain ⟨k, hk, rfl, rfl, hz⟩ := hrel
  by_cases hlt : k < l.length
  ·obtain ⟨b, off, rfl, c0⟩ := HS.o k hlt
   have HST := ak (kI l k hlt); have UA := ak (lO l k hlt)
   generalize l[k] = n at *
   generalize gJ l k = last at *
   by_cases h1 : n <= last
   ·have HF : Hid (bn l = false) := ak (by rw [hz.o, HST.o, decide_eq_false (by omega)]; rfl)
    go_wp2_with fail
    go_returns
    exact ⟨aG HF.o, rfl⟩
   by_cases h2 : n <= 16
   ·have HZ : Hid (bn l = dS (gJ l (k + 1)) (l.drop (k + 1))) := ak (by rw [hz.o, HST.o, decide_eq_true (by omega)]; rfl)
    go_wp2_with fail
    go_round
    case rel => exact ⟨k + 1, by omega, by go_num, by rw [UA.o], HZ⟩
    case measure => simp [intOf]; omega
   have HF : Hid (bn l = false) := ak (by rw [hz.o, HST.o, decide_eq_false (by omega)]; rfl)
   go_wp2_with fail
   go_returns
   exact ⟨aG HF.o, rfl⟩
  have HF : Hid (bn l = true) := ak (by rw [hz.o, List.drop_of_length_le (by omega)]; rfl)
  go_wp2_with fail
  go_returns
  exact ⟨aG HF.o, rfl⟩
