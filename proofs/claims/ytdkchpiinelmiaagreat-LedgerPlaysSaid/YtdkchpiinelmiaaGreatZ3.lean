/- Part 3 of the proof. Conditions: none. -/
import Derived.Test.YtdkchpiinelmiaaGreatZ2
namespace Go.Proofs.YtdkchpiinelmiaaGreat.fN
open Go.RowKit Mem
structure cT where
 node : Int
 epoch : Int
 seq : Int
def cT.vals (t : cT) : List Value := [.int .i64 t.node, .int .i64 t.epoch, .int .i64 t.seq]
def cT.val (t : cT) : Value := .agg #[.int .i64 t.node, .int .i64 t.epoch, .int .i64 t.seq]
def eK (a b : Int) : Int := if a < b then -1 else if b < a then 1 else 0
def gy : List Int -> Int
 | [] => 0
 | x :: l => if x = 0 then gy l else x
def ord (a b : cT) : Int := gy [eK a.node b.node, eK a.epoch b.epoch, eK a.seq b.seq]
theorem mL (l : List Int) (k : Nat) (h : k < l.length) (hz : ∀ j (hj : j < k), l[j] = 0) (hn : l[k] ≠ 0) : gy l = l[k] := by
 induction l generalizing k with
 | nil => simp at h
 | cons x l ih =>
  cases k with
  | zero => simp only [List.getElem_cons_zero] at hn ⊢; simp [gy, hn]
  | succ k =>
   have h0 := hz 0 (by omega); simp only [List.getElem_cons_zero] at h0; simp only [List.getElem_cons_succ] at hn ⊢; rw [gy, if_pos h0]; exact ih k (by simpa using h) (fun j hj => by have := hz (j + 1) (by omega); simpa using this) hn
theorem rD (l : List Int) (hz : ∀ j (hj : j < l.length), l[j] = 0) : gy l = 0 := by
 induction l with
 | nil => rfl
 | cons x l ih =>
  have h0 := hz 0 (by simp); simp only [List.getElem_cons_zero] at h0; rw [gy, if_pos h0]; exact ih fun j hj => by have := hz (j + 1) (by simpa using hj); simpa using this
theorem eI {w : World} {k : Nat} {t : TypeId} {l : List Int} (h : Cells w k t (l.map (Value.int .i64))) : ∀ j (hj : j < l.length), w.cell? ⟨k, 0 + j, none⟩ = some (iv l[j]) := fun j hj => by
 rw [Nat.zero_add]; exact h.cell (by simp [hj])
theorem uZ (n : Int) (w : World) : Calls Tryz.prog 122 #[iv n] w fun e w' => e = .returned (.bool false) /\ w = w' := by
 go_enter Tryz.func122, Tryz.ntmps122
 go_wp2
 go_returns
 exact ⟨ret_val (by simp), rfl⟩
theorem kG (a b : Int) (w : World) : Calls Tryz.prog 116 #[iv a, iv b] w fun e w' => e = .returned (iv (eK a b)) /\ w = w' := by
 have h1 := uZ a; have h2 := uZ b; have HV := ak (show eK a b = if a < b then -1 else if b < a then 1 else 0 from rfl)
 go_enter Tryz.func116, Tryz.ntmps116
 go_wp2_with fail
 refine (h1 _).mono ?_; rintro e w1 ⟨rfl, rfl⟩
 go_wp2_with fail
 refine (h2 _).mono ?_; rintro e w1 ⟨rfl, rfl⟩; clear h1 h2
 by_cases c1 : a < b
 ·rw [if_pos c1] at HV
  go_wp2
  go_returns
  exact ⟨aL HV.o.symm, rfl⟩
 rw [if_neg c1] at HV
 by_cases c2 : b < a
 ·rw [if_pos c2] at HV
  go_wp2
  go_returns
  exact ⟨aL HV.o.symm, rfl⟩
 rw [if_neg c2] at HV
 go_wp2
 go_returns
 exact ⟨aL HV.o.symm, rfl⟩
theorem TQ (l : List Int) (b off c : Nat) (w : World) (hc : ∀ j (hj : j < l.length), w.cell? ⟨b, off + j, none⟩ = some (iv l[j])) (hl : l.length <= 1000000) :
  Calls Tryz.prog 115 #[.slice (some ⟨b, off, none⟩) l.length c] w fun e w' => e = .returned (iv (gy l)) /\ w = w' := by
 have HC := ak hc; clear hc
 go_enter Tryz.func115, Tryz.ntmps115
 go_wp2
 go_loop [5, 8] (fun _ i => ∃ k : Nat, k <= l.length /\ i = iv k /\ Hid (∀ j (hj : j < k) (hk : j < l.length), l[j] = 0)) (fun _ i => l.length - (intOf i).toNat)
 case atStart => exact ⟨0, Nat.zero_le _, rfl, ak fun j hj => absurd hj (Nat.not_lt_zero _)⟩
 case round =>
  obtain ⟨k, hk, rfl, hz⟩ := hrel
  by_cases hlt : k < l.length
  ·have hcell := HC.o k hlt
   by_cases h0 : l[k] = 0
   ·have HZ : Hid (∀ j (hj : j < k + 1) (hk : j < l.length), l[j] = 0) := ak fun j hj hjl => by
     by_cases e : j = k
     ·subst e; exact h0
     exact hz.o j (by omega) hjl
    rw [h0] at hcell; clear h0
    go_wp2
    go_round
    case rel => exact ⟨k + 1, by omega, by go_num, HZ⟩
    case measure => simp [intOf]; omega
   have HV := ak (mL l k hlt (fun j hj => hz.o j hj (by omega)) h0)
   generalize l[k] = x at *
   have hx : (x == 0) = false := by simpa using h0
   go_wp2
   go_returns
   exact ⟨aL HV.o.symm, rfl⟩
  have HV := ak (rD l fun j hj => hz.o j (by omega) hj)
  go_wp2
  go_returns
  exact ⟨aL HV.o.symm, rfl⟩
def qG (a b : cT) (g : Nat) : Nat -> Value -> World -> Prop
 | 0, v, _ => v = .pointer (some ⟨g, 0, none⟩)
 | 1, v, _ => v = iv a.node
 | 2, v, _ => v = .pointer (some ⟨g + 1, 0, none⟩)
 | 3, v, _ => v = iv b.node
 | 4, v, _ => v = iv (eK a.node b.node)
 | 5, v, _ => v = .pointer (some ⟨g, 1, none⟩)
 | 6, v, _ => v = iv a.epoch
 | 7, v, _ => v = .pointer (some ⟨g + 1, 1, none⟩)
 | 8, v, _ => v = iv b.epoch
 | 9, v, _ => v = iv (eK a.epoch b.epoch)
 | 10, v, _ => v = .pointer (some ⟨g, 2, none⟩)
 | 11, v, _ => v = iv a.seq
 | 12, v, _ => v = .pointer (some ⟨g + 1, 2, none⟩)
 | 13, v, _ => v = iv b.seq
 | 14, v, _ => v = iv (eK a.seq b.seq)
 | 15, v, w => ∃ k, v = .slice (some ⟨k, 0, none⟩) 3 3 /\ Cells w k 3 ([eK a.node b.node, eK a.epoch b.epoch, eK a.seq b.seq].map (Value.int .i64))
 | 16, v, _ => v = iv (ord a b)
 | 17, v, _ => v = iv (ord a b)
 | _, _, _ => True
theorem rO {a b : cT} {g : Nat} {j : Nat} {v : Value} {w w' : World} (hb : Below w.heap.size w w') (h : qG a b g j v w) : qG a b g j v w' := by
 match j, h with
 | 0, h | 1, h | 2, h | 3, h | 4, h | 5, h | 6, h | 7, h | 8, h | 9, h | 10, h | 11, h | 12, h | 13, h | 14, h | 16, h | 17, h => exact h
 | 15, h =>
  obtain ⟨k, h1, h2⟩ := h; exact ⟨k, h1, h2.later hb⟩
 | _ + 18, _ => exact trivial
set_option maxHeartbeats 1000000 in
theorem uW (a b : cT) (w : World) : Calls Tryz.prog 110 #[a.val, b.val] w fun e w' => e = .returned (iv (ord a b)) /\ Below w.heap.size w w' := by
 have hca := aB w 47 a.vals #[iv a.node, iv a.epoch, iv a.seq] rfl; have hcb := aB (w.alloc (.cells #[iv a.node, iv a.epoch, iv a.seq] 47)) 47 b.vals #[iv b.node, iv b.epoch, iv b.seq] rfl; have hb1 := av w (.cells #[iv a.node, iv a.epoch, iv a.seq] 47); have hb2 := hb1.alloc hb1.size (.cells #[iv b.node, iv b.epoch, iv b.seq] 47); have zL := hca.later (av _ (.cells #[iv b.node, iv b.epoch, iv b.seq] 47)); rw [World.size_alloc] at hcb; have HW : ∃ w2, w2 = (w.alloc (.cells #[iv a.node, iv a.epoch, iv a.seq] 47)).alloc (.cells #[iv b.node, iv b.epoch, iv b.seq] 47) := ⟨_, rfl⟩; unfold cT.val
 go_enter Tryz.func110, Tryz.ntmps110
 clear hca; have tY := ak zL; have wO := ak hcb; have bZ := ak hb2; clear zL hcb hb1 hb2
 go_wp2_with fail
 obtain ⟨w2, hw2⟩ := HW; rw [<- hw2] at tY wO bZ ⊢; have HG := ak (show w.heap.size <= w2.heap.size from bZ.o.size)
 generalize hg : w.heap.size = g at *
 have HGE := ak hg; clear hg; have HA : Hid (∀ wi, Below w2.heap.size w2 wi -> ∀ j u, a.vals[j]? = some u -> wi.cell? ⟨g, j, none⟩ = some u) := ak fun wi hb j u hu => (tY.o.later hb).cell hu
 have HB : Hid (∀ wi, Below w2.heap.size w2 wi -> ∀ j u, b.vals[j]? = some u -> wi.cell? ⟨g + 1, j, none⟩ = some u) := ak fun wi hb j u hu => (wO.o.later hb).cell hu
 clear hw2; refine N.rb 17 [17] (qG a b g) w2 (fun V => [(some 5, V 0), (some 6, V 1), (some 7, V 2), (some 8, V 3), (some 9, V 4), (some 10, V 5), (some 11, V 6), (some 12, V 7), (some 13, V 8), (some 14, V 9), (some 15, V 10), (some 16, V 11), (some 17, V 12), (some 18, V 13), (some 19, V 14), (some 20, V 15), (some 21, V 16), (some 4, V 17)]) ?_ ?_
 ·intro i o ho
  have hi : i < 18 := (Array.getElem?_eq_some_iff.1 ho).1; rcases i with _ | _ | _ | _ | _ | _ | _ | _ | _ | _ | _ | _ | _ | _ | _ | _ | _ | _ | i
  rotate_right
  ·omega
  all_goals obtain rfl := Option.some.inj ho
  all_goals intro ρ wi hE hI hs hd
  all_goals try dsimp only at hI
  all_goals (have e2 : ρ (.tmp 2) = (au g) := hs 2; have e3 : ρ (.tmp 3) = (au (g + 1)) := hs 3; have hf := hE.func)
  ·exact N.gw hI
  ·obtain ⟨_, rfl, e5⟩ := hd 0 5; have hx := HA.o wi hI 0 _ rfl; exact N.gw hI
  ·exact N.gw hI
  ·obtain ⟨_, rfl, e7⟩ := hd 2 7; have hx := HB.o wi hI 0 _ rfl; exact N.gw hI
  ·obtain ⟨_, rfl, e6⟩ := hd 1 6; obtain ⟨_, rfl, e8⟩ := hd 3 8
   refine N.Gives.call (f := 116) (args := #[iv a.node, iv b.node]) (w' := wi) (by go_simp) ?_; refine (kG _ _ wi).mono ?_; rintro e w'' ⟨rfl, rfl⟩; exact ⟨_, rfl, N.bA.same hI rfl⟩
  ·exact N.gw hI
  ·obtain ⟨_, rfl, e10⟩ := hd 5 10; have hx := HA.o wi hI 1 _ rfl; exact N.gw hI
  ·exact N.gw hI
  ·obtain ⟨_, rfl, e12⟩ := hd 7 12; have hx := HB.o wi hI 1 _ rfl; exact N.gw hI
  ·obtain ⟨_, rfl, e11⟩ := hd 6 11; obtain ⟨_, rfl, l5⟩ := hd 8 13
   refine N.Gives.call (f := 116) (args := #[iv a.epoch, iv b.epoch]) (w' := wi) (by go_simp) ?_; refine (kG _ _ wi).mono ?_; rintro e w'' ⟨rfl, rfl⟩; exact ⟨_, rfl, N.bA.same hI rfl⟩
  ·exact N.gw hI
  ·obtain ⟨_, rfl, mY⟩ := hd 10 15; have hx := HA.o wi hI 2 _ rfl; exact N.gw hI
  ·exact N.gw hI
  ·obtain ⟨_, rfl, e17⟩ := hd 12 17; have hx := HB.o wi hI 2 _ rfl; exact N.gw hI
  ·obtain ⟨_, rfl, e16⟩ := hd 11 16; obtain ⟨_, rfl, e18⟩ := hd 13 18
   refine N.Gives.call (f := 116) (args := #[iv a.seq, iv b.seq]) (w' := wi) (by go_simp) ?_; refine (kG _ _ wi).mono ?_; rintro e w'' ⟨rfl, rfl⟩; exact ⟨_, rfl, N.bA.same hI rfl⟩
  ·obtain ⟨_, rfl, e9⟩ := hd 4 9; obtain ⟨_, rfl, mZ⟩ := hd 9 14; obtain ⟨_, rfl, e19⟩ := hd 14 19; have hal := av wi (.cells #[iv (eK a.node b.node), iv (eK a.epoch b.epoch), iv (eK a.seq b.seq)] 3)
   exact N.Gives.value (v := .slice (some ⟨wi.heap.size, 0, none⟩) 3 3) (w' := wi.alloc (.cells #[iv (eK a.node b.node), iv (eK a.epoch b.epoch), iv (eK a.seq b.seq)] 3)) (by go_simp) ⟨⟨_, rfl, aB wi _ _ _ rfl⟩, hI.trans (hal.mono hI.size), fun j u _ _ h => rO hal h⟩
  ·obtain ⟨u20, g20, wL⟩ := hd 15 20; obtain ⟨k, rfl, gH⟩ := g20
   refine N.Gives.call (f := 115) (args := #[.slice (some ⟨k, 0, none⟩) 3 3]) (w' := wi) (by go_simp) ?_; refine (TQ [eK a.node b.node, eK a.epoch b.epoch, eK a.seq b.seq] k 0 3 wi (eI gH) (by simp)).mono ?_; rintro e w'' ⟨rfl, rfl⟩; exact ⟨_, rfl, N.bA.same hI rfl⟩
  obtain ⟨_, rfl, ug⟩ := hd 16 21; exact N.gw hI
 intro V w1 hV hI
 have VL : V 17 = iv (ord a b) := hV 17 (by decide) rfl; simp only [N.aP, List.foldl_cons, List.foldl_nil, Act.put, List.setIfInBounds_toArray, List.set_cons_succ, List.set_cons_zero, VL]; replace hI : (fun a => Below w2.heap.size w2 a) w1 := hI; clear hV VL
 go_wp2_with fail
 go_returns
 exact ⟨rfl, by rw [HGE.o]; exact bZ.o.trans (hI.mono HG.o)⟩
set_option maxHeartbeats 1000000 in
theorem mJ (a b : cT) (w : World) : Calls Tryz.prog 33 #[a.val, b.val] w fun e w' => e = .returned (iv (ord a b)) /\ Below w.heap.size w w' := by
 obtain ⟨A0, hA0⟩ : ∃ A0, A0 = [a.node, a.epoch, a.seq] := ⟨_, rfl⟩; obtain ⟨B0, wR⟩ : ∃ B0, B0 = [b.node, b.epoch, b.seq] := ⟨_, rfl⟩; have hla : A0.length = 3 := by rw [hA0]; rfl
 have hlb : B0.length = 3 := by rw [wR]; rfl
 have HO : Hid (ord a b = gy ((A0.zip B0).map fun p => eK p.1 p.2)) := ak (by rw [hA0, wR]; rfl); have HL : Hid (((A0.zip B0).map fun p => eK p.1 p.2).length = 3) := ak (by simp [hla, hlb]); have lD : Hid (∀ k (h : k < 3), ((A0.zip B0).map fun p => eK p.1 p.2)[k]'(by rw [HL.o]; exact h) = eK (A0[k]'(by omega)) (B0[k]'(by omega))) := ak fun k h => by simp
 have Bf := av w (.cells #[iv a.node, iv a.epoch, iv a.seq] 47); have hby := Bf.alloc Bf.size (.cells #[iv b.node, iv b.epoch, iv b.seq] 47); have hbz := hby.alloc hby.size (.cells #[iv a.node, iv a.epoch, iv a.seq] 3); have hbu := hbz.alloc hbz.size (.cells #[iv b.node, iv b.epoch, iv b.seq] 3); have YZ := ak hbu; have hcx : Cells ((((w.alloc (.cells #[iv a.node, iv a.epoch, iv a.seq] 47)).alloc (.cells #[iv b.node, iv b.epoch, iv b.seq] 47)).alloc (.cells #[iv a.node, iv a.epoch, iv a.seq] 3)).alloc (.cells #[iv b.node, iv b.epoch, iv b.seq] 3)) (w.heap.size + 2) 3 (A0.map (Value.int .i64)) := by
  have h := (aB ((w.alloc (.cells #[iv a.node, iv a.epoch, iv a.seq] 47)).alloc (.cells #[iv b.node, iv b.epoch, iv b.seq] 47)) 3 (A0.map (Value.int .i64)) #[iv a.node, iv a.epoch, iv a.seq] (by rw [hA0]; rfl)).later (av _ (.cells #[iv b.node, iv b.epoch, iv b.seq] 3)); rw [World.size_alloc, World.size_alloc] at h; exact h
 have hcy : Cells ((((w.alloc (.cells #[iv a.node, iv a.epoch, iv a.seq] 47)).alloc (.cells #[iv b.node, iv b.epoch, iv b.seq] 47)).alloc (.cells #[iv a.node, iv a.epoch, iv a.seq] 3)).alloc (.cells #[iv b.node, iv b.epoch, iv b.seq] 3)) (w.heap.size + 3) 3 (B0.map (Value.int .i64)) := by
  have h := aB (((w.alloc (.cells #[iv a.node, iv a.epoch, iv a.seq] 47)).alloc (.cells #[iv b.node, iv b.epoch, iv b.seq] 47)).alloc (.cells #[iv a.node, iv a.epoch, iv a.seq] 3)) 3 (B0.map (Value.int .i64)) #[iv b.node, iv b.epoch, iv b.seq] (by rw [wR]; rfl); rw [World.size_alloc, World.size_alloc, World.size_alloc] at h; exact h
 have HX := ak (eI hcx); have HY := ak (eI hcy); have HLA := ak hla; have HLB := ak hlb; clear Bf hby hbz hbu hcx hcy; unfold cT.val
 go_enter Tryz.func33, Tryz.ntmps33
 go_wp2_with fail
 obtain ⟨w4, hw4⟩ := aj ((((w.alloc (.cells #[iv a.node, iv a.epoch, iv a.seq] 47)).alloc (.cells #[iv b.node, iv b.epoch, iv b.seq] 47)).alloc (.cells #[iv a.node, iv a.epoch, iv a.seq] 3)).alloc (.cells #[iv b.node, iv b.epoch, iv b.seq] 3)); rw [<- hw4] at HX HY YZ ⊢; have kd : Hid (∀ wr, Below w4.heap.size w4 wr -> Below w.heap.size w wr) := ak fun wr h => YZ.o.trans (h.mono YZ.o.size)
 clear hw4; have HAA := ak hA0; have kg := ak wR; clear hA0 wR
 go_loopw [7] (fun i wr => ∃ k : Nat, k <= 3 /\ i = iv (k : Int) /\ Hid (∀ j (hj : j < k) (h3 : j < 3), ((A0.zip B0).map fun p => eK p.1 p.2)[j]'(by rw [HL.o]; exact h3) = 0) /\ Below w4.heap.size w4 wr) (fun i _ => 3 - (intOf i).toNat)
 case atStart => exact ⟨0, Nat.zero_le _, rfl, ak fun j hj => absurd hj (Nat.not_lt_zero _), Below.refl _ _⟩
 case round =>
  obtain ⟨k, hk, rfl, hz, hbr⟩ := hrel
  by_cases hlt : k < 3
  ·have h1 := HX.o k (by omega)
   have h2 := HY.o k (by omega); have c1 := (hbr.cell (aH h1)).trans h1; have c2 := (hbr.cell (aH h2)).trans h2; rw [Nat.zero_add] at c1 c2; have wN := ak (lD.o k hlt); have dA := ak hbr; have HV : Hid (eK (A0[k]'(by omega)) (B0[k]'(by omega)) ≠ 0 -> gy ((A0.zip B0).map fun p => eK p.1 p.2) = eK (A0[k]'(by omega)) (B0[k]'(by omega))) := ak fun hne => by
    have h := mL ((A0.zip B0).map fun p => eK p.1 p.2) k (by rw [HL.o]; exact hlt) (fun j hj => hz.o j hj (by omega)) (by rw [wN.o]; exact hne); rw [h, wN.o]
   have HZ : Hid (eK (A0[k]'(by omega)) (B0[k]'(by omega)) = 0 -> ∀ j (hj : j < k + 1) (h3 : j < 3), ((A0.zip B0).map fun p => eK p.1 p.2)[j]'(by rw [HL.o]; exact h3) = 0) := ak fun he j hj h3 => by
    by_cases e : j = k
    ·subst e
     rw [wN.o]; exact he
    exact hz.o j (by omega) h3
   clear h1 h2 hz wN hbr
   generalize A0[k]'(by omega) = x at *
   generalize B0[k]'(by omega) = y at *
   by_cases hxy : x < y
   ·have HW := ak (HV.o (by unfold eK; rw [if_pos hxy]; decide))
    have HE : Hid (eK x y = -1) := ak (if_pos hxy)
    go_wp2_with fail
    go_region
    go_wp2_with fail
    go_returns
    exact ⟨aL (by rw [HO.o, HW.o, HE.o]), kd.o _ dA.o.drew⟩
   by_cases hyx : y < x
   ·have HE : Hid (eK x y = 1) := ak (by unfold eK; rw [if_neg hxy, if_pos hyx])
    have HW := ak (HV.o (by rw [HE.o]; decide))
    go_wp2_with fail
    go_region
    go_wp2_with fail
    go_region
    go_wp2_with fail
    go_returns
    exact ⟨aL (by rw [HO.o, HW.o, HE.o]), kd.o _ dA.o.drew.drew⟩
   have l6 := ak (HZ.o (by unfold eK; rw [if_neg hxy, if_neg hyx]))
   clear HZ HV
   go_wp2_with fail
   go_region
   go_wp2_with fail
   go_region
   go_wp2_with fail
   go_roundw
   case rel => exact ⟨k + 1, by omega, by go_num, l6, dA.o.drew.drew⟩
   case measure => simp [intOf]; omega
  have HW := ak (rD ((A0.zip B0).map fun p => eK p.1 p.2) fun j hj => hz.o j (by rw [HL.o] at hj; omega) (by rw [HL.o] at hj; exact hj))
  have dA := ak hbr
  go_wp2_with fail
  go_returns
  exact ⟨aL (by rw [HO.o, HW.o]), kd.o _ dA.o⟩
