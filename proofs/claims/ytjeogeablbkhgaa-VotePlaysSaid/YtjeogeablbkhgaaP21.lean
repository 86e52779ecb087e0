/-
  slices' symMerge: two parts that rise become one that rises, and the items of each cell stand as they stood.
  Conditions: none.
-/
import Derived.Test.YtjeogeablbkhgaaP18
import Derived.Test.YtjeogeablbkhgaaP19
import Derived.Test.YtjeogeablbkhgaaP20
namespace Go.Proofs.Ytjeogeablbkhgaa.Item
open Go.RowKit Go.Proofs.Ytjeogeablbkhgaa.Mem Go.Proofs.Ytjeogeablbkhgaa.Wire
def mgTG_t (b N cap hh q pp : Nat) (x y : It) : Nat → Value → World → Prop
 | 0, v, _ => v = .func (.func 44) #[] #[]
 | 1, v, _ => v = .slice (some ⟨b, 0, none⟩) N cap
 | 2, v, _ => v = .int .i64 (pp : Int)
 | 3, v, _ => v = .int .i64 (hh : Int)
 | 4, v, _ => v = .int .i64 (q : Int)
 | 5, v, _ => v = .pointer (some ⟨b, q * 5, none⟩)
 | 6, v, _ => v = .agg #[.int .i64 y.cell, .int .i64 y.version, .int .i64 y.value, .bool y.write, .int .i64 y.new]
 | 7, v, _ => v = .slice (some ⟨b, 0, none⟩) N cap
 | 8, v, _ => v = .int .i64 (hh : Int)
 | 9, v, _ => v = .pointer (some ⟨b, hh * 5, none⟩)
 | 10, v, _ => v = .agg #[.int .i64 x.cell, .int .i64 x.version, .int .i64 x.value, .bool x.write, .int .i64 x.new]
 | 11, v, _ => v = .int .i64 (cmpI y.cell x.cell)
 | 12, v, _ => v = .bool true
 | 13, v, _ => v = .bool false
 | _, _, _ => True
theorem mgTG_t_later {b N cap hh q pp : Nat} {x y : It} {j : Nat} {v : Value} {w w' : World} (_hb : Below w.heap.size w w') (h : mgTG_t b N cap hh q pp x y j v w) : mgTG_t b N cap hh q pp x y j v w' := by
 match j, h with
 | 0, h | 1, h | 2, h | 3, h | 4, h | 5, h | 6, h | 7, h | 8, h | 9, h | 10, h | 11, h | 12, h | 13, h => exact h
 | _ + 14, _ => exact trivial
def mgTG_f (b N cap hh q pp : Nat) (x y : It) : Nat → Value → World → Prop
 | 0, v, _ => v = .func (.func 44) #[] #[]
 | 1, v, _ => v = .slice (some ⟨b, 0, none⟩) N cap
 | 2, v, _ => v = .int .i64 (pp : Int)
 | 3, v, _ => v = .int .i64 (hh : Int)
 | 4, v, _ => v = .int .i64 (q : Int)
 | 5, v, _ => v = .pointer (some ⟨b, q * 5, none⟩)
 | 6, v, _ => v = .agg #[.int .i64 y.cell, .int .i64 y.version, .int .i64 y.value, .bool y.write, .int .i64 y.new]
 | 7, v, _ => v = .slice (some ⟨b, 0, none⟩) N cap
 | 8, v, _ => v = .int .i64 (hh : Int)
 | 9, v, _ => v = .pointer (some ⟨b, hh * 5, none⟩)
 | 10, v, _ => v = .agg #[.int .i64 x.cell, .int .i64 x.version, .int .i64 x.value, .bool x.write, .int .i64 x.new]
 | 11, v, _ => v = .int .i64 (cmpI y.cell x.cell)
 | 12, v, _ => v = .bool false
 | 13, v, _ => v = .bool true
 | _, _, _ => True
theorem mgTG_f_later {b N cap hh q pp : Nat} {x y : It} {j : Nat} {v : Value} {w w' : World} (_hb : Below w.heap.size w w') (h : mgTG_f b N cap hh q pp x y j v w) : mgTG_f b N cap hh q pp x y j v w' := by
 match j, h with
 | 0, h | 1, h | 2, h | 3, h | 4, h | 5, h | 6, h | 7, h | 8, h | 9, h | 10, h | 11, h | 12, h | 13, h => exact h
 | _ + 14, _ => exact trivial
/-- symMerge does what it is to do, for up to n items. -/
def Merged (n : Nat) : Prop := ∀ (P X Y S : List It) (b N cap a m c : Nat) (w : World), X.length + Y.length ≤ n → 0 < X.length → 0 < Y.length → Row w b (P ++ X ++ Y ++ S) → N = (P ++ X ++ Y ++ S).length → a = P.length → m = P.length + X.length → c = P.length + X.length + Y.length → Asc X → Asc Y → N ≤ 1000000 →
  Calls Try.prog 53 #[.slice (some ⟨b, 0, none⟩) N cap, .int .i64 (a : Int), .int .i64 (m : Int), .int .i64 (c : Int), .func (.func 44) #[] #[]] w fun e w' => e = .returned (.tuple #[]) ∧ ∃ Z, Z.length = X.length + Y.length ∧ Asc Z ∧ Same (X ++ Y) Z ∧ Row w' b (P ++ Z ++ S) ∧ Only (fun j => j = b) w w'
set_option maxHeartbeats 8000000 in
set_option maxRecDepth 100000 in
theorem mergeG_any (n0 : Nat) (IH : Merged n0) (P X Y S : List It) (b N cap a m c : Nat) (w : World) (hs : X.length + Y.length ≤ n0 + 1) (h : Row w b (P ++ X ++ Y ++ S)) (hN : N = (P ++ X ++ Y ++ S).length) (ha : a = P.length) (hm : m = P.length + X.length) (hc : c = P.length + X.length + Y.length) (hX : Asc X) (hY : Asc Y) (hX2 : 2 ≤ X.length) (hY2 : 2 ≤ Y.length) (hl : N ≤ 1000000) :
  Calls Try.prog 53 #[.slice (some ⟨b, 0, none⟩) N cap, .int .i64 (a : Int), .int .i64 (m : Int), .int .i64 (c : Int), .func (.func 44) #[] #[]] w fun e w' => e = .returned (.tuple #[]) ∧ ∃ Z, Z.length = X.length + Y.length ∧ Asc Z ∧ Same (X ++ Y) Z ∧ Row w' b (P ++ Z ++ S) ∧ Only (fun j => j = b) w w' := by
 have hlen : N = P.length + X.length + Y.length + S.length := by rw [hN]; simp only [List.length_append]
 have hma : m ≤ 1000000 := by omega
 have hcN : c ≤ 1000000 := by omega
 have haN : a ≤ 1000000 := by omega
 have HLEN := Lib.hid hlen
 have HR := Lib.hid h
 have HA := Lib.hid ha
 have HM := Lib.hid (show a + X.length = m by omega)
 have HC := Lib.hid (show m + Y.length = c by omega)
 have HXA := Lib.hid hX
 have HYA := Lib.hid hY
 have HIH := Lib.hid IH
 have HSZ := Lib.hid hs
 have HAP := Lib.hid (show a = P.length from ha)
 have hn1 : ((m : Int) - (a : Int) == 1) = false := by simp; omega
 have hn2 : ((c : Int) - (m : Int) == 1) = false := by simp; omega
 obtain ⟨md, hmd⟩ : ∃ md, md = (a + c) / 2 := ⟨_, rfl⟩
 obtain ⟨nn, hnn⟩ : ∃ nn, nn = md + m := ⟨_, rfl⟩
 obtain ⟨pp, hpp⟩ : ∃ pp, pp + 1 = nn := ⟨nn - 1, by omega⟩
 have HMD : Hid (((a : Int) + (c : Int)) / 2 = (md : Int)) := Lib.hid (by rw [hmd]; omega)
 have HNN : Hid ((md : Int) + (m : Int) = (nn : Int)) := Lib.hid (by omega)
 have HPP : Hid ((nn : Int) - 1 = (pp : Int)) := Lib.hid (by omega)
 have HNM := Lib.hid hnn
 have HPN := Lib.hid hpp
 have hbd : md ≤ 1000000 ∧ nn ≤ 2000000 ∧ pp ≤ 2000000 := by omega
 obtain ⟨hbd1, hbd2, hbd3⟩ := hbd
 have HMM : Hid (a < md ∧ md < c ∧ 2 * md ≤ a + c ∧ a + c ≤ 2 * md + 1) := Lib.hid (by omega)
 by_cases hgt : md < m
 ·obtain ⟨s0, hs0⟩ : ∃ s0, s0 + c = nn := ⟨nn - c, by omega⟩
  obtain ⟨r0, hr0⟩ : ∃ r0, r0 = md := ⟨_, rfl⟩
  have HS0 : Hid ((nn : Int) - (c : Int) = (s0 : Int)) := Lib.hid (by omega)
  have HR0 : Hid ((md : Int) = (r0 : Int)) := Lib.hid (by omega)
  have HG : Hid (a ≤ s0 ∧ s0 ≤ r0 ∧ r0 ≤ m ∧ r0 + m ≤ nn ∧ nn ≤ s0 + c ∧ (s0 = a ∨ s0 + c = nn) ∧ (r0 = m ∨ r0 + m = nn)) := Lib.hid (by omega)
  have hg2 : ((a : Int) + (c : Int)) / 2 < (m : Int) := by rw [HMD.out]; omega
  clear h hN ha hm hc hlen hX hY IH hs hmd hnn hpp hs0 hr0 hgt
  go_enter Try.func53, Try.ntmps53
  go_wp2_with fail
  clear hn1 hn2 hg2
  rw [HMD.out, HNN.out, HS0.out, HPP.out]
  go_loopw [20, 21, 23] (fun i j _ wr => ∃ (s t : Nat), i = .int .i64 (s : Int) ∧ j = .int .i64 (t : Int) ∧ s0 ≤ s ∧ s ≤ t ∧ t ≤ r0 ∧ Hid ((∀ k (hk : k < X.length) (hq : pp - (k + a) - m < Y.length), s0 ≤ k + a → k + a < s → X[k].cell ≤ Y[pp - (k + a) - m].cell) ∧ (∀ k (hk : k < X.length) (hq : pp - (k + a) - m < Y.length), t ≤ k + a → k + a < r0 → Y[pp - (k + a) - m].cell < X[k].cell) ∧ Row wr b (P ++ X ++ Y ++ S)) ∧ Below w.heap.size w wr) (fun i j _ _ => (intOf j).toNat - (intOf i).toNat)
  case atStart => exact ⟨s0, r0, by first | rfl | exact congrArg _ HS0.out, by first | rfl | exact congrArg _ HR0.out, Nat.le_refl _, HG.out.2.1, Nat.le_refl _, Lib.hid ⟨fun k hk hq h1 h2 => by omega, fun k hk hq h1 h2 => by omega, HR.out⟩, Below.refl _ _⟩
  case round =>
   obtain ⟨s, t, rfl, rfl, hs0s, hst, htr, hp, hbr⟩ := hrel
   have HBR := Lib.hid hbr
   have htm : t ≤ 1000000 := by have := HG.out; omega
   clear hbr
   by_cases hlt : s < t
   ·obtain ⟨hh, hhh⟩ : ∃ hh, hh = (s + t) / 2 := ⟨_, rfl⟩
    have HHE : Hid (((s : Int) + (t : Int)) / 2 = (hh : Int)) := Lib.hid (by rw [hhh]; omega)
    have hh1 : s ≤ hh := by omega
    have hh2 : hh < t := by omega
    obtain ⟨q, hq⟩ : ∃ q, q + hh = pp := ⟨pp - hh, by have := HG.out; have := HPN.out; omega⟩
    have HWV : Hid (IntKind.i64.wrap ((pp : Int) - (hh : Int)) = (q : Int)) := Lib.hid (by rw [show (pp : Int) - (hh : Int) = (q : Int) by omega]; exact IntWalk.i64_in _ (by omega))
    have hkx : hh - a < X.length := by have := HG.out; have := HM.out; omega
    have hky : q - m < Y.length := by have := HG.out; have := HPN.out; have := HC.out; omega
    have hmq : m ≤ q := by have := HG.out; have := HPN.out; omega
    have hah : a ≤ hh := by have := HG.out; omega
    obtain ⟨x, hx⟩ : ∃ x, x = X[hh - a] := ⟨_, rfl⟩
    obtain ⟨y, hy⟩ : ∃ y, y = Y[q - m] := ⟨_, rfl⟩
    obtain ⟨l, hll⟩ : ∃ l, l = P ++ X ++ Y ++ S := ⟨_, rfl⟩
    have HROW : Hid (Row wr b l) := Lib.hid (by rw [hll]; exact hp.out.2.2)
    have HXH : Hid (l[hh]? = some x) := Lib.hid (by
     have h1 := HAP.out
     rw [hll, hx, List.append_assoc, List.getElem?_append_left (by simp only [List.length_append]; omega), List.getElem?_append_right (by omega), show hh - P.length = hh - a by omega, List.getElem?_eq_getElem hkx])
    have HYH : Hid (l[q]? = some y) := Lib.hid (by
     have h1 := HAP.out
     have h2 := HM.out
     rw [hll, hy, List.getElem?_append_left (by simp only [List.length_append]; omega), List.getElem?_append_right (by simp only [List.length_append]; omega), show q - (P ++ X).length = q - m by simp only [List.length_append]; omega, List.getElem?_eq_getElem hky])
    have HHN : Hid (hh < N) := Lib.hid (by have := HM.out; have := HLEN.out; have := HAP.out; omega)
    have HQN : Hid (q < N) := Lib.hid (by have := HM.out; have := HC.out; have := HLEN.out; have := HAP.out; omega)
    have HLO : Hid (x.cell ≤ y.cell → ∀ k (hk : k < X.length) (hq : pp - (k + a) - m < Y.length), s0 ≤ k + a → k + a < hh + 1 → X[k].cell ≤ Y[pp - (k + a) - m].cell) := Lib.hid fun h k hk hq2 h1 h2 => by
     have g1 := asc_get HXA.out (i := k) (j := hh - a) (by omega) hkx
     have g2 := asc_get HYA.out (i := q - m) (j := pp - (k + a) - m) (by omega) hq2
     rw [← hx] at g1
     rw [← hy] at g2
     omega
    have HHI : Hid (y.cell < x.cell → ∀ k (hk : k < X.length) (hq : pp - (k + a) - m < Y.length), hh ≤ k + a → k + a < r0 → Y[pp - (k + a) - m].cell < X[k].cell) := Lib.hid fun h k hk hq2 h1 h2 => by
     have g1 := asc_get HXA.out (i := hh - a) (j := k) (by omega) hk
     have g2 := asc_get HYA.out (i := pp - (k + a) - m) (j := q - m) (by omega) hky
     rw [← hx] at g1
     rw [← hy] at g2
     omega
    have HRR : Hid (∀ w1, Row w1 b l → Row w1 b (P ++ X ++ Y ++ S)) := Lib.hid fun w1 h => by rw [← hll]; exact h
    clear hhh hkx hky hx hy hll hq hmq hah
    by_cases hcv : y.cell < x.cell
    ·have HCV : Hid (cmpI y.cell x.cell < 0) := Lib.hid ((cmp_neg _ _).2 hcv)
     have HH2 := Lib.hid (HHI.out hcv)
     clear hcv
     go_wp2_with fail
     rw [HHE.out]
     refine Reg.region_heavy (by kernel_rfl) 13 [13] (mgTG_t b N cap hh q pp x y) (fun a => Below wr.heap.size wr a) (fun a => Below wr.heap.size wr a) (fun V => [(some 158, V 0), (some 159, V 1), (some 160, V 2), (some 161, V 3), (some 162, V 4), (some 163, V 5), (some 164, V 6), (some 165, V 7), (some 166, V 8), (some 167, V 9), (some 168, V 10), (some 169, V 11), (some 170, V 12), (some 171, V 13)]) (by kernel_rfl) (by kernel_rfl) (by kernel_rfl) (fun V => rfl) ?_ ?_ ?_
     ·exact (Below.refl _ _).drew
     ·intro i o ho
      have hi : i < 14 := (Array.getElem?_eq_some_iff.1 ho).1
      rcases i with _ | _ | _ | _ | _ | _ | _ | _ | _ | _ | _ | _ | _ | _ | i
      rotate_right
      ·omega
      all_goals obtain rfl := Option.some.inj ho
      all_goals intro ρ wi hE hI hs hd
      all_goals try dsimp only at hI
      ·have e4 : ρ (.tmp 4) = .func (.func 44) #[] #[] := hs 4; exact Reg.gw hI
      ·have e0 : ρ (.tmp 0) = .slice (some ⟨b, 0, none⟩) N cap := hs 0; exact Reg.gw hI
      ·have e22 : ρ (.tmp 22) = .int .i64 (pp : Int) := hs 22; exact Reg.gw hI
      ·have e23 : ρ (.tmp 23) = .int .i64 (hh : Int) := hs 23; exact Reg.gw hI
      ·obtain ⟨_, rfl, e160⟩ := hd 2 160; obtain ⟨_, rfl, e161⟩ := hd 3 161; have hx := HWV.out; exact Reg.gw hI
      ·obtain ⟨_, rfl, e159⟩ := hd 1 159; obtain ⟨_, rfl, e162⟩ := hd 4 162; have hx := HQN.out; exact Reg.gw hI
      ·obtain ⟨_, rfl, e163⟩ := hd 5 163; have hit := (HROW.out.later hI).item HYH.out; have c0 := hit.cell; have c1 := hit.version; have c2 := hit.value; have c3 := hit.write; have c4 := hit.new; exact Reg.gw hI
      ·have e0 : ρ (.tmp 0) = .slice (some ⟨b, 0, none⟩) N cap := hs 0; exact Reg.gw hI
      ·have e23 : ρ (.tmp 23) = .int .i64 (hh : Int) := hs 23; exact Reg.gw hI
      ·obtain ⟨_, rfl, e165⟩ := hd 7 165; obtain ⟨_, rfl, e166⟩ := hd 8 166; have hx := HHN.out; exact Reg.gw hI
      ·obtain ⟨_, rfl, e167⟩ := hd 9 167; have hit := (HROW.out.later hI).item HXH.out; have c0 := hit.cell; have c1 := hit.version; have c2 := hit.value; have c3 := hit.write; have c4 := hit.new; exact Reg.gw hI
      ·obtain ⟨_, rfl, e158⟩ := hd 0 158; obtain ⟨_, rfl, e164⟩ := hd 6 164; obtain ⟨_, rfl, e168⟩ := hd 10 168
       refine Reg.Gives.call (f := 44) (args := #[.agg #[.int .i64 y.cell, .int .i64 y.version, .int .i64 y.value, .bool y.write, .int .i64 y.new], .agg #[.int .i64 x.cell, .int .i64 x.version, .int .i64 x.value, .bool x.write, .int .i64 x.new]]) (w' := wi) (by go_simp) ?_
       refine (cmp_any y x wi).mono ?_
       rintro e w'' ⟨rfl, hbb⟩
       exact ⟨_, rfl, ⟨rfl, hI.trans (hbb.mono hI.size), fun j u _ _ h => mgTG_t_later hbb h⟩⟩
      ·obtain ⟨_, rfl, e169⟩ := hd 11 169; have hc := hE.const; have hx := HCV.out; exact Reg.gw hI
      ·obtain ⟨_, rfl, e170⟩ := hd 12 170; exact Reg.gw hI
     ·intro V w1 hV hI
      have hV13 : V 13 = .bool false := hV 13 (by decide) rfl
      simp only [Reg.putsO, List.foldl_cons, List.foldl_nil, Act.put, List.setIfInBounds_toArray, List.set_cons_succ, List.set_cons_zero, hV13]
      replace hI : (fun a => Below wr.heap.size wr a) w1 := hI
      clear hV hV13
      have HBW := Lib.hid (HBR.out.trans (hI.mono HBR.out.size))
      have HRW := Lib.hid (HROW.out.later hI)
      clear hI
      go_wp2_with fail
      go_roundw
      case rel => exact ⟨s, hh, rfl, rfl, hs0s, by omega, by omega, Lib.hid ⟨hp.out.1, HH2.out, HRR.out _ HRW.out⟩, HBW.out⟩
      case measure => simp [intOf]; omega
    ·have HCV : Hid (0 ≤ cmpI y.cell x.cell) := Lib.hid (by have := cmp_neg y.cell x.cell; omega)
     have HL2 := Lib.hid (HLO.out (by omega))
     clear hcv
     go_wp2_with fail
     rw [HHE.out]
     refine Reg.region_heavy (by kernel_rfl) 13 [13] (mgTG_f b N cap hh q pp x y) (fun a => Below wr.heap.size wr a) (fun a => Below wr.heap.size wr a) (fun V => [(some 158, V 0), (some 159, V 1), (some 160, V 2), (some 161, V 3), (some 162, V 4), (some 163, V 5), (some 164, V 6), (some 165, V 7), (some 166, V 8), (some 167, V 9), (some 168, V 10), (some 169, V 11), (some 170, V 12), (some 171, V 13)]) (by kernel_rfl) (by kernel_rfl) (by kernel_rfl) (fun V => rfl) ?_ ?_ ?_
     ·exact (Below.refl _ _).drew
     ·intro i o ho
      have hi : i < 14 := (Array.getElem?_eq_some_iff.1 ho).1
      rcases i with _ | _ | _ | _ | _ | _ | _ | _ | _ | _ | _ | _ | _ | _ | i
      rotate_right
      ·omega
      all_goals obtain rfl := Option.some.inj ho
      all_goals intro ρ wi hE hI hs hd
      all_goals try dsimp only at hI
      ·have e4 : ρ (.tmp 4) = .func (.func 44) #[] #[] := hs 4; exact Reg.gw hI
      ·have e0 : ρ (.tmp 0) = .slice (some ⟨b, 0, none⟩) N cap := hs 0; exact Reg.gw hI
      ·have e22 : ρ (.tmp 22) = .int .i64 (pp : Int) := hs 22; exact Reg.gw hI
      ·have e23 : ρ (.tmp 23) = .int .i64 (hh : Int) := hs 23; exact Reg.gw hI
      ·obtain ⟨_, rfl, e160⟩ := hd 2 160; obtain ⟨_, rfl, e161⟩ := hd 3 161; have hx := HWV.out; exact Reg.gw hI
      ·obtain ⟨_, rfl, e159⟩ := hd 1 159; obtain ⟨_, rfl, e162⟩ := hd 4 162; have hx := HQN.out; exact Reg.gw hI
      ·obtain ⟨_, rfl, e163⟩ := hd 5 163; have hit := (HROW.out.later hI).item HYH.out; have c0 := hit.cell; have c1 := hit.version; have c2 := hit.value; have c3 := hit.write; have c4 := hit.new; exact Reg.gw hI
      ·have e0 : ρ (.tmp 0) = .slice (some ⟨b, 0, none⟩) N cap := hs 0; exact Reg.gw hI
      ·have e23 : ρ (.tmp 23) = .int .i64 (hh : Int) := hs 23; exact Reg.gw hI
      ·obtain ⟨_, rfl, e165⟩ := hd 7 165; obtain ⟨_, rfl, e166⟩ := hd 8 166; have hx := HHN.out; exact Reg.gw hI
      ·obtain ⟨_, rfl, e167⟩ := hd 9 167; have hit := (HROW.out.later hI).item HXH.out; have c0 := hit.cell; have c1 := hit.version; have c2 := hit.value; have c3 := hit.write; have c4 := hit.new; exact Reg.gw hI
      ·obtain ⟨_, rfl, e158⟩ := hd 0 158; obtain ⟨_, rfl, e164⟩ := hd 6 164; obtain ⟨_, rfl, e168⟩ := hd 10 168
       refine Reg.Gives.call (f := 44) (args := #[.agg #[.int .i64 y.cell, .int .i64 y.version, .int .i64 y.value, .bool y.write, .int .i64 y.new], .agg #[.int .i64 x.cell, .int .i64 x.version, .int .i64 x.value, .bool x.write, .int .i64 x.new]]) (w' := wi) (by go_simp) ?_
       refine (cmp_any y x wi).mono ?_
       rintro e w'' ⟨rfl, hbb⟩
       exact ⟨_, rfl, ⟨rfl, hI.trans (hbb.mono hI.size), fun j u _ _ h => mgTG_f_later hbb h⟩⟩
      ·obtain ⟨_, rfl, e169⟩ := hd 11 169; have hc := hE.const; have hx := HCV.out; exact Reg.gw hI
      ·obtain ⟨_, rfl, e170⟩ := hd 12 170; exact Reg.gw hI
     ·intro V w1 hV hI
      have hV13 : V 13 = .bool true := hV 13 (by decide) rfl
      simp only [Reg.putsO, List.foldl_cons, List.foldl_nil, Act.put, List.setIfInBounds_toArray, List.set_cons_succ, List.set_cons_zero, hV13]
      replace hI : (fun a => Below wr.heap.size wr a) w1 := hI
      clear hV hV13
      have HBW := Lib.hid (HBR.out.trans (hI.mono HBR.out.size))
      have HRW := Lib.hid (HROW.out.later hI)
      clear hI
      go_wp2_with fail
      go_roundw
      case rel => exact ⟨hh + 1, t, by go_num, rfl, by omega, by omega, htr, Lib.hid ⟨HL2.out, hp.out.2.1, HRR.out _ HRW.out⟩, HBW.out⟩
      case measure => simp [intOf]; omega
   ·obtain rfl : s = t := by omega
    have hidx : s - a ≤ X.length ∧ nn - s - m ≤ Y.length ∧ a ≤ s ∧ m + s ≤ nn := by have := HG.out; have := HM.out; have := HC.out; omega
    have hcut := cut_of HXA.out HYA.out (i := s - a) (j := nn - s - m) hidx.1 hidx.2.1 (fun k l h0 => by
     have h1 := HG.out
     have h2 := HM.out
     have h3 := HPN.out
     have e1 : pp - (s - a + a) - m = nn - s - m - 1 := by omega
     have g := hp.out.2.1 (s - a) k (by omega) (by omega) (by omega)
     simp only [e1] at g
     exact g) (fun k l h0 => by
     have h1 := HG.out
     have h2 := HC.out
     have h3 := HPN.out
     have e1 : pp - (s - a - 1 + a) - m = nn - s - m := by omega
     have g := hp.out.1 (s - a - 1) k (by omega) (by omega) (by omega)
     simp only [e1] at g
     exact g)
    obtain ⟨X1, X2, Y1, Y2, hX12, hY12, hX1, hY1, hlt12, hle12⟩ := hcut
    obtain ⟨e, he⟩ : ∃ e, e + s = nn := ⟨nn - s, by omega⟩
    have hxl : X1.length + X2.length = X.length := by rw [hX12, List.length_append]
    have hyl : Y1.length + Y2.length = Y.length := by rw [hY12, List.length_append]
    have HL : Hid (P.length + X1.length = s ∧ s + X2.length = m ∧ m + Y1.length = e ∧ e + Y2.length = c ∧ a + X1.length + Y1.length = md ∧ md + X2.length = e ∧ a + X1.length = s ∧ N = P.length + X1.length + X2.length + Y1.length + Y2.length + S.length ∧ X1.length + X2.length + Y1.length + Y2.length ≤ n0 + 1 ∧ X1.length + X2.length + Y1.length + Y2.length = X.length + Y.length) := Lib.hid (by have := HM.out; have := HC.out; have := HNM.out; have := HAP.out; have := HLEN.out; have := HSZ.out; omega)
    have HE : Hid ((nn : Int) - (s : Int) = (e : Int)) := Lib.hid (by omega)
    have hec : e ≤ 1000000 := by have := HL.out; omega
    have HZZ : Hid (∀ Z1 Z2, Asc Z1 → Asc Z2 → Same (X1 ++ Y1) Z1 → Same (X2 ++ Y2) Z2 → Asc (Z1 ++ Z2) ∧ Same (X ++ Y) (Z1 ++ Z2)) := Lib.hid fun Z1 Z2 a1 a2 s1 s2 => ⟨asc_join (by rw [← hX12]; exact HXA.out) (by rw [← hY12]; exact HYA.out) hlt12 hle12 a1 a2 s1 s2, by rw [hX12, hY12]; exact same_join hlt12 s1 s2⟩
    have HAS : Hid (Asc X1 ∧ Asc X2 ∧ Asc Y1 ∧ Asc Y2) := Lib.hid (by
     have h1 := HXA.out
     have h2 := HYA.out
     rw [hX12] at h1
     rw [hY12] at h2
     exact ⟨h1.left, h1.right, h2.left, h2.right⟩)
    have HRX : Hid (Row wr b (P ++ X1 ++ X2 ++ Y1 ++ Y2 ++ S)) := Lib.hid (by have h1 := hp.out.2.2; rw [hX12, hY12] at h1; simpa using h1)
    have HO1 : Hid (Only (fun j => j = b) w wr) := Lib.hid ((Only.of_below (S := fun _ => False) HBR.out).mono fun _ _ e => e.elim)
    clear hp hidx hX12 hY12 hX1 hY1 hlt12 hle12 hxl hyl
    by_cases q1 : s < m
    ·by_cases q2 : m < e
     ·have HCC := Lib.hid (rotate_any (P ++ X1) X2 Y1 (Y2 ++ S) b N cap s m e (.func (.func 44) #[] #[]) wr (by simpa using HRX.out) (by have := HL.out; simp only [List.length_append]; omega) (by have := HL.out; simp only [List.length_append]; omega) (by have := HL.out; simp only [List.length_append]; omega) (by have := HL.out; simp only [List.length_append]; omega) (by have := HL.out; omega) (by have := HL.out; omega) hl)
      go_wp2_with fail
      rw [HE.out]
      clear q1 q2
      refine HCC.out.mono ?_
      rintro e2 w2 ⟨rfl, hr2, ho2⟩
      have HR2 : Hid (Row w2 b (P ++ X1 ++ Y1 ++ X2 ++ Y2 ++ S)) := Lib.hid (by simpa using hr2)
      have HO2 := Lib.hid (HO1.out.trans ho2 fun _ _ e => e)
      clear hr2 ho2
      by_cases q1 : a < s
      ·by_cases q2 : s < md
       ·have HCC := Lib.hid (HIH.out P X1 Y1 (X2 ++ Y2 ++ S) b N cap a s md w2 (by have := HL.out; have := HMM.out; omega) (by have := HL.out; omega) (by have := HL.out; omega) (by simpa using HR2.out) (by have := HL.out; simp only [List.length_append]; omega) (by have := HAP.out; omega) (by have := HL.out; omega) (by have := HL.out; omega) HAS.out.1 HAS.out.2.2.1 hl)
        go_wp2_with fail
        clear q1 q2
        refine HCC.out.mono ?_
        rintro e3 w3 ⟨rfl, Z1, hz1, hz2, hz3, hr3, ho3⟩
        have HZ1 : Hid (Z1.length = X1.length + Y1.length ∧ Asc Z1 ∧ Same (X1 ++ Y1) Z1) := Lib.hid ⟨hz1, hz2, hz3⟩
        have HR3 : Hid (Row w3 b ((P ++ Z1) ++ X2 ++ Y2 ++ S)) := Lib.hid (by simpa using hr3)
        have HO3 := Lib.hid (HO2.out.trans ho3 fun _ _ e => e)
        clear hz1 hz2 hz3 hr3 ho3
        by_cases q1 : md < e
        ·by_cases q2 : e < c
         ·have HCC := Lib.hid (HIH.out (P ++ Z1) X2 Y2 S b N cap md e c w3 (by have := HL.out; have := HMM.out; omega) (by have := HL.out; omega) (by have := HL.out; omega) HR3.out (by have := HZ1.out.1; have := HL.out; simp only [List.length_append]; omega) (by have := HZ1.out.1; have := HL.out; simp only [List.length_append]; omega) (by have := HZ1.out.1; have := HL.out; simp only [List.length_append]; omega) (by have := HZ1.out.1; have := HL.out; simp only [List.length_append]; omega) HAS.out.2.1 HAS.out.2.2.2 hl)
          go_wp2_with fail
          try rw [HE.out]
          clear q1 q2
          refine HCC.out.mono ?_
          rintro e4 w4 ⟨rfl, Z2, hz1, hz2, hz3, hr4, ho4⟩
          have HZ2 : Hid (Z2.length = X2.length + Y2.length ∧ Asc Z2 ∧ Same (X2 ++ Y2) Z2) := Lib.hid ⟨hz1, hz2, hz3⟩
          have HR4 := Lib.hid hr4
          have HO4 := Lib.hid (HO3.out.trans ho4 fun _ _ e => e)
          clear hz1 hz2 hz3 hr4 ho4
          go_wp2_with fail
          go_returns
          exact ⟨rfl, Z1 ++ Z2, by have h1 := HZ1.out.1; have h2 := HZ2.out.1; have := HL.out; simp only [List.length_append]; omega, (HZZ.out Z1 Z2 HZ1.out.2.1 HZ2.out.2.1 HZ1.out.2.2 HZ2.out.2.2).1, (HZZ.out Z1 Z2 HZ1.out.2.1 HZ2.out.2.1 HZ1.out.2.2 HZ2.out.2.2).2, by simpa using HR4.out, HO4.out⟩
         ·have hz : X2.length = 0 ∨ Y2.length = 0 := by have := HL.out; omega
          obtain ⟨Z2, HZ2, HR4⟩ : ∃ Z2, Hid (Z2.length = X2.length + Y2.length ∧ Asc Z2 ∧ Same (X2 ++ Y2) Z2) ∧ Hid (Row w3 b ((P ++ Z1) ++ Z2 ++ S)) := ⟨X2 ++ Y2, Lib.hid ⟨List.length_append, asc_empty HAS.out.2.1 HAS.out.2.2.2 hz, Same.refl _⟩, Lib.hid (by simpa using HR3.out)⟩
          have HO4 := HO3
          clear hz
          go_wp2_with fail
          go_returns
          exact ⟨rfl, Z1 ++ Z2, by have h1 := HZ1.out.1; have h2 := HZ2.out.1; have := HL.out; simp only [List.length_append]; omega, (HZZ.out Z1 Z2 HZ1.out.2.1 HZ2.out.2.1 HZ1.out.2.2 HZ2.out.2.2).1, (HZZ.out Z1 Z2 HZ1.out.2.1 HZ2.out.2.1 HZ1.out.2.2 HZ2.out.2.2).2, by simpa using HR4.out, HO4.out⟩
        ·have hz : X2.length = 0 ∨ Y2.length = 0 := by have := HL.out; omega
         obtain ⟨Z2, HZ2, HR4⟩ : ∃ Z2, Hid (Z2.length = X2.length + Y2.length ∧ Asc Z2 ∧ Same (X2 ++ Y2) Z2) ∧ Hid (Row w3 b ((P ++ Z1) ++ Z2 ++ S)) := ⟨X2 ++ Y2, Lib.hid ⟨List.length_append, asc_empty HAS.out.2.1 HAS.out.2.2.2 hz, Same.refl _⟩, Lib.hid (by simpa using HR3.out)⟩
         have HO4 := HO3
         clear hz
         go_wp2_with fail
         go_returns
         exact ⟨rfl, Z1 ++ Z2, by have h1 := HZ1.out.1; have h2 := HZ2.out.1; have := HL.out; simp only [List.length_append]; omega, (HZZ.out Z1 Z2 HZ1.out.2.1 HZ2.out.2.1 HZ1.out.2.2 HZ2.out.2.2).1, (HZZ.out Z1 Z2 HZ1.out.2.1 HZ2.out.2.1 HZ1.out.2.2 HZ2.out.2.2).2, by simpa using HR4.out, HO4.out⟩
       ·have hz : X1.length = 0 ∨ Y1.length = 0 := by have := HL.out; omega
        obtain ⟨Z1, HZ1, HR3⟩ : ∃ Z1, Hid (Z1.length = X1.length + Y1.length ∧ Asc Z1 ∧ Same (X1 ++ Y1) Z1) ∧ Hid (Row w2 b ((P ++ Z1) ++ X2 ++ Y2 ++ S)) := ⟨X1 ++ Y1, Lib.hid ⟨List.length_append, asc_empty HAS.out.1 HAS.out.2.2.1 hz, Same.refl _⟩, Lib.hid (by simpa using HR2.out)⟩
        have HO3 := HO2
        clear hz
        by_cases q1 : md < e
        ·by_cases q2 : e < c
         ·have HCC := Lib.hid (HIH.out (P ++ Z1) X2 Y2 S b N cap md e c w2 (by have := HL.out; have := HMM.out; omega) (by have := HL.out; omega) (by have := HL.out; omega) HR3.out (by have := HZ1.out.1; have := HL.out; simp only [List.length_append]; omega) (by have := HZ1.out.1; have := HL.out; simp only [List.length_append]; omega) (by have := HZ1.out.1; have := HL.out; simp only [List.length_append]; omega) (by have := HZ1.out.1; have := HL.out; simp only [List.length_append]; omega) HAS.out.2.1 HAS.out.2.2.2 hl)
          go_wp2_with fail
          try rw [HE.out]
          clear q1 q2
          refine HCC.out.mono ?_
          rintro e4 w4 ⟨rfl, Z2, hz1, hz2, hz3, hr4, ho4⟩
          have HZ2 : Hid (Z2.length = X2.length + Y2.length ∧ Asc Z2 ∧ Same (X2 ++ Y2) Z2) := Lib.hid ⟨hz1, hz2, hz3⟩
          have HR4 := Lib.hid hr4
          have HO4 := Lib.hid (HO3.out.trans ho4 fun _ _ e => e)
          clear hz1 hz2 hz3 hr4 ho4
          go_wp2_with fail
          go_returns
          exact ⟨rfl, Z1 ++ Z2, by have h1 := HZ1.out.1; have h2 := HZ2.out.1; have := HL.out; simp only [List.length_append]; omega, (HZZ.out Z1 Z2 HZ1.out.2.1 HZ2.out.2.1 HZ1.out.2.2 HZ2.out.2.2).1, (HZZ.out Z1 Z2 HZ1.out.2.1 HZ2.out.2.1 HZ1.out.2.2 HZ2.out.2.2).2, by simpa using HR4.out, HO4.out⟩
         ·have hz : X2.length = 0 ∨ Y2.length = 0 := by have := HL.out; omega
          obtain ⟨Z2, HZ2, HR4⟩ : ∃ Z2, Hid (Z2.length = X2.length + Y2.length ∧ Asc Z2 ∧ Same (X2 ++ Y2) Z2) ∧ Hid (Row w2 b ((P ++ Z1) ++ Z2 ++ S)) := ⟨X2 ++ Y2, Lib.hid ⟨List.length_append, asc_empty HAS.out.2.1 HAS.out.2.2.2 hz, Same.refl _⟩, Lib.hid (by simpa using HR3.out)⟩
          have HO4 := HO3
          clear hz
          go_wp2_with fail
          go_returns
          exact ⟨rfl, Z1 ++ Z2, by have h1 := HZ1.out.1; have h2 := HZ2.out.1; have := HL.out; simp only [List.length_append]; omega, (HZZ.out Z1 Z2 HZ1.out.2.1 HZ2.out.2.1 HZ1.out.2.2 HZ2.out.2.2).1, (HZZ.out Z1 Z2 HZ1.out.2.1 HZ2.out.2.1 HZ1.out.2.2 HZ2.out.2.2).2, by simpa using HR4.out, HO4.out⟩
        ·have hz : X2.length = 0 ∨ Y2.length = 0 := by have := HL.out; omega
         obtain ⟨Z2, HZ2, HR4⟩ : ∃ Z2, Hid (Z2.length = X2.length + Y2.length ∧ Asc Z2 ∧ Same (X2 ++ Y2) Z2) ∧ Hid (Row w2 b ((P ++ Z1) ++ Z2 ++ S)) := ⟨X2 ++ Y2, Lib.hid ⟨List.length_append, asc_empty HAS.out.2.1 HAS.out.2.2.2 hz, Same.refl _⟩, Lib.hid (by simpa using HR3.out)⟩
         have HO4 := HO3
         clear hz
         go_wp2_with fail
         go_returns
         exact ⟨rfl, Z1 ++ Z2, by have h1 := HZ1.out.1; have h2 := HZ2.out.1; have := HL.out; simp only [List.length_append]; omega, (HZZ.out Z1 Z2 HZ1.out.2.1 HZ2.out.2.1 HZ1.out.2.2 HZ2.out.2.2).1, (HZZ.out Z1 Z2 HZ1.out.2.1 HZ2.out.2.1 HZ1.out.2.2 HZ2.out.2.2).2, by simpa using HR4.out, HO4.out⟩
      ·have hz : X1.length = 0 ∨ Y1.length = 0 := by have := HL.out; omega
       obtain ⟨Z1, HZ1, HR3⟩ : ∃ Z1, Hid (Z1.length = X1.length + Y1.length ∧ Asc Z1 ∧ Same (X1 ++ Y1) Z1) ∧ Hid (Row w2 b ((P ++ Z1) ++ X2 ++ Y2 ++ S)) := ⟨X1 ++ Y1, Lib.hid ⟨List.length_append, asc_empty HAS.out.1 HAS.out.2.2.1 hz, Same.refl _⟩, Lib.hid (by simpa using HR2.out)⟩
       have HO3 := HO2
       clear hz
       by_cases q1 : md < e
       ·by_cases q2 : e < c
        ·have HCC := Lib.hid (HIH.out (P ++ Z1) X2 Y2 S b N cap md e c w2 (by have := HL.out; have := HMM.out; omega) (by have := HL.out; omega) (by have := HL.out; omega) HR3.out (by have := HZ1.out.1; have := HL.out; simp only [List.length_append]; omega) (by have := HZ1.out.1; have := HL.out; simp only [List.length_append]; omega) (by have := HZ1.out.1; have := HL.out; simp only [List.length_append]; omega) (by have := HZ1.out.1; have := HL.out; simp only [List.length_append]; omega) HAS.out.2.1 HAS.out.2.2.2 hl)
         go_wp2_with fail
         try rw [HE.out]
         clear q1 q2
         refine HCC.out.mono ?_
         rintro e4 w4 ⟨rfl, Z2, hz1, hz2, hz3, hr4, ho4⟩
         have HZ2 : Hid (Z2.length = X2.length + Y2.length ∧ Asc Z2 ∧ Same (X2 ++ Y2) Z2) := Lib.hid ⟨hz1, hz2, hz3⟩
         have HR4 := Lib.hid hr4
         have HO4 := Lib.hid (HO3.out.trans ho4 fun _ _ e => e)
         clear hz1 hz2 hz3 hr4 ho4
         go_wp2_with fail
         go_returns
         exact ⟨rfl, Z1 ++ Z2, by have h1 := HZ1.out.1; have h2 := HZ2.out.1; have := HL.out; simp only [List.length_append]; omega, (HZZ.out Z1 Z2 HZ1.out.2.1 HZ2.out.2.1 HZ1.out.2.2 HZ2.out.2.2).1, (HZZ.out Z1 Z2 HZ1.out.2.1 HZ2.out.2.1 HZ1.out.2.2 HZ2.out.2.2).2, by simpa using HR4.out, HO4.out⟩
        ·have hz : X2.length = 0 ∨ Y2.length = 0 := by have := HL.out; omega
         obtain ⟨Z2, HZ2, HR4⟩ : ∃ Z2, Hid (Z2.length = X2.length + Y2.length ∧ Asc Z2 ∧ Same (X2 ++ Y2) Z2) ∧ Hid (Row w2 b ((P ++ Z1) ++ Z2 ++ S)) := ⟨X2 ++ Y2, Lib.hid ⟨List.length_append, asc_empty HAS.out.2.1 HAS.out.2.2.2 hz, Same.refl _⟩, Lib.hid (by simpa using HR3.out)⟩
         have HO4 := HO3
         clear hz
         go_wp2_with fail
         go_returns
         exact ⟨rfl, Z1 ++ Z2, by have h1 := HZ1.out.1; have h2 := HZ2.out.1; have := HL.out; simp only [List.length_append]; omega, (HZZ.out Z1 Z2 HZ1.out.2.1 HZ2.out.2.1 HZ1.out.2.2 HZ2.out.2.2).1, (HZZ.out Z1 Z2 HZ1.out.2.1 HZ2.out.2.1 HZ1.out.2.2 HZ2.out.2.2).2, by simpa using HR4.out, HO4.out⟩
       ·have hz : X2.length = 0 ∨ Y2.length = 0 := by have := HL.out; omega
        obtain ⟨Z2, HZ2, HR4⟩ : ∃ Z2, Hid (Z2.length = X2.length + Y2.length ∧ Asc Z2 ∧ Same (X2 ++ Y2) Z2) ∧ Hid (Row w2 b ((P ++ Z1) ++ Z2 ++ S)) := ⟨X2 ++ Y2, Lib.hid ⟨List.length_append, asc_empty HAS.out.2.1 HAS.out.2.2.2 hz, Same.refl _⟩, Lib.hid (by simpa using HR3.out)⟩
        have HO4 := HO3
        clear hz
        go_wp2_with fail
        go_returns
        exact ⟨rfl, Z1 ++ Z2, by have h1 := HZ1.out.1; have h2 := HZ2.out.1; have := HL.out; simp only [List.length_append]; omega, (HZZ.out Z1 Z2 HZ1.out.2.1 HZ2.out.2.1 HZ1.out.2.2 HZ2.out.2.2).1, (HZZ.out Z1 Z2 HZ1.out.2.1 HZ2.out.2.1 HZ1.out.2.2 HZ2.out.2.2).2, by simpa using HR4.out, HO4.out⟩
     ·have hz : X2.length = 0 ∨ Y1.length = 0 := by have := HL.out; omega
      have HR2 : Hid (Row wr b (P ++ X1 ++ Y1 ++ X2 ++ Y2 ++ S)) := Lib.hid (by
       have h1 := HRX.out
       rw [show P ++ X1 ++ X2 ++ Y1 ++ Y2 ++ S = P ++ X1 ++ (X2 ++ Y1) ++ Y2 ++ S by simp, swap_empty hz] at h1
       simpa using h1)
      have HO2 := HO1
      clear hz
      by_cases q1 : a < s
      ·by_cases q2 : s < md
       ·have HCC := Lib.hid (HIH.out P X1 Y1 (X2 ++ Y2 ++ S) b N cap a s md wr (by have := HL.out; have := HMM.out; omega) (by have := HL.out; omega) (by have := HL.out; omega) (by simpa using HR2.out) (by have := HL.out; simp only [List.length_append]; omega) (by have := HAP.out; omega) (by have := HL.out; omega) (by have := HL.out; omega) HAS.out.1 HAS.out.2.2.1 hl)
        go_wp2_with fail
        clear q1 q2
        refine HCC.out.mono ?_
        rintro e3 w3 ⟨rfl, Z1, hz1, hz2, hz3, hr3, ho3⟩
        have HZ1 : Hid (Z1.length = X1.length + Y1.length ∧ Asc Z1 ∧ Same (X1 ++ Y1) Z1) := Lib.hid ⟨hz1, hz2, hz3⟩
        have HR3 : Hid (Row w3 b ((P ++ Z1) ++ X2 ++ Y2 ++ S)) := Lib.hid (by simpa using hr3)
        have HO3 := Lib.hid (HO2.out.trans ho3 fun _ _ e => e)
        clear hz1 hz2 hz3 hr3 ho3
        by_cases q1 : md < e
        ·by_cases q2 : e < c
         ·have HCC := Lib.hid (HIH.out (P ++ Z1) X2 Y2 S b N cap md e c w3 (by have := HL.out; have := HMM.out; omega) (by have := HL.out; omega) (by have := HL.out; omega) HR3.out (by have := HZ1.out.1; have := HL.out; simp only [List.length_append]; omega) (by have := HZ1.out.1; have := HL.out; simp only [List.length_append]; omega) (by have := HZ1.out.1; have := HL.out; simp only [List.length_append]; omega) (by have := HZ1.out.1; have := HL.out; simp only [List.length_append]; omega) HAS.out.2.1 HAS.out.2.2.2 hl)
          go_wp2_with fail
          try rw [HE.out]
          clear q1 q2
          refine HCC.out.mono ?_
          rintro e4 w4 ⟨rfl, Z2, hz1, hz2, hz3, hr4, ho4⟩
          have HZ2 : Hid (Z2.length = X2.length + Y2.length ∧ Asc Z2 ∧ Same (X2 ++ Y2) Z2) := Lib.hid ⟨hz1, hz2, hz3⟩
          have HR4 := Lib.hid hr4
          have HO4 := Lib.hid (HO3.out.trans ho4 fun _ _ e => e)
          clear hz1 hz2 hz3 hr4 ho4
          go_wp2_with fail
          go_returns
          exact ⟨rfl, Z1 ++ Z2, by have h1 := HZ1.out.1; have h2 := HZ2.out.1; have := HL.out; simp only [List.length_append]; omega, (HZZ.out Z1 Z2 HZ1.out.2.1 HZ2.out.2.1 HZ1.out.2.2 HZ2.out.2.2).1, (HZZ.out Z1 Z2 HZ1.out.2.1 HZ2.out.2.1 HZ1.out.2.2 HZ2.out.2.2).2, by simpa using HR4.out, HO4.out⟩
         ·have hz : X2.length = 0 ∨ Y2.length = 0 := by have := HL.out; omega
          obtain ⟨Z2, HZ2, HR4⟩ : ∃ Z2, Hid (Z2.length = X2.length + Y2.length ∧ Asc Z2 ∧ Same (X2 ++ Y2) Z2) ∧ Hid (Row w3 b ((P ++ Z1) ++ Z2 ++ S)) := ⟨X2 ++ Y2, Lib.hid ⟨List.length_append, asc_empty HAS.out.2.1 HAS.out.2.2.2 hz, Same.refl _⟩, Lib.hid (by simpa using HR3.out)⟩
          have HO4 := HO3
          clear hz
          go_wp2_with fail
          go_returns
          exact ⟨rfl, Z1 ++ Z2, by have h1 := HZ1.out.1; have h2 := HZ2.out.1; have := HL.out; simp only [List.length_append]; omega, (HZZ.out Z1 Z2 HZ1.out.2.1 HZ2.out.2.1 HZ1.out.2.2 HZ2.out.2.2).1, (HZZ.out Z1 Z2 HZ1.out.2.1 HZ2.out.2.1 HZ1.out.2.2 HZ2.out.2.2).2, by simpa using HR4.out, HO4.out⟩
        ·have hz : X2.length = 0 ∨ Y2.length = 0 := by have := HL.out; omega
         obtain ⟨Z2, HZ2, HR4⟩ : ∃ Z2, Hid (Z2.length = X2.length + Y2.length ∧ Asc Z2 ∧ Same (X2 ++ Y2) Z2) ∧ Hid (Row w3 b ((P ++ Z1) ++ Z2 ++ S)) := ⟨X2 ++ Y2, Lib.hid ⟨List.length_append, asc_empty HAS.out.2.1 HAS.out.2.2.2 hz, Same.refl _⟩, Lib.hid (by simpa using HR3.out)⟩
         have HO4 := HO3
         clear hz
         go_wp2_with fail
         go_returns
         exact ⟨rfl, Z1 ++ Z2, by have h1 := HZ1.out.1; have h2 := HZ2.out.1; have := HL.out; simp only [List.length_append]; omega, (HZZ.out Z1 Z2 HZ1.out.2.1 HZ2.out.2.1 HZ1.out.2.2 HZ2.out.2.2).1, (HZZ.out Z1 Z2 HZ1.out.2.1 HZ2.out.2.1 HZ1.out.2.2 HZ2.out.2.2).2, by simpa using HR4.out, HO4.out⟩
       ·have hz : X1.length = 0 ∨ Y1.length = 0 := by have := HL.out; omega
        obtain ⟨Z1, HZ1, HR3⟩ : ∃ Z1, Hid (Z1.length = X1.length + Y1.length ∧ Asc Z1 ∧ Same (X1 ++ Y1) Z1) ∧ Hid (Row wr b ((P ++ Z1) ++ X2 ++ Y2 ++ S)) := ⟨X1 ++ Y1, Lib.hid ⟨List.length_append, asc_empty HAS.out.1 HAS.out.2.2.1 hz, Same.refl _⟩, Lib.hid (by simpa using HR2.out)⟩
        have HO3 := HO2
        clear hz
        by_cases q1 : md < e
        ·by_cases q2 : e < c
         ·have HCC := Lib.hid (HIH.out (P ++ Z1) X2 Y2 S b N cap md e c wr (by have := HL.out; have := HMM.out; omega) (by have := HL.out; omega) (by have := HL.out; omega) HR3.out (by have := HZ1.out.1; have := HL.out; simp only [List.length_append]; omega) (by have := HZ1.out.1; have := HL.out; simp only [List.length_append]; omega) (by have := HZ1.out.1; have := HL.out; simp only [List.length_append]; omega) (by have := HZ1.out.1; have := HL.out; simp only [List.length_append]; omega) HAS.out.2.1 HAS.out.2.2.2 hl)
          go_wp2_with fail
          try rw [HE.out]
          clear q1 q2
          refine HCC.out.mono ?_
          rintro e4 w4 ⟨rfl, Z2, hz1, hz2, hz3, hr4, ho4⟩
          have HZ2 : Hid (Z2.length = X2.length + Y2.length ∧ Asc Z2 ∧ Same (X2 ++ Y2) Z2) := Lib.hid ⟨hz1, hz2, hz3⟩
          have HR4 := Lib.hid hr4
          have HO4 := Lib.hid (HO3.out.trans ho4 fun _ _ e => e)
          clear hz1 hz2 hz3 hr4 ho4
          go_wp2_with fail
          go_returns
          exact ⟨rfl, Z1 ++ Z2, by have h1 := HZ1.out.1; have h2 := HZ2.out.1; have := HL.out; simp only [List.length_append]; omega, (HZZ.out Z1 Z2 HZ1.out.2.1 HZ2.out.2.1 HZ1.out.2.2 HZ2.out.2.2).1, (HZZ.out Z1 Z2 HZ1.out.2.1 HZ2.out.2.1 HZ1.out.2.2 HZ2.out.2.2).2, by simpa using HR4.out, HO4.out⟩
         ·have hz : X2.length = 0 ∨ Y2.length = 0 := by have := HL.out; omega
          obtain ⟨Z2, HZ2, HR4⟩ : ∃ Z2, Hid (Z2.length = X2.length + Y2.length ∧ Asc Z2 ∧ Same (X2 ++ Y2) Z2) ∧ Hid (Row wr b ((P ++ Z1) ++ Z2 ++ S)) := ⟨X2 ++ Y2, Lib.hid ⟨List.length_append, asc_empty HAS.out.2.1 HAS.out.2.2.2 hz, Same.refl _⟩, Lib.hid (by simpa using HR3.out)⟩
          have HO4 := HO3
          clear hz
          go_wp2_with fail
          go_returns
          exact ⟨rfl, Z1 ++ Z2, by have h1 := HZ1.out.1; have h2 := HZ2.out.1; have := HL.out; simp only [List.length_append]; omega, (HZZ.out Z1 Z2 HZ1.out.2.1 HZ2.out.2.1 HZ1.out.2.2 HZ2.out.2.2).1, (HZZ.out Z1 Z2 HZ1.out.2.1 HZ2.out.2.1 HZ1.out.2.2 HZ2.out.2.2).2, by simpa using HR4.out, HO4.out⟩
        ·have hz : X2.length = 0 ∨ Y2.length = 0 := by have := HL.out; omega
         obtain ⟨Z2, HZ2, HR4⟩ : ∃ Z2, Hid (Z2.length = X2.length + Y2.length ∧ Asc Z2 ∧ Same (X2 ++ Y2) Z2) ∧ Hid (Row wr b ((P ++ Z1) ++ Z2 ++ S)) := ⟨X2 ++ Y2, Lib.hid ⟨List.length_append, asc_empty HAS.out.2.1 HAS.out.2.2.2 hz, Same.refl _⟩, Lib.hid (by simpa using HR3.out)⟩
         have HO4 := HO3
         clear hz
         go_wp2_with fail
         go_returns
         exact ⟨rfl, Z1 ++ Z2, by have h1 := HZ1.out.1; have h2 := HZ2.out.1; have := HL.out; simp only [List.length_append]; omega, (HZZ.out Z1 Z2 HZ1.out.2.1 HZ2.out.2.1 HZ1.out.2.2 HZ2.out.2.2).1, (HZZ.out Z1 Z2 HZ1.out.2.1 HZ2.out.2.1 HZ1.out.2.2 HZ2.out.2.2).2, by simpa using HR4.out, HO4.out⟩
      ·have hz : X1.length = 0 ∨ Y1.length = 0 := by have := HL.out; omega
       obtain ⟨Z1, HZ1, HR3⟩ : ∃ Z1, Hid (Z1.length = X1.length + Y1.length ∧ Asc Z1 ∧ Same (X1 ++ Y1) Z1) ∧ Hid (Row wr b ((P ++ Z1) ++ X2 ++ Y2 ++ S)) := ⟨X1 ++ Y1, Lib.hid ⟨List.length_append, asc_empty HAS.out.1 HAS.out.2.2.1 hz, Same.refl _⟩, Lib.hid (by simpa using HR2.out)⟩
       have HO3 := HO2
       clear hz
       by_cases q1 : md < e
       ·by_cases q2 : e < c
        ·have HCC := Lib.hid (HIH.out (P ++ Z1) X2 Y2 S b N cap md e c wr (by have := HL.out; have := HMM.out; omega) (by have := HL.out; omega) (by have := HL.out; omega) HR3.out (by have := HZ1.out.1; have := HL.out; simp only [List.length_append]; omega) (by have := HZ1.out.1; have := HL.out; simp only [List.length_append]; omega) (by have := HZ1.out.1; have := HL.out; simp only [List.length_append]; omega) (by have := HZ1.out.1; have := HL.out; simp only [List.length_append]; omega) HAS.out.2.1 HAS.out.2.2.2 hl)
         go_wp2_with fail
         try rw [HE.out]
         clear q1 q2
         refine HCC.out.mono ?_
         rintro e4 w4 ⟨rfl, Z2, hz1, hz2, hz3, hr4, ho4⟩
         have HZ2 : Hid (Z2.length = X2.length + Y2.length ∧ Asc Z2 ∧ Same (X2 ++ Y2) Z2) := Lib.hid ⟨hz1, hz2, hz3⟩
         have HR4 := Lib.hid hr4
         have HO4 := Lib.hid (HO3.out.trans ho4 fun _ _ e => e)
         clear hz1 hz2 hz3 hr4 ho4
         go_wp2_with fail
         go_returns
         exact ⟨rfl, Z1 ++ Z2, by have h1 := HZ1.out.1; have h2 := HZ2.out.1; have := HL.out; simp only [List.length_append]; omega, (HZZ.out Z1 Z2 HZ1.out.2.1 HZ2.out.2.1 HZ1.out.2.2 HZ2.out.2.2).1, (HZZ.out Z1 Z2 HZ1.out.2.1 HZ2.out.2.1 HZ1.out.2.2 HZ2.out.2.2).2, by simpa using HR4.out, HO4.out⟩
        ·have hz : X2.length = 0 ∨ Y2.length = 0 := by have := HL.out; omega
         obtain ⟨Z2, HZ2, HR4⟩ : ∃ Z2, Hid (Z2.length = X2.length + Y2.length ∧ Asc Z2 ∧ Same (X2 ++ Y2) Z2) ∧ Hid (Row wr b ((P ++ Z1) ++ Z2 ++ S)) := ⟨X2 ++ Y2, Lib.hid ⟨List.length_append, asc_empty HAS.out.2.1 HAS.out.2.2.2 hz, Same.refl _⟩, Lib.hid (by simpa using HR3.out)⟩
         have HO4 := HO3
         clear hz
         go_wp2_with fail
         go_returns
         exact ⟨rfl, Z1 ++ Z2, by have h1 := HZ1.out.1; have h2 := HZ2.out.1; have := HL.out; simp only [List.length_append]; omega, (HZZ.out Z1 Z2 HZ1.out.2.1 HZ2.out.2.1 HZ1.out.2.2 HZ2.out.2.2).1, (HZZ.out Z1 Z2 HZ1.out.2.1 HZ2.out.2.1 HZ1.out.2.2 HZ2.out.2.2).2, by simpa using HR4.out, HO4.out⟩
       ·have hz : X2.length = 0 ∨ Y2.length = 0 := by have := HL.out; omega
        obtain ⟨Z2, HZ2, HR4⟩ : ∃ Z2, Hid (Z2.length = X2.length + Y2.length ∧ Asc Z2 ∧ Same (X2 ++ Y2) Z2) ∧ Hid (Row wr b ((P ++ Z1) ++ Z2 ++ S)) := ⟨X2 ++ Y2, Lib.hid ⟨List.length_append, asc_empty HAS.out.2.1 HAS.out.2.2.2 hz, Same.refl _⟩, Lib.hid (by simpa using HR3.out)⟩
        have HO4 := HO3
        clear hz
        go_wp2_with fail
        go_returns
        exact ⟨rfl, Z1 ++ Z2, by have h1 := HZ1.out.1; have h2 := HZ2.out.1; have := HL.out; simp only [List.length_append]; omega, (HZZ.out Z1 Z2 HZ1.out.2.1 HZ2.out.2.1 HZ1.out.2.2 HZ2.out.2.2).1, (HZZ.out Z1 Z2 HZ1.out.2.1 HZ2.out.2.1 HZ1.out.2.2 HZ2.out.2.2).2, by simpa using HR4.out, HO4.out⟩
    ·have hz : X2.length = 0 ∨ Y1.length = 0 := by have := HL.out; omega
     have HR2 : Hid (Row wr b (P ++ X1 ++ Y1 ++ X2 ++ Y2 ++ S)) := Lib.hid (by
      have h1 := HRX.out
      rw [show P ++ X1 ++ X2 ++ Y1 ++ Y2 ++ S = P ++ X1 ++ (X2 ++ Y1) ++ Y2 ++ S by simp, swap_empty hz] at h1
      simpa using h1)
     have HO2 := HO1
     clear hz
     by_cases q1 : a < s
     ·by_cases q2 : s < md
      ·have HCC := Lib.hid (HIH.out P X1 Y1 (X2 ++ Y2 ++ S) b N cap a s md wr (by have := HL.out; have := HMM.out; omega) (by have := HL.out; omega) (by have := HL.out; omega) (by simpa using HR2.out) (by have := HL.out; simp only [List.length_append]; omega) (by have := HAP.out; omega) (by have := HL.out; omega) (by have := HL.out; omega) HAS.out.1 HAS.out.2.2.1 hl)
       go_wp2_with fail
       clear q1 q2
       refine HCC.out.mono ?_
       rintro e3 w3 ⟨rfl, Z1, hz1, hz2, hz3, hr3, ho3⟩
       have HZ1 : Hid (Z1.length = X1.length + Y1.length ∧ Asc Z1 ∧ Same (X1 ++ Y1) Z1) := Lib.hid ⟨hz1, hz2, hz3⟩
       have HR3 : Hid (Row w3 b ((P ++ Z1) ++ X2 ++ Y2 ++ S)) := Lib.hid (by simpa using hr3)
       have HO3 := Lib.hid (HO2.out.trans ho3 fun _ _ e => e)
       clear hz1 hz2 hz3 hr3 ho3
       by_cases q1 : md < e
       ·by_cases q2 : e < c
        ·have HCC := Lib.hid (HIH.out (P ++ Z1) X2 Y2 S b N cap md e c w3 (by have := HL.out; have := HMM.out; omega) (by have := HL.out; omega) (by have := HL.out; omega) HR3.out (by have := HZ1.out.1; have := HL.out; simp only [List.length_append]; omega) (by have := HZ1.out.1; have := HL.out; simp only [List.length_append]; omega) (by have := HZ1.out.1; have := HL.out; simp only [List.length_append]; omega) (by have := HZ1.out.1; have := HL.out; simp only [List.length_append]; omega) HAS.out.2.1 HAS.out.2.2.2 hl)
         go_wp2_with fail
         try rw [HE.out]
         clear q1 q2
         refine HCC.out.mono ?_
         rintro e4 w4 ⟨rfl, Z2, hz1, hz2, hz3, hr4, ho4⟩
         have HZ2 : Hid (Z2.length = X2.length + Y2.length ∧ Asc Z2 ∧ Same (X2 ++ Y2) Z2) := Lib.hid ⟨hz1, hz2, hz3⟩
         have HR4 := Lib.hid hr4
         have HO4 := Lib.hid (HO3.out.trans ho4 fun _ _ e => e)
         clear hz1 hz2 hz3 hr4 ho4
         go_wp2_with fail
         go_returns
         exact ⟨rfl, Z1 ++ Z2, by have h1 := HZ1.out.1; have h2 := HZ2.out.1; have := HL.out; simp only [List.length_append]; omega, (HZZ.out Z1 Z2 HZ1.out.2.1 HZ2.out.2.1 HZ1.out.2.2 HZ2.out.2.2).1, (HZZ.out Z1 Z2 HZ1.out.2.1 HZ2.out.2.1 HZ1.out.2.2 HZ2.out.2.2).2, by simpa using HR4.out, HO4.out⟩
        ·have hz : X2.length = 0 ∨ Y2.length = 0 := by have := HL.out; omega
         obtain ⟨Z2, HZ2, HR4⟩ : ∃ Z2, Hid (Z2.length = X2.length + Y2.length ∧ Asc Z2 ∧ Same (X2 ++ Y2) Z2) ∧ Hid (Row w3 b ((P ++ Z1) ++ Z2 ++ S)) := ⟨X2 ++ Y2, Lib.hid ⟨List.length_append, asc_empty HAS.out.2.1 HAS.out.2.2.2 hz, Same.refl _⟩, Lib.hid (by simpa using HR3.out)⟩
         have HO4 := HO3
         clear hz
         go_wp2_with fail
         go_returns
         exact ⟨rfl, Z1 ++ Z2, by have h1 := HZ1.out.1; have h2 := HZ2.out.1; have := HL.out; simp only [List.length_append]; omega, (HZZ.out Z1 Z2 HZ1.out.2.1 HZ2.out.2.1 HZ1.out.2.2 HZ2.out.2.2).1, (HZZ.out Z1 Z2 HZ1.out.2.1 HZ2.out.2.1 HZ1.out.2.2 HZ2.out.2.2).2, by simpa using HR4.out, HO4.out⟩
       ·have hz : X2.length = 0 ∨ Y2.length = 0 := by have := HL.out; omega
        obtain ⟨Z2, HZ2, HR4⟩ : ∃ Z2, Hid (Z2.length = X2.length + Y2.length ∧ Asc Z2 ∧ Same (X2 ++ Y2) Z2) ∧ Hid (Row w3 b ((P ++ Z1) ++ Z2 ++ S)) := ⟨X2 ++ Y2, Lib.hid ⟨List.length_append, asc_empty HAS.out.2.1 HAS.out.2.2.2 hz, Same.refl _⟩, Lib.hid (by simpa using HR3.out)⟩
        have HO4 := HO3
        clear hz
        go_wp2_with fail
        go_returns
        exact ⟨rfl, Z1 ++ Z2, by have h1 := HZ1.out.1; have h2 := HZ2.out.1; have := HL.out; simp only [List.length_append]; omega, (HZZ.out Z1 Z2 HZ1.out.2.1 HZ2.out.2.1 HZ1.out.2.2 HZ2.out.2.2).1, (HZZ.out Z1 Z2 HZ1.out.2.1 HZ2.out.2.1 HZ1.out.2.2 HZ2.out.2.2).2, by simpa using HR4.out, HO4.out⟩
      ·have hz : X1.length = 0 ∨ Y1.length = 0 := by have := HL.out; omega
       obtain ⟨Z1, HZ1, HR3⟩ : ∃ Z1, Hid (Z1.length = X1.length + Y1.length ∧ Asc Z1 ∧ Same (X1 ++ Y1) Z1) ∧ Hid (Row wr b ((P ++ Z1) ++ X2 ++ Y2 ++ S)) := ⟨X1 ++ Y1, Lib.hid ⟨List.length_append, asc_empty HAS.out.1 HAS.out.2.2.1 hz, Same.refl _⟩, Lib.hid (by simpa using HR2.out)⟩
       have HO3 := HO2
       clear hz
       by_cases q1 : md < e
       ·by_cases q2 : e < c
        ·have HCC := Lib.hid (HIH.out (P ++ Z1) X2 Y2 S b N cap md e c wr (by have := HL.out; have := HMM.out; omega) (by have := HL.out; omega) (by have := HL.out; omega) HR3.out (by have := HZ1.out.1; have := HL.out; simp only [List.length_append]; omega) (by have := HZ1.out.1; have := HL.out; simp only [List.length_append]; omega) (by have := HZ1.out.1; have := HL.out; simp only [List.length_append]; omega) (by have := HZ1.out.1; have := HL.out; simp only [List.length_append]; omega) HAS.out.2.1 HAS.out.2.2.2 hl)
         go_wp2_with fail
         try rw [HE.out]
         clear q1 q2
         refine HCC.out.mono ?_
         rintro e4 w4 ⟨rfl, Z2, hz1, hz2, hz3, hr4, ho4⟩
         have HZ2 : Hid (Z2.length = X2.length + Y2.length ∧ Asc Z2 ∧ Same (X2 ++ Y2) Z2) := Lib.hid ⟨hz1, hz2, hz3⟩
         have HR4 := Lib.hid hr4
         have HO4 := Lib.hid (HO3.out.trans ho4 fun _ _ e => e)
         clear hz1 hz2 hz3 hr4 ho4
         go_wp2_with fail
         go_returns
         exact ⟨rfl, Z1 ++ Z2, by have h1 := HZ1.out.1; have h2 := HZ2.out.1; have := HL.out; simp only [List.length_append]; omega, (HZZ.out Z1 Z2 HZ1.out.2.1 HZ2.out.2.1 HZ1.out.2.2 HZ2.out.2.2).1, (HZZ.out Z1 Z2 HZ1.out.2.1 HZ2.out.2.1 HZ1.out.2.2 HZ2.out.2.2).2, by simpa using HR4.out, HO4.out⟩
        ·have hz : X2.length = 0 ∨ Y2.length = 0 := by have := HL.out; omega
         obtain ⟨Z2, HZ2, HR4⟩ : ∃ Z2, Hid (Z2.length = X2.length + Y2.length ∧ Asc Z2 ∧ Same (X2 ++ Y2) Z2) ∧ Hid (Row wr b ((P ++ Z1) ++ Z2 ++ S)) := ⟨X2 ++ Y2, Lib.hid ⟨List.length_append, asc_empty HAS.out.2.1 HAS.out.2.2.2 hz, Same.refl _⟩, Lib.hid (by simpa using HR3.out)⟩
         have HO4 := HO3
         clear hz
         go_wp2_with fail
         go_returns
         exact ⟨rfl, Z1 ++ Z2, by have h1 := HZ1.out.1; have h2 := HZ2.out.1; have := HL.out; simp only [List.length_append]; omega, (HZZ.out Z1 Z2 HZ1.out.2.1 HZ2.out.2.1 HZ1.out.2.2 HZ2.out.2.2).1, (HZZ.out Z1 Z2 HZ1.out.2.1 HZ2.out.2.1 HZ1.out.2.2 HZ2.out.2.2).2, by simpa using HR4.out, HO4.out⟩
       ·have hz : X2.length = 0 ∨ Y2.length = 0 := by have := HL.out; omega
        obtain ⟨Z2, HZ2, HR4⟩ : ∃ Z2, Hid (Z2.length = X2.length + Y2.length ∧ Asc Z2 ∧ Same (X2 ++ Y2) Z2) ∧ Hid (Row wr b ((P ++ Z1) ++ Z2 ++ S)) := ⟨X2 ++ Y2, Lib.hid ⟨List.length_append, asc_empty HAS.out.2.1 HAS.out.2.2.2 hz, Same.refl _⟩, Lib.hid (by simpa using HR3.out)⟩
        have HO4 := HO3
        clear hz
        go_wp2_with fail
        go_returns
        exact ⟨rfl, Z1 ++ Z2, by have h1 := HZ1.out.1; have h2 := HZ2.out.1; have := HL.out; simp only [List.length_append]; omega, (HZZ.out Z1 Z2 HZ1.out.2.1 HZ2.out.2.1 HZ1.out.2.2 HZ2.out.2.2).1, (HZZ.out Z1 Z2 HZ1.out.2.1 HZ2.out.2.1 HZ1.out.2.2 HZ2.out.2.2).2, by simpa using HR4.out, HO4.out⟩
     ·have hz : X1.length = 0 ∨ Y1.length = 0 := by have := HL.out; omega
      obtain ⟨Z1, HZ1, HR3⟩ : ∃ Z1, Hid (Z1.length = X1.length + Y1.length ∧ Asc Z1 ∧ Same (X1 ++ Y1) Z1) ∧ Hid (Row wr b ((P ++ Z1) ++ X2 ++ Y2 ++ S)) := ⟨X1 ++ Y1, Lib.hid ⟨List.length_append, asc_empty HAS.out.1 HAS.out.2.2.1 hz, Same.refl _⟩, Lib.hid (by simpa using HR2.out)⟩
      have HO3 := HO2
      clear hz
      by_cases q1 : md < e
      ·by_cases q2 : e < c
       ·have HCC := Lib.hid (HIH.out (P ++ Z1) X2 Y2 S b N cap md e c wr (by have := HL.out; have := HMM.out; omega) (by have := HL.out; omega) (by have := HL.out; omega) HR3.out (by have := HZ1.out.1; have := HL.out; simp only [List.length_append]; omega) (by have := HZ1.out.1; have := HL.out; simp only [List.length_append]; omega) (by have := HZ1.out.1; have := HL.out; simp only [List.length_append]; omega) (by have := HZ1.out.1; have := HL.out; simp only [List.length_append]; omega) HAS.out.2.1 HAS.out.2.2.2 hl)
        go_wp2_with fail
        try rw [HE.out]
        clear q1 q2
        refine HCC.out.mono ?_
        rintro e4 w4 ⟨rfl, Z2, hz1, hz2, hz3, hr4, ho4⟩
        have HZ2 : Hid (Z2.length = X2.length + Y2.length ∧ Asc Z2 ∧ Same (X2 ++ Y2) Z2) := Lib.hid ⟨hz1, hz2, hz3⟩
        have HR4 := Lib.hid hr4
        have HO4 := Lib.hid (HO3.out.trans ho4 fun _ _ e => e)
        clear hz1 hz2 hz3 hr4 ho4
        go_wp2_with fail
        go_returns
        exact ⟨rfl, Z1 ++ Z2, by have h1 := HZ1.out.1; have h2 := HZ2.out.1; have := HL.out; simp only [List.length_append]; omega, (HZZ.out Z1 Z2 HZ1.out.2.1 HZ2.out.2.1 HZ1.out.2.2 HZ2.out.2.2).1, (HZZ.out Z1 Z2 HZ1.out.2.1 HZ2.out.2.1 HZ1.out.2.2 HZ2.out.2.2).2, by simpa using HR4.out, HO4.out⟩
       ·have hz : X2.length = 0 ∨ Y2.length = 0 := by have := HL.out; omega
        obtain ⟨Z2, HZ2, HR4⟩ : ∃ Z2, Hid (Z2.length = X2.length + Y2.length ∧ Asc Z2 ∧ Same (X2 ++ Y2) Z2) ∧ Hid (Row wr b ((P ++ Z1) ++ Z2 ++ S)) := ⟨X2 ++ Y2, Lib.hid ⟨List.length_append, asc_empty HAS.out.2.1 HAS.out.2.2.2 hz, Same.refl _⟩, Lib.hid (by simpa using HR3.out)⟩
        have HO4 := HO3
        clear hz
        go_wp2_with fail
        go_returns
        exact ⟨rfl, Z1 ++ Z2, by have h1 := HZ1.out.1; have h2 := HZ2.out.1; have := HL.out; simp only [List.length_append]; omega, (HZZ.out Z1 Z2 HZ1.out.2.1 HZ2.out.2.1 HZ1.out.2.2 HZ2.out.2.2).1, (HZZ.out Z1 Z2 HZ1.out.2.1 HZ2.out.2.1 HZ1.out.2.2 HZ2.out.2.2).2, by simpa using HR4.out, HO4.out⟩
      ·have hz : X2.length = 0 ∨ Y2.length = 0 := by have := HL.out; omega
       obtain ⟨Z2, HZ2, HR4⟩ : ∃ Z2, Hid (Z2.length = X2.length + Y2.length ∧ Asc Z2 ∧ Same (X2 ++ Y2) Z2) ∧ Hid (Row wr b ((P ++ Z1) ++ Z2 ++ S)) := ⟨X2 ++ Y2, Lib.hid ⟨List.length_append, asc_empty HAS.out.2.1 HAS.out.2.2.2 hz, Same.refl _⟩, Lib.hid (by simpa using HR3.out)⟩
       have HO4 := HO3
       clear hz
       go_wp2_with fail
       go_returns
       exact ⟨rfl, Z1 ++ Z2, by have h1 := HZ1.out.1; have h2 := HZ2.out.1; have := HL.out; simp only [List.length_append]; omega, (HZZ.out Z1 Z2 HZ1.out.2.1 HZ2.out.2.1 HZ1.out.2.2 HZ2.out.2.2).1, (HZZ.out Z1 Z2 HZ1.out.2.1 HZ2.out.2.1 HZ1.out.2.2 HZ2.out.2.2).2, by simpa using HR4.out, HO4.out⟩
 ·obtain ⟨s0, hs0⟩ : ∃ s0, s0 = a := ⟨a, by omega⟩
  obtain ⟨r0, hr0⟩ : ∃ r0, r0 = m := ⟨_, rfl⟩
  have HS0 : Hid ((a : Int) = (s0 : Int)) := Lib.hid (by omega)
  have HR0 : Hid ((m : Int) = (r0 : Int)) := Lib.hid (by omega)
  have HG : Hid (a ≤ s0 ∧ s0 ≤ r0 ∧ r0 ≤ m ∧ r0 + m ≤ nn ∧ nn ≤ s0 + c ∧ (s0 = a ∨ s0 + c = nn) ∧ (r0 = m ∨ r0 + m = nn)) := Lib.hid (by omega)
  have hg2 : ¬ ((a : Int) + (c : Int)) / 2 < (m : Int) := by rw [HMD.out]; omega
  clear h hN ha hm hc hlen hX hY IH hs hmd hnn hpp hs0 hr0 hgt
  go_enter Try.func53, Try.ntmps53
  go_wp2_with fail
  clear hn1 hn2 hg2
  rw [HMD.out, HNN.out, HPP.out]
  go_loopw [20, 21, 23] (fun i j _ wr => ∃ (s t : Nat), i = .int .i64 (s : Int) ∧ j = .int .i64 (t : Int) ∧ s0 ≤ s ∧ s ≤ t ∧ t ≤ r0 ∧ Hid ((∀ k (hk : k < X.length) (hq : pp - (k + a) - m < Y.length), s0 ≤ k + a → k + a < s → X[k].cell ≤ Y[pp - (k + a) - m].cell) ∧ (∀ k (hk : k < X.length) (hq : pp - (k + a) - m < Y.length), t ≤ k + a → k + a < r0 → Y[pp - (k + a) - m].cell < X[k].cell) ∧ Row wr b (P ++ X ++ Y ++ S)) ∧ Below w.heap.size w wr) (fun i j _ _ => (intOf j).toNat - (intOf i).toNat)
  case atStart => exact ⟨s0, r0, by first | rfl | exact congrArg _ HS0.out, by first | rfl | exact congrArg _ HR0.out, Nat.le_refl _, HG.out.2.1, Nat.le_refl _, Lib.hid ⟨fun k hk hq h1 h2 => by omega, fun k hk hq h1 h2 => by omega, HR.out⟩, Below.refl _ _⟩
  case round =>
   obtain ⟨s, t, rfl, rfl, hs0s, hst, htr, hp, hbr⟩ := hrel
   have HBR := Lib.hid hbr
   have htm : t ≤ 1000000 := by have := HG.out; omega
   clear hbr
   by_cases hlt : s < t
   ·obtain ⟨hh, hhh⟩ : ∃ hh, hh = (s + t) / 2 := ⟨_, rfl⟩
    have HHE : Hid (((s : Int) + (t : Int)) / 2 = (hh : Int)) := Lib.hid (by rw [hhh]; omega)
    have hh1 : s ≤ hh := by omega
    have hh2 : hh < t := by omega
    obtain ⟨q, hq⟩ : ∃ q, q + hh = pp := ⟨pp - hh, by have := HG.out; have := HPN.out; omega⟩
    have HWV : Hid (IntKind.i64.wrap ((pp : Int) - (hh : Int)) = (q : Int)) := Lib.hid (by rw [show (pp : Int) - (hh : Int) = (q : Int) by omega]; exact IntWalk.i64_in _ (by omega))
    have hkx : hh - a < X.length := by have := HG.out; have := HM.out; omega
    have hky : q - m < Y.length := by have := HG.out; have := HPN.out; have := HC.out; omega
    have hmq : m ≤ q := by have := HG.out; have := HPN.out; omega
    have hah : a ≤ hh := by have := HG.out; omega
    obtain ⟨x, hx⟩ : ∃ x, x = X[hh - a] := ⟨_, rfl⟩
    obtain ⟨y, hy⟩ : ∃ y, y = Y[q - m] := ⟨_, rfl⟩
    obtain ⟨l, hll⟩ : ∃ l, l = P ++ X ++ Y ++ S := ⟨_, rfl⟩
    have HROW : Hid (Row wr b l) := Lib.hid (by rw [hll]; exact hp.out.2.2)
    have HXH : Hid (l[hh]? = some x) := Lib.hid (by
     have h1 := HAP.out
     rw [hll, hx, List.append_assoc, List.getElem?_append_left (by simp only [List.length_append]; omega), List.getElem?_append_right (by omega), show hh - P.length = hh - a by omega, List.getElem?_eq_getElem hkx])
    have HYH : Hid (l[q]? = some y) := Lib.hid (by
     have h1 := HAP.out
     have h2 := HM.out
     rw [hll, hy, List.getElem?_append_left (by simp only [List.length_append]; omega), List.getElem?_append_right (by simp only [List.length_append]; omega), show q - (P ++ X).length = q - m by simp only [List.length_append]; omega, List.getElem?_eq_getElem hky])
    have HHN : Hid (hh < N) := Lib.hid (by have := HM.out; have := HLEN.out; have := HAP.out; omega)
    have HQN : Hid (q < N) := Lib.hid (by have := HM.out; have := HC.out; have := HLEN.out; have := HAP.out; omega)
    have HLO : Hid (x.cell ≤ y.cell → ∀ k (hk : k < X.length) (hq : pp - (k + a) - m < Y.length), s0 ≤ k + a → k + a < hh + 1 → X[k].cell ≤ Y[pp - (k + a) - m].cell) := Lib.hid fun h k hk hq2 h1 h2 => by
     have g1 := asc_get HXA.out (i := k) (j := hh - a) (by omega) hkx
     have g2 := asc_get HYA.out (i := q - m) (j := pp - (k + a) - m) (by omega) hq2
     rw [← hx] at g1
     rw [← hy] at g2
     omega
    have HHI : Hid (y.cell < x.cell → ∀ k (hk : k < X.length) (hq : pp - (k + a) - m < Y.length), hh ≤ k + a → k + a < r0 → Y[pp - (k + a) - m].cell < X[k].cell) := Lib.hid fun h k hk hq2 h1 h2 => by
     have g1 := asc_get HXA.out (i := hh - a) (j := k) (by omega) hk
     have g2 := asc_get HYA.out (i := pp - (k + a) - m) (j := q - m) (by omega) hky
     rw [← hx] at g1
     rw [← hy] at g2
     omega
    have HRR : Hid (∀ w1, Row w1 b l → Row w1 b (P ++ X ++ Y ++ S)) := Lib.hid fun w1 h => by rw [← hll]; exact h
    clear hhh hkx hky hx hy hll hq hmq hah
    by_cases hcv : y.cell < x.cell
    ·have HCV : Hid (cmpI y.cell x.cell < 0) := Lib.hid ((cmp_neg _ _).2 hcv)
     have HH2 := Lib.hid (HHI.out hcv)
     clear hcv
     go_wp2_with fail
     rw [HHE.out]
     refine Reg.region_heavy (by kernel_rfl) 13 [13] (mgTG_t b N cap hh q pp x y) (fun a => Below wr.heap.size wr a) (fun a => Below wr.heap.size wr a) (fun V => [(some 158, V 0), (some 159, V 1), (some 160, V 2), (some 161, V 3), (some 162, V 4), (some 163, V 5), (some 164, V 6), (some 165, V 7), (some 166, V 8), (some 167, V 9), (some 168, V 10), (some 169, V 11), (some 170, V 12), (some 171, V 13)]) (by kernel_rfl) (by kernel_rfl) (by kernel_rfl) (fun V => rfl) ?_ ?_ ?_
     ·exact (Below.refl _ _).drew
     ·intro i o ho
      have hi : i < 14 := (Array.getElem?_eq_some_iff.1 ho).1
      rcases i with _ | _ | _ | _ | _ | _ | _ | _ | _ | _ | _ | _ | _ | _ | i
      rotate_right
      ·omega
      all_goals obtain rfl := Option.some.inj ho
      all_goals intro ρ wi hE hI hs hd
      all_goals try dsimp only at hI
      ·have e4 : ρ (.tmp 4) = .func (.func 44) #[] #[] := hs 4; exact Reg.gw hI
      ·have e0 : ρ (.tmp 0) = .slice (some ⟨b, 0, none⟩) N cap := hs 0; exact Reg.gw hI
      ·have e22 : ρ (.tmp 22) = .int .i64 (pp : Int) := hs 22; exact Reg.gw hI
      ·have e23 : ρ (.tmp 23) = .int .i64 (hh : Int) := hs 23; exact Reg.gw hI
      ·obtain ⟨_, rfl, e160⟩ := hd 2 160; obtain ⟨_, rfl, e161⟩ := hd 3 161; have hx := HWV.out; exact Reg.gw hI
      ·obtain ⟨_, rfl, e159⟩ := hd 1 159; obtain ⟨_, rfl, e162⟩ := hd 4 162; have hx := HQN.out; exact Reg.gw hI
      ·obtain ⟨_, rfl, e163⟩ := hd 5 163; have hit := (HROW.out.later hI).item HYH.out; have c0 := hit.cell; have c1 := hit.version; have c2 := hit.value; have c3 := hit.write; have c4 := hit.new; exact Reg.gw hI
      ·have e0 : ρ (.tmp 0) = .slice (some ⟨b, 0, none⟩) N cap := hs 0; exact Reg.gw hI
      ·have e23 : ρ (.tmp 23) = .int .i64 (hh : Int) := hs 23; exact Reg.gw hI
      ·obtain ⟨_, rfl, e165⟩ := hd 7 165; obtain ⟨_, rfl, e166⟩ := hd 8 166; have hx := HHN.out; exact Reg.gw hI
      ·obtain ⟨_, rfl, e167⟩ := hd 9 167; have hit := (HROW.out.later hI).item HXH.out; have c0 := hit.cell; have c1 := hit.version; have c2 := hit.value; have c3 := hit.write; have c4 := hit.new; exact Reg.gw hI
      ·obtain ⟨_, rfl, e158⟩ := hd 0 158; obtain ⟨_, rfl, e164⟩ := hd 6 164; obtain ⟨_, rfl, e168⟩ := hd 10 168
       refine Reg.Gives.call (f := 44) (args := #[.agg #[.int .i64 y.cell, .int .i64 y.version, .int .i64 y.value, .bool y.write, .int .i64 y.new], .agg #[.int .i64 x.cell, .int .i64 x.version, .int .i64 x.value, .bool x.write, .int .i64 x.new]]) (w' := wi) (by go_simp) ?_
       refine (cmp_any y x wi).mono ?_
       rintro e w'' ⟨rfl, hbb⟩
       exact ⟨_, rfl, ⟨rfl, hI.trans (hbb.mono hI.size), fun j u _ _ h => mgTG_t_later hbb h⟩⟩
      ·obtain ⟨_, rfl, e169⟩ := hd 11 169; have hc := hE.const; have hx := HCV.out; exact Reg.gw hI
      ·obtain ⟨_, rfl, e170⟩ := hd 12 170; exact Reg.gw hI
     ·intro V w1 hV hI
      have hV13 : V 13 = .bool false := hV 13 (by decide) rfl
      simp only [Reg.putsO, List.foldl_cons, List.foldl_nil, Act.put, List.setIfInBounds_toArray, List.set_cons_succ, List.set_cons_zero, hV13]
      replace hI : (fun a => Below wr.heap.size wr a) w1 := hI
      clear hV hV13
      have HBW := Lib.hid (HBR.out.trans (hI.mono HBR.out.size))
      have HRW := Lib.hid (HROW.out.later hI)
      clear hI
      go_wp2_with fail
      go_roundw
      case rel => exact ⟨s, hh, rfl, rfl, hs0s, by omega, by omega, Lib.hid ⟨hp.out.1, HH2.out, HRR.out _ HRW.out⟩, HBW.out⟩
      case measure => simp [intOf]; omega
    ·have HCV : Hid (0 ≤ cmpI y.cell x.cell) := Lib.hid (by have := cmp_neg y.cell x.cell; omega)
     have HL2 := Lib.hid (HLO.out (by omega))
     clear hcv
     go_wp2_with fail
     rw [HHE.out]
     refine Reg.region_heavy (by kernel_rfl) 13 [13] (mgTG_f b N cap hh q pp x y) (fun a => Below wr.heap.size wr a) (fun a => Below wr.heap.size wr a) (fun V => [(some 158, V 0), (some 159, V 1), (some 160, V 2), (some 161, V 3), (some 162, V 4), (some 163, V 5), (some 164, V 6), (some 165, V 7), (some 166, V 8), (some 167, V 9), (some 168, V 10), (some 169, V 11), (some 170, V 12), (some 171, V 13)]) (by kernel_rfl) (by kernel_rfl) (by kernel_rfl) (fun V => rfl) ?_ ?_ ?_
     ·exact (Below.refl _ _).drew
     ·intro i o ho
      have hi : i < 14 := (Array.getElem?_eq_some_iff.1 ho).1
      rcases i with _ | _ | _ | _ | _ | _ | _ | _ | _ | _ | _ | _ | _ | _ | i
      rotate_right
      ·omega
      all_goals obtain rfl := Option.some.inj ho
      all_goals intro ρ wi hE hI hs hd
      all_goals try dsimp only at hI
      ·have e4 : ρ (.tmp 4) = .func (.func 44) #[] #[] := hs 4; exact Reg.gw hI
      ·have e0 : ρ (.tmp 0) = .slice (some ⟨b, 0, none⟩) N cap := hs 0; exact Reg.gw hI
      ·have e22 : ρ (.tmp 22) = .int .i64 (pp : Int) := hs 22; exact Reg.gw hI
      ·have e23 : ρ (.tmp 23) = .int .i64 (hh : Int) := hs 23; exact Reg.gw hI
      ·obtain ⟨_, rfl, e160⟩ := hd 2 160; obtain ⟨_, rfl, e161⟩ := hd 3 161; have hx := HWV.out; exact Reg.gw hI
      ·obtain ⟨_, rfl, e159⟩ := hd 1 159; obtain ⟨_, rfl, e162⟩ := hd 4 162; have hx := HQN.out; exact Reg.gw hI
      ·obtain ⟨_, rfl, e163⟩ := hd 5 163; have hit := (HROW.out.later hI).item HYH.out; have c0 := hit.cell; have c1 := hit.version; have c2 := hit.value; have c3 := hit.write; have c4 := hit.new; exact Reg.gw hI
      ·have e0 : ρ (.tmp 0) = .slice (some ⟨b, 0, none⟩) N cap := hs 0; exact Reg.gw hI
      ·have e23 : ρ (.tmp 23) = .int .i64 (hh : Int) := hs 23; exact Reg.gw hI
      ·obtain ⟨_, rfl, e165⟩ := hd 7 165; obtain ⟨_, rfl, e166⟩ := hd 8 166; have hx := HHN.out; exact Reg.gw hI
      ·obtain ⟨_, rfl, e167⟩ := hd 9 167; have hit := (HROW.out.later hI).item HXH.out; have c0 := hit.cell; have c1 := hit.version; have c2 := hit.value; have c3 := hit.write; have c4 := hit.new; exact Reg.gw hI
      ·obtain ⟨_, rfl, e158⟩ := hd 0 158; obtain ⟨_, rfl, e164⟩ := hd 6 164; obtain ⟨_, rfl, e168⟩ := hd 10 168
       refine Reg.Gives.call (f := 44) (args := #[.agg #[.int .i64 y.cell, .int .i64 y.version, .int .i64 y.value, .bool y.write, .int .i64 y.new], .agg #[.int .i64 x.cell, .int .i64 x.version, .int .i64 x.value, .bool x.write, .int .i64 x.new]]) (w' := wi) (by go_simp) ?_
       refine (cmp_any y x wi).mono ?_
       rintro e w'' ⟨rfl, hbb⟩
       exact ⟨_, rfl, ⟨rfl, hI.trans (hbb.mono hI.size), fun j u _ _ h => mgTG_f_later hbb h⟩⟩
      ·obtain ⟨_, rfl, e169⟩ := hd 11 169; have hc := hE.const; have hx := HCV.out; exact Reg.gw hI
      ·obtain ⟨_, rfl, e170⟩ := hd 12 170; exact Reg.gw hI
     ·intro V w1 hV hI
      have hV13 : V 13 = .bool true := hV 13 (by decide) rfl
      simp only [Reg.putsO, List.foldl_cons, List.foldl_nil, Act.put, List.setIfInBounds_toArray, List.set_cons_succ, List.set_cons_zero, hV13]
      replace hI : (fun a => Below wr.heap.size wr a) w1 := hI
      clear hV hV13
      have HBW := Lib.hid (HBR.out.trans (hI.mono HBR.out.size))
      have HRW := Lib.hid (HROW.out.later hI)
      clear hI
      go_wp2_with fail
      go_roundw
      case rel => exact ⟨hh + 1, t, by go_num, rfl, by omega, by omega, htr, Lib.hid ⟨HL2.out, hp.out.2.1, HRR.out _ HRW.out⟩, HBW.out⟩
      case measure => simp [intOf]; omega
   ·obtain rfl : s = t := by omega
    have hidx : s - a ≤ X.length ∧ nn - s - m ≤ Y.length ∧ a ≤ s ∧ m + s ≤ nn := by have := HG.out; have := HM.out; have := HC.out; omega
    have hcut := cut_of HXA.out HYA.out (i := s - a) (j := nn - s - m) hidx.1 hidx.2.1 (fun k l h0 => by
     have h1 := HG.out
     have h2 := HM.out
     have h3 := HPN.out
     have e1 : pp - (s - a + a) - m = nn - s - m - 1 := by omega
     have g := hp.out.2.1 (s - a) k (by omega) (by omega) (by omega)
     simp only [e1] at g
     exact g) (fun k l h0 => by
     have h1 := HG.out
     have h2 := HC.out
     have h3 := HPN.out
     have e1 : pp - (s - a - 1 + a) - m = nn - s - m := by omega
     have g := hp.out.1 (s - a - 1) k (by omega) (by omega) (by omega)
     simp only [e1] at g
     exact g)
    obtain ⟨X1, X2, Y1, Y2, hX12, hY12, hX1, hY1, hlt12, hle12⟩ := hcut
    obtain ⟨e, he⟩ : ∃ e, e + s = nn := ⟨nn - s, by omega⟩
    have hxl : X1.length + X2.length = X.length := by rw [hX12, List.length_append]
    have hyl : Y1.length + Y2.length = Y.length := by rw [hY12, List.length_append]
    have HL : Hid (P.length + X1.length = s ∧ s + X2.length = m ∧ m + Y1.length = e ∧ e + Y2.length = c ∧ a + X1.length + Y1.length = md ∧ md + X2.length = e ∧ a + X1.length = s ∧ N = P.length + X1.length + X2.length + Y1.length + Y2.length + S.length ∧ X1.length + X2.length + Y1.length + Y2.length ≤ n0 + 1 ∧ X1.length + X2.length + Y1.length + Y2.length = X.length + Y.length) := Lib.hid (by have := HM.out; have := HC.out; have := HNM.out; have := HAP.out; have := HLEN.out; have := HSZ.out; omega)
    have HE : Hid ((nn : Int) - (s : Int) = (e : Int)) := Lib.hid (by omega)
    have hec : e ≤ 1000000 := by have := HL.out; omega
    have HZZ : Hid (∀ Z1 Z2, Asc Z1 → Asc Z2 → Same (X1 ++ Y1) Z1 → Same (X2 ++ Y2) Z2 → Asc (Z1 ++ Z2) ∧ Same (X ++ Y) (Z1 ++ Z2)) := Lib.hid fun Z1 Z2 a1 a2 s1 s2 => ⟨asc_join (by rw [← hX12]; exact HXA.out) (by rw [← hY12]; exact HYA.out) hlt12 hle12 a1 a2 s1 s2, by rw [hX12, hY12]; exact same_join hlt12 s1 s2⟩
    have HAS : Hid (Asc X1 ∧ Asc X2 ∧ Asc Y1 ∧ Asc Y2) := Lib.hid (by
     have h1 := HXA.out
     have h2 := HYA.out
     rw [hX12] at h1
     rw [hY12] at h2
     exact ⟨h1.left, h1.right, h2.left, h2.right⟩)
    have HRX : Hid (Row wr b (P ++ X1 ++ X2 ++ Y1 ++ Y2 ++ S)) := Lib.hid (by have h1 := hp.out.2.2; rw [hX12, hY12] at h1; simpa using h1)
    have HO1 : Hid (Only (fun j => j = b) w wr) := Lib.hid ((Only.of_below (S := fun _ => False) HBR.out).mono fun _ _ e => e.elim)
    clear hp hidx hX12 hY12 hX1 hY1 hlt12 hle12 hxl hyl
    by_cases q1 : s < m
    ·by_cases q2 : m < e
     ·have HCC := Lib.hid (rotate_any (P ++ X1) X2 Y1 (Y2 ++ S) b N cap s m e (.func (.func 44) #[] #[]) wr (by simpa using HRX.out) (by have := HL.out; simp only [List.length_append]; omega) (by have := HL.out; simp only [List.length_append]; omega) (by have := HL.out; simp only [List.length_append]; omega) (by have := HL.out; simp only [List.length_append]; omega) (by have := HL.out; omega) (by have := HL.out; omega) hl)
      go_wp2_with fail
      rw [HE.out]
      clear q1 q2
      refine HCC.out.mono ?_
      rintro e2 w2 ⟨rfl, hr2, ho2⟩
      have HR2 : Hid (Row w2 b (P ++ X1 ++ Y1 ++ X2 ++ Y2 ++ S)) := Lib.hid (by simpa using hr2)
      have HO2 := Lib.hid (HO1.out.trans ho2 fun _ _ e => e)
      clear hr2 ho2
      by_cases q1 : a < s
      ·by_cases q2 : s < md
       ·have HCC := Lib.hid (HIH.out P X1 Y1 (X2 ++ Y2 ++ S) b N cap a s md w2 (by have := HL.out; have := HMM.out; omega) (by have := HL.out; omega) (by have := HL.out; omega) (by simpa using HR2.out) (by have := HL.out; simp only [List.length_append]; omega) (by have := HAP.out; omega) (by have := HL.out; omega) (by have := HL.out; omega) HAS.out.1 HAS.out.2.2.1 hl)
        go_wp2_with fail
        clear q1 q2
        refine HCC.out.mono ?_
        rintro e3 w3 ⟨rfl, Z1, hz1, hz2, hz3, hr3, ho3⟩
        have HZ1 : Hid (Z1.length = X1.length + Y1.length ∧ Asc Z1 ∧ Same (X1 ++ Y1) Z1) := Lib.hid ⟨hz1, hz2, hz3⟩
        have HR3 : Hid (Row w3 b ((P ++ Z1) ++ X2 ++ Y2 ++ S)) := Lib.hid (by simpa using hr3)
        have HO3 := Lib.hid (HO2.out.trans ho3 fun _ _ e => e)
        clear hz1 hz2 hz3 hr3 ho3
        by_cases q1 : md < e
        ·by_cases q2 : e < c
         ·have HCC := Lib.hid (HIH.out (P ++ Z1) X2 Y2 S b N cap md e c w3 (by have := HL.out; have := HMM.out; omega) (by have := HL.out; omega) (by have := HL.out; omega) HR3.out (by have := HZ1.out.1; have := HL.out; simp only [List.length_append]; omega) (by have := HZ1.out.1; have := HL.out; simp only [List.length_append]; omega) (by have := HZ1.out.1; have := HL.out; simp only [List.length_append]; omega) (by have := HZ1.out.1; have := HL.out; simp only [List.length_append]; omega) HAS.out.2.1 HAS.out.2.2.2 hl)
          go_wp2_with fail
          try rw [HE.out]
          clear q1 q2
          refine HCC.out.mono ?_
          rintro e4 w4 ⟨rfl, Z2, hz1, hz2, hz3, hr4, ho4⟩
          have HZ2 : Hid (Z2.length = X2.length + Y2.length ∧ Asc Z2 ∧ Same (X2 ++ Y2) Z2) := Lib.hid ⟨hz1, hz2, hz3⟩
          have HR4 := Lib.hid hr4
          have HO4 := Lib.hid (HO3.out.trans ho4 fun _ _ e => e)
          clear hz1 hz2 hz3 hr4 ho4
          go_wp2_with fail
          go_returns
          exact ⟨rfl, Z1 ++ Z2, by have h1 := HZ1.out.1; have h2 := HZ2.out.1; have := HL.out; simp only [List.length_append]; omega, (HZZ.out Z1 Z2 HZ1.out.2.1 HZ2.out.2.1 HZ1.out.2.2 HZ2.out.2.2).1, (HZZ.out Z1 Z2 HZ1.out.2.1 HZ2.out.2.1 HZ1.out.2.2 HZ2.out.2.2).2, by simpa using HR4.out, HO4.out⟩
         ·have hz : X2.length = 0 ∨ Y2.length = 0 := by have := HL.out; omega
          obtain ⟨Z2, HZ2, HR4⟩ : ∃ Z2, Hid (Z2.length = X2.length + Y2.length ∧ Asc Z2 ∧ Same (X2 ++ Y2) Z2) ∧ Hid (Row w3 b ((P ++ Z1) ++ Z2 ++ S)) := ⟨X2 ++ Y2, Lib.hid ⟨List.length_append, asc_empty HAS.out.2.1 HAS.out.2.2.2 hz, Same.refl _⟩, Lib.hid (by simpa using HR3.out)⟩
          have HO4 := HO3
          clear hz
          go_wp2_with fail
          go_returns
          exact ⟨rfl, Z1 ++ Z2, by have h1 := HZ1.out.1; have h2 := HZ2.out.1; have := HL.out; simp only [List.length_append]; omega, (HZZ.out Z1 Z2 HZ1.out.2.1 HZ2.out.2.1 HZ1.out.2.2 HZ2.out.2.2).1, (HZZ.out Z1 Z2 HZ1.out.2.1 HZ2.out.2.1 HZ1.out.2.2 HZ2.out.2.2).2, by simpa using HR4.out, HO4.out⟩
        ·have hz : X2.length = 0 ∨ Y2.length = 0 := by have := HL.out; omega
         obtain ⟨Z2, HZ2, HR4⟩ : ∃ Z2, Hid (Z2.length = X2.length + Y2.length ∧ Asc Z2 ∧ Same (X2 ++ Y2) Z2) ∧ Hid (Row w3 b ((P ++ Z1) ++ Z2 ++ S)) := ⟨X2 ++ Y2, Lib.hid ⟨List.length_append, asc_empty HAS.out.2.1 HAS.out.2.2.2 hz, Same.refl _⟩, Lib.hid (by simpa using HR3.out)⟩
         have HO4 := HO3
         clear hz
         go_wp2_with fail
         go_returns
         exact ⟨rfl, Z1 ++ Z2, by have h1 := HZ1.out.1; have h2 := HZ2.out.1; have := HL.out; simp only [List.length_append]; omega, (HZZ.out Z1 Z2 HZ1.out.2.1 HZ2.out.2.1 HZ1.out.2.2 HZ2.out.2.2).1, (HZZ.out Z1 Z2 HZ1.out.2.1 HZ2.out.2.1 HZ1.out.2.2 HZ2.out.2.2).2, by simpa using HR4.out, HO4.out⟩
       ·have hz : X1.length = 0 ∨ Y1.length = 0 := by have := HL.out; omega
        obtain ⟨Z1, HZ1, HR3⟩ : ∃ Z1, Hid (Z1.length = X1.length + Y1.length ∧ Asc Z1 ∧ Same (X1 ++ Y1) Z1) ∧ Hid (Row w2 b ((P ++ Z1) ++ X2 ++ Y2 ++ S)) := ⟨X1 ++ Y1, Lib.hid ⟨List.length_append, asc_empty HAS.out.1 HAS.out.2.2.1 hz, Same.refl _⟩, Lib.hid (by simpa using HR2.out)⟩
        have HO3 := HO2
        clear hz
        by_cases q1 : md < e
        ·by_cases q2 : e < c
         ·have HCC := Lib.hid (HIH.out (P ++ Z1) X2 Y2 S b N cap md e c w2 (by have := HL.out; have := HMM.out; omega) (by have := HL.out; omega) (by have := HL.out; omega) HR3.out (by have := HZ1.out.1; have := HL.out; simp only [List.length_append]; omega) (by have := HZ1.out.1; have := HL.out; simp only [List.length_append]; omega) (by have := HZ1.out.1; have := HL.out; simp only [List.length_append]; omega) (by have := HZ1.out.1; have := HL.out; simp only [List.length_append]; omega) HAS.out.2.1 HAS.out.2.2.2 hl)
          go_wp2_with fail
          try rw [HE.out]
          clear q1 q2
          refine HCC.out.mono ?_
          rintro e4 w4 ⟨rfl, Z2, hz1, hz2, hz3, hr4, ho4⟩
          have HZ2 : Hid (Z2.length = X2.length + Y2.length ∧ Asc Z2 ∧ Same (X2 ++ Y2) Z2) := Lib.hid ⟨hz1, hz2, hz3⟩
          have HR4 := Lib.hid hr4
          have HO4 := Lib.hid (HO3.out.trans ho4 fun _ _ e => e)
          clear hz1 hz2 hz3 hr4 ho4
          go_wp2_with fail
          go_returns
          exact ⟨rfl, Z1 ++ Z2, by have h1 := HZ1.out.1; have h2 := HZ2.out.1; have := HL.out; simp only [List.length_append]; omega, (HZZ.out Z1 Z2 HZ1.out.2.1 HZ2.out.2.1 HZ1.out.2.2 HZ2.out.2.2).1, (HZZ.out Z1 Z2 HZ1.out.2.1 HZ2.out.2.1 HZ1.out.2.2 HZ2.out.2.2).2, by simpa using HR4.out, HO4.out⟩
         ·have hz : X2.length = 0 ∨ Y2.length = 0 := by have := HL.out; omega
          obtain ⟨Z2, HZ2, HR4⟩ : ∃ Z2, Hid (Z2.length = X2.length + Y2.length ∧ Asc Z2 ∧ Same (X2 ++ Y2) Z2) ∧ Hid (Row w2 b ((P ++ Z1) ++ Z2 ++ S)) := ⟨X2 ++ Y2, Lib.hid ⟨List.length_append, asc_empty HAS.out.2.1 HAS.out.2.2.2 hz, Same.refl _⟩, Lib.hid (by simpa using HR3.out)⟩
          have HO4 := HO3
          clear hz
          go_wp2_with fail
          go_returns
          exact ⟨rfl, Z1 ++ Z2, by have h1 := HZ1.out.1; have h2 := HZ2.out.1; have := HL.out; simp only [List.length_append]; omega, (HZZ.out Z1 Z2 HZ1.out.2.1 HZ2.out.2.1 HZ1.out.2.2 HZ2.out.2.2).1, (HZZ.out Z1 Z2 HZ1.out.2.1 HZ2.out.2.1 HZ1.out.2.2 HZ2.out.2.2).2, by simpa using HR4.out, HO4.out⟩
        ·have hz : X2.length = 0 ∨ Y2.length = 0 := by have := HL.out; omega
         obtain ⟨Z2, HZ2, HR4⟩ : ∃ Z2, Hid (Z2.length = X2.length + Y2.length ∧ Asc Z2 ∧ Same (X2 ++ Y2) Z2) ∧ Hid (Row w2 b ((P ++ Z1) ++ Z2 ++ S)) := ⟨X2 ++ Y2, Lib.hid ⟨List.length_append, asc_empty HAS.out.2.1 HAS.out.2.2.2 hz, Same.refl _⟩, Lib.hid (by simpa using HR3.out)⟩
         have HO4 := HO3
         clear hz
         go_wp2_with fail
         go_returns
         exact ⟨rfl, Z1 ++ Z2, by have h1 := HZ1.out.1; have h2 := HZ2.out.1; have := HL.out; simp only [List.length_append]; omega, (HZZ.out Z1 Z2 HZ1.out.2.1 HZ2.out.2.1 HZ1.out.2.2 HZ2.out.2.2).1, (HZZ.out Z1 Z2 HZ1.out.2.1 HZ2.out.2.1 HZ1.out.2.2 HZ2.out.2.2).2, by simpa using HR4.out, HO4.out⟩
      ·have hz : X1.length = 0 ∨ Y1.length = 0 := by have := HL.out; omega
       obtain ⟨Z1, HZ1, HR3⟩ : ∃ Z1, Hid (Z1.length = X1.length + Y1.length ∧ Asc Z1 ∧ Same (X1 ++ Y1) Z1) ∧ Hid (Row w2 b ((P ++ Z1) ++ X2 ++ Y2 ++ S)) := ⟨X1 ++ Y1, Lib.hid ⟨List.length_append, asc_empty HAS.out.1 HAS.out.2.2.1 hz, Same.refl _⟩, Lib.hid (by simpa using HR2.out)⟩
       have HO3 := HO2
       clear hz
       by_cases q1 : md < e
       ·by_cases q2 : e < c
        ·have HCC := Lib.hid (HIH.out (P ++ Z1) X2 Y2 S b N cap md e c w2 (by have := HL.out; have := HMM.out; omega) (by have := HL.out; omega) (by have := HL.out; omega) HR3.out (by have := HZ1.out.1; have := HL.out; simp only [List.length_append]; omega) (by have := HZ1.out.1; have := HL.out; simp only [List.length_append]; omega) (by have := HZ1.out.1; have := HL.out; simp only [List.length_append]; omega) (by have := HZ1.out.1; have := HL.out; simp only [List.length_append]; omega) HAS.out.2.1 HAS.out.2.2.2 hl)
         go_wp2_with fail
         try rw [HE.out]
         clear q1 q2
         refine HCC.out.mono ?_
         rintro e4 w4 ⟨rfl, Z2, hz1, hz2, hz3, hr4, ho4⟩
         have HZ2 : Hid (Z2.length = X2.length + Y2.length ∧ Asc Z2 ∧ Same (X2 ++ Y2) Z2) := Lib.hid ⟨hz1, hz2, hz3⟩
         have HR4 := Lib.hid hr4
         have HO4 := Lib.hid (HO3.out.trans ho4 fun _ _ e => e)
         clear hz1 hz2 hz3 hr4 ho4
         go_wp2_with fail
         go_returns
         exact ⟨rfl, Z1 ++ Z2, by have h1 := HZ1.out.1; have h2 := HZ2.out.1; have := HL.out; simp only [List.length_append]; omega, (HZZ.out Z1 Z2 HZ1.out.2.1 HZ2.out.2.1 HZ1.out.2.2 HZ2.out.2.2).1, (HZZ.out Z1 Z2 HZ1.out.2.1 HZ2.out.2.1 HZ1.out.2.2 HZ2.out.2.2).2, by simpa using HR4.out, HO4.out⟩
        ·have hz : X2.length = 0 ∨ Y2.length = 0 := by have := HL.out; omega
         obtain ⟨Z2, HZ2, HR4⟩ : ∃ Z2, Hid (Z2.length = X2.length + Y2.length ∧ Asc Z2 ∧ Same (X2 ++ Y2) Z2) ∧ Hid (Row w2 b ((P ++ Z1) ++ Z2 ++ S)) := ⟨X2 ++ Y2, Lib.hid ⟨List.length_append, asc_empty HAS.out.2.1 HAS.out.2.2.2 hz, Same.refl _⟩, Lib.hid (by simpa using HR3.out)⟩
         have HO4 := HO3
         clear hz
         go_wp2_with fail
         go_returns
         exact ⟨rfl, Z1 ++ Z2, by have h1 := HZ1.out.1; have h2 := HZ2.out.1; have := HL.out; simp only [List.length_append]; omega, (HZZ.out Z1 Z2 HZ1.out.2.1 HZ2.out.2.1 HZ1.out.2.2 HZ2.out.2.2).1, (HZZ.out Z1 Z2 HZ1.out.2.1 HZ2.out.2.1 HZ1.out.2.2 HZ2.out.2.2).2, by simpa using HR4.out, HO4.out⟩
       ·have hz : X2.length = 0 ∨ Y2.length = 0 := by have := HL.out; omega
        obtain ⟨Z2, HZ2, HR4⟩ : ∃ Z2, Hid (Z2.length = X2.length + Y2.length ∧ Asc Z2 ∧ Same (X2 ++ Y2) Z2) ∧ Hid (Row w2 b ((P ++ Z1) ++ Z2 ++ S)) := ⟨X2 ++ Y2, Lib.hid ⟨List.length_append, asc_empty HAS.out.2.1 HAS.out.2.2.2 hz, Same.refl _⟩, Lib.hid (by simpa using HR3.out)⟩
        have HO4 := HO3
        clear hz
        go_wp2_with fail
        go_returns
        exact ⟨rfl, Z1 ++ Z2, by have h1 := HZ1.out.1; have h2 := HZ2.out.1; have := HL.out; simp only [List.length_append]; omega, (HZZ.out Z1 Z2 HZ1.out.2.1 HZ2.out.2.1 HZ1.out.2.2 HZ2.out.2.2).1, (HZZ.out Z1 Z2 HZ1.out.2.1 HZ2.out.2.1 HZ1.out.2.2 HZ2.out.2.2).2, by simpa using HR4.out, HO4.out⟩
     ·have hz : X2.length = 0 ∨ Y1.length = 0 := by have := HL.out; omega
      have HR2 : Hid (Row wr b (P ++ X1 ++ Y1 ++ X2 ++ Y2 ++ S)) := Lib.hid (by
       have h1 := HRX.out
       rw [show P ++ X1 ++ X2 ++ Y1 ++ Y2 ++ S = P ++ X1 ++ (X2 ++ Y1) ++ Y2 ++ S by simp, swap_empty hz] at h1
       simpa using h1)
      have HO2 := HO1
      clear hz
      by_cases q1 : a < s
      ·by_cases q2 : s < md
       ·have HCC := Lib.hid (HIH.out P X1 Y1 (X2 ++ Y2 ++ S) b N cap a s md wr (by have := HL.out; have := HMM.out; omega) (by have := HL.out; omega) (by have := HL.out; omega) (by simpa using HR2.out) (by have := HL.out; simp only [List.length_append]; omega) (by have := HAP.out; omega) (by have := HL.out; omega) (by have := HL.out; omega) HAS.out.1 HAS.out.2.2.1 hl)
        go_wp2_with fail
        clear q1 q2
        refine HCC.out.mono ?_
        rintro e3 w3 ⟨rfl, Z1, hz1, hz2, hz3, hr3, ho3⟩
        have HZ1 : Hid (Z1.length = X1.length + Y1.length ∧ Asc Z1 ∧ Same (X1 ++ Y1) Z1) := Lib.hid ⟨hz1, hz2, hz3⟩
        have HR3 : Hid (Row w3 b ((P ++ Z1) ++ X2 ++ Y2 ++ S)) := Lib.hid (by simpa using hr3)
        have HO3 := Lib.hid (HO2.out.trans ho3 fun _ _ e => e)
        clear hz1 hz2 hz3 hr3 ho3
        by_cases q1 : md < e
        ·by_cases q2 : e < c
         ·have HCC := Lib.hid (HIH.out (P ++ Z1) X2 Y2 S b N cap md e c w3 (by have := HL.out; have := HMM.out; omega) (by have := HL.out; omega) (by have := HL.out; omega) HR3.out (by have := HZ1.out.1; have := HL.out; simp only [List.length_append]; omega) (by have := HZ1.out.1; have := HL.out; simp only [List.length_append]; omega) (by have := HZ1.out.1; have := HL.out; simp only [List.length_append]; omega) (by have := HZ1.out.1; have := HL.out; simp only [List.length_append]; omega) HAS.out.2.1 HAS.out.2.2.2 hl)
          go_wp2_with fail
          try rw [HE.out]
          clear q1 q2
          refine HCC.out.mono ?_
          rintro e4 w4 ⟨rfl, Z2, hz1, hz2, hz3, hr4, ho4⟩
          have HZ2 : Hid (Z2.length = X2.length + Y2.length ∧ Asc Z2 ∧ Same (X2 ++ Y2) Z2) := Lib.hid ⟨hz1, hz2, hz3⟩
          have HR4 := Lib.hid hr4
          have HO4 := Lib.hid (HO3.out.trans ho4 fun _ _ e => e)
          clear hz1 hz2 hz3 hr4 ho4
          go_wp2_with fail
          go_returns
          exact ⟨rfl, Z1 ++ Z2, by have h1 := HZ1.out.1; have h2 := HZ2.out.1; have := HL.out; simp only [List.length_append]; omega, (HZZ.out Z1 Z2 HZ1.out.2.1 HZ2.out.2.1 HZ1.out.2.2 HZ2.out.2.2).1, (HZZ.out Z1 Z2 HZ1.out.2.1 HZ2.out.2.1 HZ1.out.2.2 HZ2.out.2.2).2, by simpa using HR4.out, HO4.out⟩
         ·have hz : X2.length = 0 ∨ Y2.length = 0 := by have := HL.out; omega
          obtain ⟨Z2, HZ2, HR4⟩ : ∃ Z2, Hid (Z2.length = X2.length + Y2.length ∧ Asc Z2 ∧ Same (X2 ++ Y2) Z2) ∧ Hid (Row w3 b ((P ++ Z1) ++ Z2 ++ S)) := ⟨X2 ++ Y2, Lib.hid ⟨List.length_append, asc_empty HAS.out.2.1 HAS.out.2.2.2 hz, Same.refl _⟩, Lib.hid (by simpa using HR3.out)⟩
          have HO4 := HO3
          clear hz
          go_wp2_with fail
          go_returns
          exact ⟨rfl, Z1 ++ Z2, by have h1 := HZ1.out.1; have h2 := HZ2.out.1; have := HL.out; simp only [List.length_append]; omega, (HZZ.out Z1 Z2 HZ1.out.2.1 HZ2.out.2.1 HZ1.out.2.2 HZ2.out.2.2).1, (HZZ.out Z1 Z2 HZ1.out.2.1 HZ2.out.2.1 HZ1.out.2.2 HZ2.out.2.2).2, by simpa using HR4.out, HO4.out⟩
        ·have hz : X2.length = 0 ∨ Y2.length = 0 := by have := HL.out; omega
         obtain ⟨Z2, HZ2, HR4⟩ : ∃ Z2, Hid (Z2.length = X2.length + Y2.length ∧ Asc Z2 ∧ Same (X2 ++ Y2) Z2) ∧ Hid (Row w3 b ((P ++ Z1) ++ Z2 ++ S)) := ⟨X2 ++ Y2, Lib.hid ⟨List.length_append, asc_empty HAS.out.2.1 HAS.out.2.2.2 hz, Same.refl _⟩, Lib.hid (by simpa using HR3.out)⟩
         have HO4 := HO3
         clear hz
         go_wp2_with fail
         go_returns
         exact ⟨rfl, Z1 ++ Z2, by have h1 := HZ1.out.1; have h2 := HZ2.out.1; have := HL.out; simp only [List.length_append]; omega, (HZZ.out Z1 Z2 HZ1.out.2.1 HZ2.out.2.1 HZ1.out.2.2 HZ2.out.2.2).1, (HZZ.out Z1 Z2 HZ1.out.2.1 HZ2.out.2.1 HZ1.out.2.2 HZ2.out.2.2).2, by simpa using HR4.out, HO4.out⟩
       ·have hz : X1.length = 0 ∨ Y1.length = 0 := by have := HL.out; omega
        obtain ⟨Z1, HZ1, HR3⟩ : ∃ Z1, Hid (Z1.length = X1.length + Y1.length ∧ Asc Z1 ∧ Same (X1 ++ Y1) Z1) ∧ Hid (Row wr b ((P ++ Z1) ++ X2 ++ Y2 ++ S)) := ⟨X1 ++ Y1, Lib.hid ⟨List.length_append, asc_empty HAS.out.1 HAS.out.2.2.1 hz, Same.refl _⟩, Lib.hid (by simpa using HR2.out)⟩
        have HO3 := HO2
        clear hz
        by_cases q1 : md < e
        ·by_cases q2 : e < c
         ·have HCC := Lib.hid (HIH.out (P ++ Z1) X2 Y2 S b N cap md e c wr (by have := HL.out; have := HMM.out; omega) (by have := HL.out; omega) (by have := HL.out; omega) HR3.out (by have := HZ1.out.1; have := HL.out; simp only [List.length_append]; omega) (by have := HZ1.out.1; have := HL.out; simp only [List.length_append]; omega) (by have := HZ1.out.1; have := HL.out; simp only [List.length_append]; omega) (by have := HZ1.out.1; have := HL.out; simp only [List.length_append]; omega) HAS.out.2.1 HAS.out.2.2.2 hl)
          go_wp2_with fail
          try rw [HE.out]
          clear q1 q2
          refine HCC.out.mono ?_
          rintro e4 w4 ⟨rfl, Z2, hz1, hz2, hz3, hr4, ho4⟩
          have HZ2 : Hid (Z2.length = X2.length + Y2.length ∧ Asc Z2 ∧ Same (X2 ++ Y2) Z2) := Lib.hid ⟨hz1, hz2, hz3⟩
          have HR4 := Lib.hid hr4
          have HO4 := Lib.hid (HO3.out.trans ho4 fun _ _ e => e)
          clear hz1 hz2 hz3 hr4 ho4
          go_wp2_with fail
          go_returns
          exact ⟨rfl, Z1 ++ Z2, by have h1 := HZ1.out.1; have h2 := HZ2.out.1; have := HL.out; simp only [List.length_append]; omega, (HZZ.out Z1 Z2 HZ1.out.2.1 HZ2.out.2.1 HZ1.out.2.2 HZ2.out.2.2).1, (HZZ.out Z1 Z2 HZ1.out.2.1 HZ2.out.2.1 HZ1.out.2.2 HZ2.out.2.2).2, by simpa using HR4.out, HO4.out⟩
         ·have hz : X2.length = 0 ∨ Y2.length = 0 := by have := HL.out; omega
          obtain ⟨Z2, HZ2, HR4⟩ : ∃ Z2, Hid (Z2.length = X2.length + Y2.length ∧ Asc Z2 ∧ Same (X2 ++ Y2) Z2) ∧ Hid (Row wr b ((P ++ Z1) ++ Z2 ++ S)) := ⟨X2 ++ Y2, Lib.hid ⟨List.length_append, asc_empty HAS.out.2.1 HAS.out.2.2.2 hz, Same.refl _⟩, Lib.hid (by simpa using HR3.out)⟩
          have HO4 := HO3
          clear hz
          go_wp2_with fail
          go_returns
          exact ⟨rfl, Z1 ++ Z2, by have h1 := HZ1.out.1; have h2 := HZ2.out.1; have := HL.out; simp only [List.length_append]; omega, (HZZ.out Z1 Z2 HZ1.out.2.1 HZ2.out.2.1 HZ1.out.2.2 HZ2.out.2.2).1, (HZZ.out Z1 Z2 HZ1.out.2.1 HZ2.out.2.1 HZ1.out.2.2 HZ2.out.2.2).2, by simpa using HR4.out, HO4.out⟩
        ·have hz : X2.length = 0 ∨ Y2.length = 0 := by have := HL.out; omega
         obtain ⟨Z2, HZ2, HR4⟩ : ∃ Z2, Hid (Z2.length = X2.length + Y2.length ∧ Asc Z2 ∧ Same (X2 ++ Y2) Z2) ∧ Hid (Row wr b ((P ++ Z1) ++ Z2 ++ S)) := ⟨X2 ++ Y2, Lib.hid ⟨List.length_append, asc_empty HAS.out.2.1 HAS.out.2.2.2 hz, Same.refl _⟩, Lib.hid (by simpa using HR3.out)⟩
         have HO4 := HO3
         clear hz
         go_wp2_with fail
         go_returns
         exact ⟨rfl, Z1 ++ Z2, by have h1 := HZ1.out.1; have h2 := HZ2.out.1; have := HL.out; simp only [List.length_append]; omega, (HZZ.out Z1 Z2 HZ1.out.2.1 HZ2.out.2.1 HZ1.out.2.2 HZ2.out.2.2).1, (HZZ.out Z1 Z2 HZ1.out.2.1 HZ2.out.2.1 HZ1.out.2.2 HZ2.out.2.2).2, by simpa using HR4.out, HO4.out⟩
      ·have hz : X1.length = 0 ∨ Y1.length = 0 := by have := HL.out; omega
       obtain ⟨Z1, HZ1, HR3⟩ : ∃ Z1, Hid (Z1.length = X1.length + Y1.length ∧ Asc Z1 ∧ Same (X1 ++ Y1) Z1) ∧ Hid (Row wr b ((P ++ Z1) ++ X2 ++ Y2 ++ S)) := ⟨X1 ++ Y1, Lib.hid ⟨List.length_append, asc_empty HAS.out.1 HAS.out.2.2.1 hz, Same.refl _⟩, Lib.hid (by simpa using HR2.out)⟩
       have HO3 := HO2
       clear hz
       by_cases q1 : md < e
       ·by_cases q2 : e < c
        ·have HCC := Lib.hid (HIH.out (P ++ Z1) X2 Y2 S b N cap md e c wr (by have := HL.out; have := HMM.out; omega) (by have := HL.out; omega) (by have := HL.out; omega) HR3.out (by have := HZ1.out.1; have := HL.out; simp only [List.length_append]; omega) (by have := HZ1.out.1; have := HL.out; simp only [List.length_append]; omega) (by have := HZ1.out.1; have := HL.out; simp only [List.length_append]; omega) (by have := HZ1.out.1; have := HL.out; simp only [List.length_append]; omega) HAS.out.2.1 HAS.out.2.2.2 hl)
         go_wp2_with fail
         try rw [HE.out]
         clear q1 q2
         refine HCC.out.mono ?_
         rintro e4 w4 ⟨rfl, Z2, hz1, hz2, hz3, hr4, ho4⟩
         have HZ2 : Hid (Z2.length = X2.length + Y2.length ∧ Asc Z2 ∧ Same (X2 ++ Y2) Z2) := Lib.hid ⟨hz1, hz2, hz3⟩
         have HR4 := Lib.hid hr4
         have HO4 := Lib.hid (HO3.out.trans ho4 fun _ _ e => e)
         clear hz1 hz2 hz3 hr4 ho4
         go_wp2_with fail
         go_returns
         exact ⟨rfl, Z1 ++ Z2, by have h1 := HZ1.out.1; have h2 := HZ2.out.1; have := HL.out; simp only [List.length_append]; omega, (HZZ.out Z1 Z2 HZ1.out.2.1 HZ2.out.2.1 HZ1.out.2.2 HZ2.out.2.2).1, (HZZ.out Z1 Z2 HZ1.out.2.1 HZ2.out.2.1 HZ1.out.2.2 HZ2.out.2.2).2, by simpa using HR4.out, HO4.out⟩
        ·have hz : X2.length = 0 ∨ Y2.length = 0 := by have := HL.out; omega
         obtain ⟨Z2, HZ2, HR4⟩ : ∃ Z2, Hid (Z2.length = X2.length + Y2.length ∧ Asc Z2 ∧ Same (X2 ++ Y2) Z2) ∧ Hid (Row wr b ((P ++ Z1) ++ Z2 ++ S)) := ⟨X2 ++ Y2, Lib.hid ⟨List.length_append, asc_empty HAS.out.2.1 HAS.out.2.2.2 hz, Same.refl _⟩, Lib.hid (by simpa using HR3.out)⟩
         have HO4 := HO3
         clear hz
         go_wp2_with fail
         go_returns
         exact ⟨rfl, Z1 ++ Z2, by have h1 := HZ1.out.1; have h2 := HZ2.out.1; have := HL.out; simp only [List.length_append]; omega, (HZZ.out Z1 Z2 HZ1.out.2.1 HZ2.out.2.1 HZ1.out.2.2 HZ2.out.2.2).1, (HZZ.out Z1 Z2 HZ1.out.2.1 HZ2.out.2.1 HZ1.out.2.2 HZ2.out.2.2).2, by simpa using HR4.out, HO4.out⟩
       ·have hz : X2.length = 0 ∨ Y2.length = 0 := by have := HL.out; omega
        obtain ⟨Z2, HZ2, HR4⟩ : ∃ Z2, Hid (Z2.length = X2.length + Y2.length ∧ Asc Z2 ∧ Same (X2 ++ Y2) Z2) ∧ Hid (Row wr b ((P ++ Z1) ++ Z2 ++ S)) := ⟨X2 ++ Y2, Lib.hid ⟨List.length_append, asc_empty HAS.out.2.1 HAS.out.2.2.2 hz, Same.refl _⟩, Lib.hid (by simpa using HR3.out)⟩
        have HO4 := HO3
        clear hz
        go_wp2_with fail
        go_returns
        exact ⟨rfl, Z1 ++ Z2, by have h1 := HZ1.out.1; have h2 := HZ2.out.1; have := HL.out; simp only [List.length_append]; omega, (HZZ.out Z1 Z2 HZ1.out.2.1 HZ2.out.2.1 HZ1.out.2.2 HZ2.out.2.2).1, (HZZ.out Z1 Z2 HZ1.out.2.1 HZ2.out.2.1 HZ1.out.2.2 HZ2.out.2.2).2, by simpa using HR4.out, HO4.out⟩
    ·have hz : X2.length = 0 ∨ Y1.length = 0 := by have := HL.out; omega
     have HR2 : Hid (Row wr b (P ++ X1 ++ Y1 ++ X2 ++ Y2 ++ S)) := Lib.hid (by
      have h1 := HRX.out
      rw [show P ++ X1 ++ X2 ++ Y1 ++ Y2 ++ S = P ++ X1 ++ (X2 ++ Y1) ++ Y2 ++ S by simp, swap_empty hz] at h1
      simpa using h1)
     have HO2 := HO1
     clear hz
     by_cases q1 : a < s
     ·by_cases q2 : s < md
      ·have HCC := Lib.hid (HIH.out P X1 Y1 (X2 ++ Y2 ++ S) b N cap a s md wr (by have := HL.out; have := HMM.out; omega) (by have := HL.out; omega) (by have := HL.out; omega) (by simpa using HR2.out) (by have := HL.out; simp only [List.length_append]; omega) (by have := HAP.out; omega) (by have := HL.out; omega) (by have := HL.out; omega) HAS.out.1 HAS.out.2.2.1 hl)
       go_wp2_with fail
       clear q1 q2
       refine HCC.out.mono ?_
       rintro e3 w3 ⟨rfl, Z1, hz1, hz2, hz3, hr3, ho3⟩
       have HZ1 : Hid (Z1.length = X1.length + Y1.length ∧ Asc Z1 ∧ Same (X1 ++ Y1) Z1) := Lib.hid ⟨hz1, hz2, hz3⟩
       have HR3 : Hid (Row w3 b ((P ++ Z1) ++ X2 ++ Y2 ++ S)) := Lib.hid (by simpa using hr3)
       have HO3 := Lib.hid (HO2.out.trans ho3 fun _ _ e => e)
       clear hz1 hz2 hz3 hr3 ho3
       by_cases q1 : md < e
       ·by_cases q2 : e < c
        ·have HCC := Lib.hid (HIH.out (P ++ Z1) X2 Y2 S b N cap md e c w3 (by have := HL.out; have := HMM.out; omega) (by have := HL.out; omega) (by have := HL.out; omega) HR3.out (by have := HZ1.out.1; have := HL.out; simp only [List.length_append]; omega) (by have := HZ1.out.1; have := HL.out; simp only [List.length_append]; omega) (by have := HZ1.out.1; have := HL.out; simp only [List.length_append]; omega) (by have := HZ1.out.1; have := HL.out; simp only [List.length_append]; omega) HAS.out.2.1 HAS.out.2.2.2 hl)
         go_wp2_with fail
         try rw [HE.out]
         clear q1 q2
         refine HCC.out.mono ?_
         rintro e4 w4 ⟨rfl, Z2, hz1, hz2, hz3, hr4, ho4⟩
         have HZ2 : Hid (Z2.length = X2.length + Y2.length ∧ Asc Z2 ∧ Same (X2 ++ Y2) Z2) := Lib.hid ⟨hz1, hz2, hz3⟩
         have HR4 := Lib.hid hr4
         have HO4 := Lib.hid (HO3.out.trans ho4 fun _ _ e => e)
         clear hz1 hz2 hz3 hr4 ho4
         go_wp2_with fail
         go_returns
         exact ⟨rfl, Z1 ++ Z2, by have h1 := HZ1.out.1; have h2 := HZ2.out.1; have := HL.out; simp only [List.length_append]; omega, (HZZ.out Z1 Z2 HZ1.out.2.1 HZ2.out.2.1 HZ1.out.2.2 HZ2.out.2.2).1, (HZZ.out Z1 Z2 HZ1.out.2.1 HZ2.out.2.1 HZ1.out.2.2 HZ2.out.2.2).2, by simpa using HR4.out, HO4.out⟩
        ·have hz : X2.length = 0 ∨ Y2.length = 0 := by have := HL.out; omega
         obtain ⟨Z2, HZ2, HR4⟩ : ∃ Z2, Hid (Z2.length = X2.length + Y2.length ∧ Asc Z2 ∧ Same (X2 ++ Y2) Z2) ∧ Hid (Row w3 b ((P ++ Z1) ++ Z2 ++ S)) := ⟨X2 ++ Y2, Lib.hid ⟨List.length_append, asc_empty HAS.out.2.1 HAS.out.2.2.2 hz, Same.refl _⟩, Lib.hid (by simpa using HR3.out)⟩
         have HO4 := HO3
         clear hz
         go_wp2_with fail
         go_returns
         exact ⟨rfl, Z1 ++ Z2, by have h1 := HZ1.out.1; have h2 := HZ2.out.1; have := HL.out; simp only [List.length_append]; omega, (HZZ.out Z1 Z2 HZ1.out.2.1 HZ2.out.2.1 HZ1.out.2.2 HZ2.out.2.2).1, (HZZ.out Z1 Z2 HZ1.out.2.1 HZ2.out.2.1 HZ1.out.2.2 HZ2.out.2.2).2, by simpa using HR4.out, HO4.out⟩
       ·have hz : X2.length = 0 ∨ Y2.length = 0 := by have := HL.out; omega
        obtain ⟨Z2, HZ2, HR4⟩ : ∃ Z2, Hid (Z2.length = X2.length + Y2.length ∧ Asc Z2 ∧ Same (X2 ++ Y2) Z2) ∧ Hid (Row w3 b ((P ++ Z1) ++ Z2 ++ S)) := ⟨X2 ++ Y2, Lib.hid ⟨List.length_append, asc_empty HAS.out.2.1 HAS.out.2.2.2 hz, Same.refl _⟩, Lib.hid (by simpa using HR3.out)⟩
        have HO4 := HO3
        clear hz
        go_wp2_with fail
        go_returns
        exact ⟨rfl, Z1 ++ Z2, by have h1 := HZ1.out.1; have h2 := HZ2.out.1; have := HL.out; simp only [List.length_append]; omega, (HZZ.out Z1 Z2 HZ1.out.2.1 HZ2.out.2.1 HZ1.out.2.2 HZ2.out.2.2).1, (HZZ.out Z1 Z2 HZ1.out.2.1 HZ2.out.2.1 HZ1.out.2.2 HZ2.out.2.2).2, by simpa using HR4.out, HO4.out⟩
      ·have hz : X1.length = 0 ∨ Y1.length = 0 := by have := HL.out; omega
       obtain ⟨Z1, HZ1, HR3⟩ : ∃ Z1, Hid (Z1.length = X1.length + Y1.length ∧ Asc Z1 ∧ Same (X1 ++ Y1) Z1) ∧ Hid (Row wr b ((P ++ Z1) ++ X2 ++ Y2 ++ S)) := ⟨X1 ++ Y1, Lib.hid ⟨List.length_append, asc_empty HAS.out.1 HAS.out.2.2.1 hz, Same.refl _⟩, Lib.hid (by simpa using HR2.out)⟩
       have HO3 := HO2
       clear hz
       by_cases q1 : md < e
       ·by_cases q2 : e < c
        ·have HCC := Lib.hid (HIH.out (P ++ Z1) X2 Y2 S b N cap md e c wr (by have := HL.out; have := HMM.out; omega) (by have := HL.out; omega) (by have := HL.out; omega) HR3.out (by have := HZ1.out.1; have := HL.out; simp only [List.length_append]; omega) (by have := HZ1.out.1; have := HL.out; simp only [List.length_append]; omega) (by have := HZ1.out.1; have := HL.out; simp only [List.length_append]; omega) (by have := HZ1.out.1; have := HL.out; simp only [List.length_append]; omega) HAS.out.2.1 HAS.out.2.2.2 hl)
         go_wp2_with fail
         try rw [HE.out]
         clear q1 q2
         refine HCC.out.mono ?_
         rintro e4 w4 ⟨rfl, Z2, hz1, hz2, hz3, hr4, ho4⟩
         have HZ2 : Hid (Z2.length = X2.length + Y2.length ∧ Asc Z2 ∧ Same (X2 ++ Y2) Z2) := Lib.hid ⟨hz1, hz2, hz3⟩
         have HR4 := Lib.hid hr4
         have HO4 := Lib.hid (HO3.out.trans ho4 fun _ _ e => e)
         clear hz1 hz2 hz3 hr4 ho4
         go_wp2_with fail
         go_returns
         exact ⟨rfl, Z1 ++ Z2, by have h1 := HZ1.out.1; have h2 := HZ2.out.1; have := HL.out; simp only [List.length_append]; omega, (HZZ.out Z1 Z2 HZ1.out.2.1 HZ2.out.2.1 HZ1.out.2.2 HZ2.out.2.2).1, (HZZ.out Z1 Z2 HZ1.out.2.1 HZ2.out.2.1 HZ1.out.2.2 HZ2.out.2.2).2, by simpa using HR4.out, HO4.out⟩
        ·have hz : X2.length = 0 ∨ Y2.length = 0 := by have := HL.out; omega
         obtain ⟨Z2, HZ2, HR4⟩ : ∃ Z2, Hid (Z2.length = X2.length + Y2.length ∧ Asc Z2 ∧ Same (X2 ++ Y2) Z2) ∧ Hid (Row wr b ((P ++ Z1) ++ Z2 ++ S)) := ⟨X2 ++ Y2, Lib.hid ⟨List.length_append, asc_empty HAS.out.2.1 HAS.out.2.2.2 hz, Same.refl _⟩, Lib.hid (by simpa using HR3.out)⟩
         have HO4 := HO3
         clear hz
         go_wp2_with fail
         go_returns
         exact ⟨rfl, Z1 ++ Z2, by have h1 := HZ1.out.1; have h2 := HZ2.out.1; have := HL.out; simp only [List.length_append]; omega, (HZZ.out Z1 Z2 HZ1.out.2.1 HZ2.out.2.1 HZ1.out.2.2 HZ2.out.2.2).1, (HZZ.out Z1 Z2 HZ1.out.2.1 HZ2.out.2.1 HZ1.out.2.2 HZ2.out.2.2).2, by simpa using HR4.out, HO4.out⟩
       ·have hz : X2.length = 0 ∨ Y2.length = 0 := by have := HL.out; omega
        obtain ⟨Z2, HZ2, HR4⟩ : ∃ Z2, Hid (Z2.length = X2.length + Y2.length ∧ Asc Z2 ∧ Same (X2 ++ Y2) Z2) ∧ Hid (Row wr b ((P ++ Z1) ++ Z2 ++ S)) := ⟨X2 ++ Y2, Lib.hid ⟨List.length_append, asc_empty HAS.out.2.1 HAS.out.2.2.2 hz, Same.refl _⟩, Lib.hid (by simpa using HR3.out)⟩
        have HO4 := HO3
        clear hz
        go_wp2_with fail
        go_returns
        exact ⟨rfl, Z1 ++ Z2, by have h1 := HZ1.out.1; have h2 := HZ2.out.1; have := HL.out; simp only [List.length_append]; omega, (HZZ.out Z1 Z2 HZ1.out.2.1 HZ2.out.2.1 HZ1.out.2.2 HZ2.out.2.2).1, (HZZ.out Z1 Z2 HZ1.out.2.1 HZ2.out.2.1 HZ1.out.2.2 HZ2.out.2.2).2, by simpa using HR4.out, HO4.out⟩
     ·have hz : X1.length = 0 ∨ Y1.length = 0 := by have := HL.out; omega
      obtain ⟨Z1, HZ1, HR3⟩ : ∃ Z1, Hid (Z1.length = X1.length + Y1.length ∧ Asc Z1 ∧ Same (X1 ++ Y1) Z1) ∧ Hid (Row wr b ((P ++ Z1) ++ X2 ++ Y2 ++ S)) := ⟨X1 ++ Y1, Lib.hid ⟨List.length_append, asc_empty HAS.out.1 HAS.out.2.2.1 hz, Same.refl _⟩, Lib.hid (by simpa using HR2.out)⟩
      have HO3 := HO2
      clear hz
      by_cases q1 : md < e
      ·by_cases q2 : e < c
       ·have HCC := Lib.hid (HIH.out (P ++ Z1) X2 Y2 S b N cap md e c wr (by have := HL.out; have := HMM.out; omega) (by have := HL.out; omega) (by have := HL.out; omega) HR3.out (by have := HZ1.out.1; have := HL.out; simp only [List.length_append]; omega) (by have := HZ1.out.1; have := HL.out; simp only [List.length_append]; omega) (by have := HZ1.out.1; have := HL.out; simp only [List.length_append]; omega) (by have := HZ1.out.1; have := HL.out; simp only [List.length_append]; omega) HAS.out.2.1 HAS.out.2.2.2 hl)
        go_wp2_with fail
        try rw [HE.out]
        clear q1 q2
        refine HCC.out.mono ?_
        rintro e4 w4 ⟨rfl, Z2, hz1, hz2, hz3, hr4, ho4⟩
        have HZ2 : Hid (Z2.length = X2.length + Y2.length ∧ Asc Z2 ∧ Same (X2 ++ Y2) Z2) := Lib.hid ⟨hz1, hz2, hz3⟩
        have HR4 := Lib.hid hr4
        have HO4 := Lib.hid (HO3.out.trans ho4 fun _ _ e => e)
        clear hz1 hz2 hz3 hr4 ho4
        go_wp2_with fail
        go_returns
        exact ⟨rfl, Z1 ++ Z2, by have h1 := HZ1.out.1; have h2 := HZ2.out.1; have := HL.out; simp only [List.length_append]; omega, (HZZ.out Z1 Z2 HZ1.out.2.1 HZ2.out.2.1 HZ1.out.2.2 HZ2.out.2.2).1, (HZZ.out Z1 Z2 HZ1.out.2.1 HZ2.out.2.1 HZ1.out.2.2 HZ2.out.2.2).2, by simpa using HR4.out, HO4.out⟩
       ·have hz : X2.length = 0 ∨ Y2.length = 0 := by have := HL.out; omega
        obtain ⟨Z2, HZ2, HR4⟩ : ∃ Z2, Hid (Z2.length = X2.length + Y2.length ∧ Asc Z2 ∧ Same (X2 ++ Y2) Z2) ∧ Hid (Row wr b ((P ++ Z1) ++ Z2 ++ S)) := ⟨X2 ++ Y2, Lib.hid ⟨List.length_append, asc_empty HAS.out.2.1 HAS.out.2.2.2 hz, Same.refl _⟩, Lib.hid (by simpa using HR3.out)⟩
        have HO4 := HO3
        clear hz
        go_wp2_with fail
        go_returns
        exact ⟨rfl, Z1 ++ Z2, by have h1 := HZ1.out.1; have h2 := HZ2.out.1; have := HL.out; simp only [List.length_append]; omega, (HZZ.out Z1 Z2 HZ1.out.2.1 HZ2.out.2.1 HZ1.out.2.2 HZ2.out.2.2).1, (HZZ.out Z1 Z2 HZ1.out.2.1 HZ2.out.2.1 HZ1.out.2.2 HZ2.out.2.2).2, by simpa using HR4.out, HO4.out⟩
      ·have hz : X2.length = 0 ∨ Y2.length = 0 := by have := HL.out; omega
       obtain ⟨Z2, HZ2, HR4⟩ : ∃ Z2, Hid (Z2.length = X2.length + Y2.length ∧ Asc Z2 ∧ Same (X2 ++ Y2) Z2) ∧ Hid (Row wr b ((P ++ Z1) ++ Z2 ++ S)) := ⟨X2 ++ Y2, Lib.hid ⟨List.length_append, asc_empty HAS.out.2.1 HAS.out.2.2.2 hz, Same.refl _⟩, Lib.hid (by simpa using HR3.out)⟩
       have HO4 := HO3
       clear hz
       go_wp2_with fail
       go_returns
       exact ⟨rfl, Z1 ++ Z2, by have h1 := HZ1.out.1; have h2 := HZ2.out.1; have := HL.out; simp only [List.length_append]; omega, (HZZ.out Z1 Z2 HZ1.out.2.1 HZ2.out.2.1 HZ1.out.2.2 HZ2.out.2.2).1, (HZZ.out Z1 Z2 HZ1.out.2.1 HZ2.out.2.1 HZ1.out.2.2 HZ2.out.2.2).2, by simpa using HR4.out, HO4.out⟩
end Go.Proofs.Ytjeogeablbkhgaa.Item
