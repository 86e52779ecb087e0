/-
  slices' symMerge, where the left part is one item: it is put behind all that are below it.
  Conditions: none.
-/
import Derived.Test.YtjeogeablbkhgaaP16
import Derived.Test.YtjeogeablbkhgaaP17
namespace Go.Proofs.Ytjeogeablbkhgaa.Item
open Go.RowKit Go.Proofs.Ytjeogeablbkhgaa.Mem Go.Proofs.Ytjeogeablbkhgaa.Wire
def mgTL_t (b N cap hh a : Nat) (x y : It) : Nat → Value → World → Prop
 | 0, v, _ => v = .func (.func 44) #[] #[]
 | 1, v, _ => v = .slice (some ⟨b, 0, none⟩) N cap
 | 2, v, _ => v = .int .i64 (hh : Int)
 | 3, v, _ => v = .pointer (some ⟨b, hh * 5, none⟩)
 | 4, v, _ => v = .agg #[.int .i64 y.cell, .int .i64 y.version, .int .i64 y.value, .bool y.write, .int .i64 y.new]
 | 5, v, _ => v = .slice (some ⟨b, 0, none⟩) N cap
 | 6, v, _ => v = .int .i64 (a : Int)
 | 7, v, _ => v = .pointer (some ⟨b, a * 5, none⟩)
 | 8, v, _ => v = .agg #[.int .i64 x.cell, .int .i64 x.version, .int .i64 x.value, .bool x.write, .int .i64 x.new]
 | 9, v, _ => v = .int .i64 (cmpI y.cell x.cell)
 | 10, v, _ => v = .bool true
 | _, _, _ => True
theorem mgTL_t_later {b N cap hh a : Nat} {x y : It} {j : Nat} {v : Value} {w w' : World} (_hb : Below w.heap.size w w') (h : mgTL_t b N cap hh a x y j v w) : mgTL_t b N cap hh a x y j v w' := by
 match j, h with
 | 0, h | 1, h | 2, h | 3, h | 4, h | 5, h | 6, h | 7, h | 8, h | 9, h | 10, h => exact h
 | _ + 11, _ => exact trivial
def mgTL_f (b N cap hh a : Nat) (x y : It) : Nat → Value → World → Prop
 | 0, v, _ => v = .func (.func 44) #[] #[]
 | 1, v, _ => v = .slice (some ⟨b, 0, none⟩) N cap
 | 2, v, _ => v = .int .i64 (hh : Int)
 | 3, v, _ => v = .pointer (some ⟨b, hh * 5, none⟩)
 | 4, v, _ => v = .agg #[.int .i64 y.cell, .int .i64 y.version, .int .i64 y.value, .bool y.write, .int .i64 y.new]
 | 5, v, _ => v = .slice (some ⟨b, 0, none⟩) N cap
 | 6, v, _ => v = .int .i64 (a : Int)
 | 7, v, _ => v = .pointer (some ⟨b, a * 5, none⟩)
 | 8, v, _ => v = .agg #[.int .i64 x.cell, .int .i64 x.version, .int .i64 x.value, .bool x.write, .int .i64 x.new]
 | 9, v, _ => v = .int .i64 (cmpI y.cell x.cell)
 | 10, v, _ => v = .bool false
 | _, _, _ => True
theorem mgTL_f_later {b N cap hh a : Nat} {x y : It} {j : Nat} {v : Value} {w w' : World} (_hb : Below w.heap.size w w') (h : mgTL_f b N cap hh a x y j v w) : mgTL_f b N cap hh a x y j v w' := by
 match j, h with
 | 0, h | 1, h | 2, h | 3, h | 4, h | 5, h | 6, h | 7, h | 8, h | 9, h | 10, h => exact h
 | _ + 11, _ => exact trivial
set_option maxHeartbeats 1000000 in
set_option maxRecDepth 100000 in
theorem mergeL_any (P Y S : List It) (x : It) (b N cap a m c : Nat) (w : World) (h : Row w b (P ++ x :: Y ++ S)) (hN : N = (P ++ x :: Y ++ S).length) (ha : a = P.length) (hm : m = P.length + 1) (hc : c = P.length + 1 + Y.length) (hY : Asc Y) (hl : N ≤ 1000000) :
  Calls Try.prog 53 #[.slice (some ⟨b, 0, none⟩) N cap, .int .i64 (a : Int), .int .i64 (m : Int), .int .i64 (c : Int), .func (.func 44) #[] #[]] w fun e w' => e = .returned (.tuple #[]) ∧ ∃ Z, Z.length = Y.length + 1 ∧ Asc Z ∧ Same (x :: Y) Z ∧ Row w' b (P ++ Z ++ S) ∧ Only (fun j => j = b) w w' := by
 have hlen : N = P.length + 1 + Y.length + S.length := by rw [hN]; simp only [List.length_append, List.length_cons]; omega
 have hma : m ≤ 1000000 := by omega
 have hcN : c ≤ 1000000 := by omega
 have HLEN := Lib.hid hlen
 have HR := Lib.hid h
 have HA := Lib.hid ha
 have HM := Lib.hid hm
 have HC := Lib.hid (show m + Y.length = c by omega)
 have HYA := Lib.hid hY
 have hsub : (m : Int) - (a : Int) = 1 := by omega
 have HSB := Lib.hid hsub
 clear h hN ha hm hc hlen hY hsub
 go_enter Try.func53, Try.ntmps53
 have hsub := HSB.out
 go_wp2_with fail
 clear hsub
 go_loopw [10, 11, 12] (fun i j _ wr => ∃ (p q : Nat), i = .int .i64 (p : Int) ∧ j = .int .i64 (q : Int) ∧ m ≤ p ∧ p ≤ q ∧ q ≤ c ∧ Hid ((∀ k (hk : k < Y.length), k + m < p → Y[k].cell < x.cell) ∧ (∀ k (hk : k < Y.length), q ≤ k + m → x.cell ≤ Y[k].cell) ∧ Row wr b (P ++ x :: Y ++ S)) ∧ Below w.heap.size w wr) (fun i j _ _ => (intOf j).toNat - (intOf i).toNat)
 case atStart => exact ⟨m, c, rfl, rfl, Nat.le_refl _, by have := HC.out; omega, Nat.le_refl _, Lib.hid ⟨fun k hk h => by omega, fun k hk h => by have := HC.out; omega, HR.out⟩, Below.refl _ _⟩
 case round =>
  obtain ⟨p, q, rfl, rfl, hmp, hpq, hqc, hp, hbr⟩ := hrel
  have HBR := Lib.hid hbr
  clear hbr
  by_cases hlt : p < q
  ·obtain ⟨hh, hhh⟩ : ∃ hh, hh = (p + q) / 2 := ⟨_, rfl⟩
   have HHE : Hid (((p : Int) + (q : Int)) / 2 = (hh : Int)) := Lib.hid (by rw [hhh]; omega)
   have hp1 : p ≤ hh := by omega
   have hp2 : hh < q := by omega
   have hky : hh - m < Y.length := by have := HC.out; omega
   obtain ⟨y, hy⟩ : ∃ y, y = Y[hh - m] := ⟨_, rfl⟩
   obtain ⟨l, hll⟩ : ∃ l, l = P ++ x :: Y ++ S := ⟨_, rfl⟩
   have HROW : Hid (Row wr b l) := Lib.hid (by rw [hll]; exact hp.out.2.2)
   have HXA : Hid (l[a]? = some x) := Lib.hid (by rw [hll, List.append_assoc]; exact at_mid _ _ _ _ HA.out)
   have HYH : Hid (l[hh]? = some y) := Lib.hid (by
    have h1 := HM.out
    rw [hll, hy, List.getElem?_append_left (by simp only [List.length_append, List.length_cons]; omega), List.getElem?_append_right (by omega), show hh - P.length = (hh - m) + 1 by omega, List.getElem?_cons_succ, List.getElem?_eq_getElem hky])
   have HHN : Hid (hh < N) := Lib.hid (by have := HC.out; have := HLEN.out; have := HM.out; omega)
   have HAN : Hid (a < N) := Lib.hid (by have := HA.out; have := HLEN.out; omega)
   have HLO : Hid (y.cell < x.cell → ∀ k (hk : k < Y.length), k + m < hh + 1 → Y[k].cell < x.cell) := Lib.hid fun h k hk hlt => by
    have := asc_get HYA.out (i := k) (j := hh - m) (by omega) hky
    rw [← hy] at this
    omega
   have HHI : Hid (x.cell ≤ y.cell → ∀ k (hk : k < Y.length), hh ≤ k + m → x.cell ≤ Y[k].cell) := Lib.hid fun h k hk hle => by
    have := asc_get HYA.out (i := hh - m) (j := k) (by omega) hk
    rw [← hy] at this
    omega
   have HRR : Hid (∀ w1, Row w1 b l → Row w1 b (P ++ x :: Y ++ S)) := Lib.hid fun w1 h => by rw [← hll]; exact h
   clear hhh hky hy hll
   by_cases hcv : y.cell < x.cell
   ·have HCV : Hid (cmpI y.cell x.cell < 0) := Lib.hid ((cmp_neg _ _).2 hcv)
    have HL2 := Lib.hid (HLO.out hcv)
    clear hcv
    go_wp2_with fail
    rw [HHE.out]
    refine Reg.region_heavy (by kernel_rfl) 10 [10] (mgTL_t b N cap hh a x y) (fun a => Below wr.heap.size wr a) (fun a => Below wr.heap.size wr a) (fun V => [(some 40, V 0), (some 41, V 1), (some 42, V 2), (some 43, V 3), (some 44, V 4), (some 45, V 5), (some 46, V 6), (some 47, V 7), (some 48, V 8), (some 49, V 9), (some 50, V 10)]) (by kernel_rfl) (by kernel_rfl) (by kernel_rfl) (fun V => rfl) ?_ ?_ ?_
    ·exact (Below.refl _ _).drew
    ·intro i o ho
     have hi : i < 11 := (Array.getElem?_eq_some_iff.1 ho).1
     rcases i with _ | _ | _ | _ | _ | _ | _ | _ | _ | _ | _ | i
     rotate_right
     ·omega
     all_goals obtain rfl := Option.some.inj ho
     all_goals intro ρ wi hE hI hs hd
     all_goals try dsimp only at hI
     ·have e4 : ρ (.tmp 4) = .func (.func 44) #[] #[] := hs 4; exact Reg.gw hI
     ·have e0 : ρ (.tmp 0) = .slice (some ⟨b, 0, none⟩) N cap := hs 0; exact Reg.gw hI
     ·have e12 : ρ (.tmp 12) = .int .i64 (hh : Int) := hs 12; exact Reg.gw hI
     ·obtain ⟨_, rfl, e41⟩ := hd 1 41; obtain ⟨_, rfl, e42⟩ := hd 2 42; have hx := HHN.out; exact Reg.gw hI
     ·obtain ⟨_, rfl, e43⟩ := hd 3 43; have hit := (HROW.out.later hI).item HYH.out; have c0 := hit.cell; have c1 := hit.version; have c2 := hit.value; have c3 := hit.write; have c4 := hit.new; exact Reg.gw hI
     ·have e0 : ρ (.tmp 0) = .slice (some ⟨b, 0, none⟩) N cap := hs 0; exact Reg.gw hI
     ·have e1 : ρ (.tmp 1) = .int .i64 (a : Int) := hs 1; exact Reg.gw hI
     ·obtain ⟨_, rfl, e45⟩ := hd 5 45; obtain ⟨_, rfl, e46⟩ := hd 6 46; have hx := HAN.out; exact Reg.gw hI
     ·obtain ⟨_, rfl, e47⟩ := hd 7 47; have hit := (HROW.out.later hI).item HXA.out; have c0 := hit.cell; have c1 := hit.version; have c2 := hit.value; have c3 := hit.write; have c4 := hit.new; exact Reg.gw hI
     ·obtain ⟨_, rfl, e40⟩ := hd 0 40; obtain ⟨_, rfl, e44⟩ := hd 4 44; obtain ⟨_, rfl, e48⟩ := hd 8 48
      refine Reg.Gives.call (f := 44) (args := #[.agg #[.int .i64 y.cell, .int .i64 y.version, .int .i64 y.value, .bool y.write, .int .i64 y.new], .agg #[.int .i64 x.cell, .int .i64 x.version, .int .i64 x.value, .bool x.write, .int .i64 x.new]]) (w' := wi) (by go_simp) ?_
      refine (cmp_any y x wi).mono ?_
      rintro e w'' ⟨rfl, hbb⟩
      exact ⟨_, rfl, ⟨rfl, hI.trans (hbb.mono hI.size), fun j u _ _ h => mgTL_t_later hbb h⟩⟩
     ·obtain ⟨_, rfl, e49⟩ := hd 9 49; have hc := hE.const; have hx := HCV.out; exact Reg.gw hI
    ·intro V w1 hV hI
     have hV10 : V 10 = .bool true := hV 10 (by decide) rfl
     simp only [Reg.putsO, List.foldl_cons, List.foldl_nil, Act.put, List.setIfInBounds_toArray, List.set_cons_succ, List.set_cons_zero, hV10]
     replace hI : (fun a => Below wr.heap.size wr a) w1 := hI
     clear hV hV10
     have HBW := Lib.hid (HBR.out.trans (hI.mono HBR.out.size))
     have HRW := Lib.hid (HROW.out.later hI)
     clear hI
     go_wp2_with fail
     go_roundw
     case rel => exact ⟨hh + 1, q, by go_num, rfl, by omega, by omega, hqc, Lib.hid ⟨HL2.out, hp.out.2.1, HRR.out _ HRW.out⟩, HBW.out⟩
     case measure => simp [intOf]; omega
   ·have HCV : Hid (0 ≤ cmpI y.cell x.cell) := Lib.hid (by have := cmp_neg y.cell x.cell; omega)
    have HH2 := Lib.hid (HHI.out (by omega))
    clear hcv
    go_wp2_with fail
    rw [HHE.out]
    refine Reg.region_heavy (by kernel_rfl) 10 [10] (mgTL_f b N cap hh a x y) (fun a => Below wr.heap.size wr a) (fun a => Below wr.heap.size wr a) (fun V => [(some 40, V 0), (some 41, V 1), (some 42, V 2), (some 43, V 3), (some 44, V 4), (some 45, V 5), (some 46, V 6), (some 47, V 7), (some 48, V 8), (some 49, V 9), (some 50, V 10)]) (by kernel_rfl) (by kernel_rfl) (by kernel_rfl) (fun V => rfl) ?_ ?_ ?_
    ·exact (Below.refl _ _).drew
    ·intro i o ho
     have hi : i < 11 := (Array.getElem?_eq_some_iff.1 ho).1
     rcases i with _ | _ | _ | _ | _ | _ | _ | _ | _ | _ | _ | i
     rotate_right
     ·omega
     all_goals obtain rfl := Option.some.inj ho
     all_goals intro ρ wi hE hI hs hd
     all_goals try dsimp only at hI
     ·have e4 : ρ (.tmp 4) = .func (.func 44) #[] #[] := hs 4; exact Reg.gw hI
     ·have e0 : ρ (.tmp 0) = .slice (some ⟨b, 0, none⟩) N cap := hs 0; exact Reg.gw hI
     ·have e12 : ρ (.tmp 12) = .int .i64 (hh : Int) := hs 12; exact Reg.gw hI
     ·obtain ⟨_, rfl, e41⟩ := hd 1 41; obtain ⟨_, rfl, e42⟩ := hd 2 42; have hx := HHN.out; exact Reg.gw hI
     ·obtain ⟨_, rfl, e43⟩ := hd 3 43; have hit := (HROW.out.later hI).item HYH.out; have c0 := hit.cell; have c1 := hit.version; have c2 := hit.value; have c3 := hit.write; have c4 := hit.new; exact Reg.gw hI
     ·have e0 : ρ (.tmp 0) = .slice (some ⟨b, 0, none⟩) N cap := hs 0; exact Reg.gw hI
     ·have e1 : ρ (.tmp 1) = .int .i64 (a : Int) := hs 1; exact Reg.gw hI
     ·obtain ⟨_, rfl, e45⟩ := hd 5 45; obtain ⟨_, rfl, e46⟩ := hd 6 46; have hx := HAN.out; exact Reg.gw hI
     ·obtain ⟨_, rfl, e47⟩ := hd 7 47; have hit := (HROW.out.later hI).item HXA.out; have c0 := hit.cell; have c1 := hit.version; have c2 := hit.value; have c3 := hit.write; have c4 := hit.new; exact Reg.gw hI
     ·obtain ⟨_, rfl, e40⟩ := hd 0 40; obtain ⟨_, rfl, e44⟩ := hd 4 44; obtain ⟨_, rfl, e48⟩ := hd 8 48
      refine Reg.Gives.call (f := 44) (args := #[.agg #[.int .i64 y.cell, .int .i64 y.version, .int .i64 y.value, .bool y.write, .int .i64 y.new], .agg #[.int .i64 x.cell, .int .i64 x.version, .int .i64 x.value, .bool x.write, .int .i64 x.new]]) (w' := wi) (by go_simp) ?_
      refine (cmp_any y x wi).mono ?_
      rintro e w'' ⟨rfl, hbb⟩
      exact ⟨_, rfl, ⟨rfl, hI.trans (hbb.mono hI.size), fun j u _ _ h => mgTL_f_later hbb h⟩⟩
     ·obtain ⟨_, rfl, e49⟩ := hd 9 49; have hc := hE.const; have hx := HCV.out; exact Reg.gw hI
    ·intro V w1 hV hI
     have hV10 : V 10 = .bool false := hV 10 (by decide) rfl
     simp only [Reg.putsO, List.foldl_cons, List.foldl_nil, Act.put, List.setIfInBounds_toArray, List.set_cons_succ, List.set_cons_zero, hV10]
     replace hI : (fun a => Below wr.heap.size wr a) w1 := hI
     clear hV hV10
     have HBW := Lib.hid (HBR.out.trans (hI.mono HBR.out.size))
     have HRW := Lib.hid (HROW.out.later hI)
     clear hI
     go_wp2_with fail
     go_roundw
     case rel => exact ⟨p, hh, rfl, rfl, hmp, by omega, by omega, Lib.hid ⟨hp.out.1, HH2.out, HRR.out _ HRW.out⟩, HBW.out⟩
     case measure => simp [intOf]; omega
  ·obtain rfl : p = q := by omega
   obtain ⟨Y1, Y2, hY12, hY1⟩ : ∃ Y1 Y2, Y = Y1 ++ Y2 ∧ Y1.length = p - m := ⟨Y.take (p - m), Y.drop (p - m), (List.take_append_drop _ Y).symm, by rw [List.length_take]; have := HC.out; omega⟩
   have hlo : ∀ z ∈ Y1, z.cell < x.cell := fun z hz => by
    obtain ⟨k, hk, rfl⟩ := List.getElem_of_mem hz
    have h1 := hp.out.1 k (by rw [hY12, List.length_append]; omega) (by omega)
    simp only [hY12] at h1
    rw [List.getElem_append_left hk] at h1
    exact h1
   have hhi : ∀ z ∈ Y2, x.cell ≤ z.cell := fun z hz => by
    obtain ⟨k, hk, rfl⟩ := List.getElem_of_mem hz
    have h1 := hp.out.2.1 (Y1.length + k) (by rw [hY12, List.length_append]; omega) (by omega)
    simp only [hY12] at h1
    rw [List.getElem_append_right (by omega)] at h1
    simpa using h1
   have HZ : Hid ((Y1 ++ x :: Y2).length = Y.length + 1 ∧ Asc (Y1 ++ x :: Y2) ∧ Same (x :: Y) (Y1 ++ x :: Y2)) := Lib.hid (by
    have hya := HYA.out
    rw [hY12] at hya ⊢
    refine ⟨by simp only [List.length_append, List.length_cons]; omega, asc_put hya (fun z hz => Int.le_of_lt (hlo z hz)) hhi, ?_⟩
    have hs : Same ([x] ++ Y1) (Y1 ++ [x]) := Same.swap fun z hz y hy => by
     rw [List.mem_singleton.1 hz]
     have := hlo y hy
     omega
    simpa using hs.append (Same.refl Y2))
   have HROW : Hid (Row wr b (P ++ x :: Y1 ++ Y2 ++ S)) := Lib.hid (by have := hp.out.2.2; rw [hY12] at this; simpa using this)
   have HYL : Hid (Y1.length + m = p) := Lib.hid (by omega)
   have HNL : Hid (P.length + 1 + Y1.length + Y2.length + S.length = N) := Lib.hid (by rw [HLEN.out, hY12, List.length_append]; omega)
   clear hp hY12 hY1 hlo hhi
   go_wp2_with fail
   go_loopw [13] (fun i wr => ∃ (u : Nat) (Ya Yb : List It), i = .int .i64 (u : Int) ∧ Hid (Y1 = Ya ++ Yb ∧ Ya.length + a = u ∧ Row wr b (P ++ Ya ++ x :: Yb ++ Y2 ++ S)) ∧ u < p ∧ Only (fun j => j = b) w wr) (fun i _ => p - (intOf i).toNat)
   case atStart => exact ⟨a, [], Y1, rfl, Lib.hid ⟨rfl, by simp, by simpa using HROW.out⟩, by have := HM.out; have := HA.out; omega, (Only.of_below (S := fun _ => False) HBR.out).mono fun _ _ e => e.elim⟩
   case round =>
    obtain ⟨u, Ya, Yb, rfl, hq, hup, ho2⟩ := hrel
    have HO2 := Lib.hid ho2
    clear ho2
    by_cases hlt2 : u + 1 < p
    ·obtain ⟨y, Yc, rfl⟩ : ∃ y Yc, Yb = y :: Yc := by
      cases Yb with
      | nil => exfalso; have h1 := hq.out.1; have h2 := hq.out.2.1; have h9 := HYL.out; have := HM.out; have := HA.out; simp at h1; rw [h1] at h9; omega
      | cons y Yc => exact ⟨y, Yc, rfl⟩
     obtain ⟨l, hll⟩ : ∃ l, l = P ++ Ya ++ x :: y :: Yc ++ Y2 ++ S := ⟨_, rfl⟩
     obtain ⟨v, hv⟩ : ∃ v, v = u + 1 := ⟨_, rfl⟩
     have hu2 : u = (P ++ Ya).length := by have := hq.out.2.1; have := HA.out; simp only [List.length_append]; omega
     have hv2 : v = (P ++ Ya ++ [x]).length := by have := hq.out.2.1; have := HA.out; simp only [List.length_append, List.length_cons, List.length_nil]; omega
     have hv3 : v = (P ++ Ya ++ [y]).length := by rw [hv2]; simp
     have e1 : l = (P ++ Ya) ++ x :: (y :: Yc ++ Y2 ++ S) := by rw [hll]; simp
     have e2 : l = (P ++ Ya ++ [x]) ++ y :: (Yc ++ Y2 ++ S) := by rw [hll]; simp
     have HX : Hid (l[u]? = some x) := Lib.hid (by rw [e1]; exact at_mid _ _ _ _ hu2)
     have HY : Hid (l[v]? = some y) := Lib.hid (by rw [e2]; exact at_mid _ _ _ _ hv2)
     have HFIN : Hid (swapAt l u v x y = P ++ (Ya ++ [y]) ++ x :: Yc ++ Y2 ++ S) := Lib.hid (by
      unfold swapAt
      rw [e1, set_mid _ _ _ _ _ hu2, show (P ++ Ya) ++ y :: (y :: Yc ++ Y2 ++ S) = (P ++ Ya ++ [y]) ++ y :: (Yc ++ Y2 ++ S) by simp, set_mid _ _ _ _ _ hv3]
      simp)
     have HLU : Hid (u < l.length) := Lib.hid (List.getElem?_eq_some_iff.1 HX.out).1
     have HLV : Hid (v < l.length) := Lib.hid (List.getElem?_eq_some_iff.1 HY.out).1
     have HLN : Hid (l.length = N) := Lib.hid (by
      have h1 := congrArg List.length hq.out.1
      have := HNL.out
      rw [hll]
      simp only [List.length_append, List.length_cons] at h1 ⊢
      omega)
     have HUN : Hid (u < N) := Lib.hid (by have h1 := HLU.out; have h2 := HLN.out; omega)
     have HVN : Hid (v < N) := Lib.hid (by have h1 := HLV.out; have h2 := HLN.out; omega)
     have HWV : Hid (IntKind.i64.wrap ((u : Int) + 1) = (v : Int)) := Lib.hid (by rw [hv, Int.natCast_add]; exact IntWalk.i64_in _ (by omega))
     have HVE := Lib.hid hv
     have HROW2 : Hid (Row wr b l) := Lib.hid (by rw [hll]; exact hq.out.2.2)
     have HSW : Hid (swSt b u v l false false x y wr wr.drew) := Lib.hid ⟨HROW2.out.later (Below.refl _ _).drew, Only.of_below (Below.refl _ _).drew⟩
     have HNX : Hid (∀ w1, Row w1 b (P ++ (Ya ++ [y]) ++ x :: Yc ++ Y2 ++ S) → (Y1 = (Ya ++ [y]) ++ Yc ∧ (Ya ++ [y]).length + a = u + 1 ∧ Row w1 b (P ++ (Ya ++ [y]) ++ x :: Yc ++ Y2 ++ S))) := Lib.hid fun w1 hr => ⟨by rw [hq.out.1]; simp, by have := hq.out.2.1; simp only [List.length_append, List.length_cons, List.length_nil]; omega, hr⟩
     clear hll hv hu2 hv2 hv3 e1 e2
     go_wp2_with fail
     refine Reg.region_inv (by kernel_rfl) (fun i => ([some (.slice (some ⟨b, 0, none⟩) N cap), some (.int .i64 (u : Int)), some (.slice (some ⟨b, 0, none⟩) N cap), some (.int .i64 (u : Int)), some (.int .i64 (v : Int)), some (.slice (some ⟨b, 0, none⟩) N cap), some (.int .i64 (u : Int)), some (.int .i64 (v : Int)), some (.pointer (some ⟨b, v * 5, none⟩)), some (.agg #[.int .i64 y.cell, .int .i64 y.version, .int .i64 y.value, .bool y.write, .int .i64 y.new]), some (.slice (some ⟨b, 0, none⟩) N cap), some (.int .i64 (u : Int)), some (.pointer (some ⟨b, u * 5, none⟩)), some (.agg #[.int .i64 x.cell, .int .i64 x.version, .int .i64 x.value, .bool x.write, .int .i64 x.new]), some (.pointer (some ⟨b, u * 5, none⟩)), none, some (.pointer (some ⟨b, v * 5, none⟩)), none] : List (Option Value)).getD i none) (fun D V W => swSt b u v l (D 15) (D 17) x y wr W) (fun V => [(some 61, V 0), (some 62, V 1), (some 63, V 2), (some 64, V 3), (some 65, V 4), (some 66, V 5), (some 67, V 6), (some 68, V 7), (some 69, V 8), (some 70, V 9), (some 71, V 10), (some 72, V 11), (some 73, V 12), (some 74, V 13), (some 75, V 14), (none, V 15), (some 76, V 16), (none, V 17)]) (by kernel_rfl) (by kernel_rfl) (fun V => rfl) ?_ ?_ ?_
     ·intro V
      exact HSW.out
     ·intro i o ho
      have hi : i < 18 := (Array.getElem?_eq_some_iff.1 ho).1
      rcases i with _ | _ | _ | _ | _ | _ | _ | _ | _ | _ | _ | _ | _ | _ | _ | _ | _ | _ | i
      rotate_right
      ·omega
      all_goals obtain rfl := Option.some.inj ho
      all_goals intro D V ρ wi hE hI hDi hT hF hs hd hk
      ·have e0 : ρ (.tmp 0) = .slice (some ⟨b, 0, none⟩) N cap := hs 0; clear hT hF hk
       exact Reg.Gives.value (v := .slice (some ⟨b, 0, none⟩) N cap) (w' := wi) (by go_simp) ⟨fun x h => Option.some.inj h, hI⟩
      ·have e13 : ρ (.tmp 13) = .int .i64 (u : Int) := hs 13; clear hT hF hk
       exact Reg.Gives.value (v := .int .i64 (u : Int)) (w' := wi) (by go_simp) ⟨fun x h => Option.some.inj h, hI⟩
      ·have e0 : ρ (.tmp 0) = .slice (some ⟨b, 0, none⟩) N cap := hs 0; clear hT hF hk
       exact Reg.Gives.value (v := .slice (some ⟨b, 0, none⟩) N cap) (w' := wi) (by go_simp) ⟨fun x h => Option.some.inj h, hI⟩
      ·have e13 : ρ (.tmp 13) = .int .i64 (u : Int) := hs 13; clear hT hF hk
       exact Reg.Gives.value (v := .int .i64 (u : Int)) (w' := wi) (by go_simp) ⟨fun x h => Option.some.inj h, hI⟩
      ·have e64 : ρ (.tmp 64) = .int .i64 (u : Int) := (hd 3 64).trans (hk 3 _ rfl); have hc := hE.const; clear hT hF hk; have hx1 := HWV.out
       exact Reg.Gives.value (v := .int .i64 (v : Int)) (w' := wi) (by go_simp) ⟨fun x h => Option.some.inj h, hI⟩
      ·have e0 : ρ (.tmp 0) = .slice (some ⟨b, 0, none⟩) N cap := hs 0; clear hT hF hk
       exact Reg.Gives.value (v := .slice (some ⟨b, 0, none⟩) N cap) (w' := wi) (by go_simp) ⟨fun x h => Option.some.inj h, hI⟩
      ·have e13 : ρ (.tmp 13) = .int .i64 (u : Int) := hs 13; clear hT hF hk
       exact Reg.Gives.value (v := .int .i64 (u : Int)) (w' := wi) (by go_simp) ⟨fun x h => Option.some.inj h, hI⟩
      ·have e67 : ρ (.tmp 67) = .int .i64 (u : Int) := (hd 6 67).trans (hk 6 _ rfl); have hc := hE.const; clear hT hF hk; have hx1 := HWV.out
       exact Reg.Gives.value (v := .int .i64 (v : Int)) (w' := wi) (by go_simp) ⟨fun x h => Option.some.inj h, hI⟩
      ·have e66 : ρ (.tmp 66) = .slice (some ⟨b, 0, none⟩) N cap := (hd 5 66).trans (hk 5 _ rfl); have e68 : ρ (.tmp 68) = .int .i64 (v : Int) := (hd 7 68).trans (hk 7 _ rfl); clear hT hF hk; have hx1 := HVN.out
       exact Reg.Gives.value (v := .pointer (some ⟨b, v * 5, none⟩)) (w' := wi) (by go_simp) ⟨fun x h => Option.some.inj h, hI⟩
      ·have e69 : ρ (.tmp 69) = .pointer (some ⟨b, v * 5, none⟩) := (hd 8 69).trans (hk 8 _ rfl); have hD15 : D 15 = false := hF 1 15; have hD17 : D 17 = false := hF 1 17; clear hT hF
       rw [hD15, hD17] at hI
       have hr : Row wi b l := hI.row; have hit := hr.item HY.out; have c0 := hit.cell; have c1 := hit.version; have c2 := hit.value; have c3 := hit.write; have c4 := hit.new
       exact Reg.Gives.value (v := .agg #[.int .i64 y.cell, .int .i64 y.version, .int .i64 y.value, .bool y.write, .int .i64 y.new]) (w' := wi) (by go_simp) ⟨fun x h => Option.some.inj h, by show swSt b u v l (D 15) (D 17) x y wr wi; rw [hD15, hD17]; exact hI⟩
      ·have e0 : ρ (.tmp 0) = .slice (some ⟨b, 0, none⟩) N cap := hs 0; clear hT hF hk
       exact Reg.Gives.value (v := .slice (some ⟨b, 0, none⟩) N cap) (w' := wi) (by go_simp) ⟨fun x h => Option.some.inj h, hI⟩
      ·have e13 : ρ (.tmp 13) = .int .i64 (u : Int) := hs 13; clear hT hF hk
       exact Reg.Gives.value (v := .int .i64 (u : Int)) (w' := wi) (by go_simp) ⟨fun x h => Option.some.inj h, hI⟩
      ·have e71 : ρ (.tmp 71) = .slice (some ⟨b, 0, none⟩) N cap := (hd 10 71).trans (hk 10 _ rfl); have e72 : ρ (.tmp 72) = .int .i64 (u : Int) := (hd 11 72).trans (hk 11 _ rfl); clear hT hF hk; have hx1 := HUN.out
       exact Reg.Gives.value (v := .pointer (some ⟨b, u * 5, none⟩)) (w' := wi) (by go_simp) ⟨fun x h => Option.some.inj h, hI⟩
      ·have e73 : ρ (.tmp 73) = .pointer (some ⟨b, u * 5, none⟩) := (hd 12 73).trans (hk 12 _ rfl); have hD15 : D 15 = false := hF 1 15; have hD17 : D 17 = false := hF 1 17; clear hT hF
       rw [hD15, hD17] at hI
       have hr : Row wi b l := hI.row; have hit := hr.item HX.out; have c0 := hit.cell; have c1 := hit.version; have c2 := hit.value; have c3 := hit.write; have c4 := hit.new
       exact Reg.Gives.value (v := .agg #[.int .i64 x.cell, .int .i64 x.version, .int .i64 x.value, .bool x.write, .int .i64 x.new]) (w' := wi) (by go_simp) ⟨fun x h => Option.some.inj h, by show swSt b u v l (D 15) (D 17) x y wr wi; rw [hD15, hD17]; exact hI⟩
      ·have e61 : ρ (.tmp 61) = .slice (some ⟨b, 0, none⟩) N cap := (hd 0 61).trans (hk 0 _ rfl); have e62 : ρ (.tmp 62) = .int .i64 (u : Int) := (hd 1 62).trans (hk 1 _ rfl); clear hT hF hk; have hx1 := HUN.out
       exact Reg.Gives.value (v := .pointer (some ⟨b, u * 5, none⟩)) (w' := wi) (by go_simp) ⟨fun x h => Option.some.inj h, hI⟩
      ·have e75 : ρ (.tmp 75) = .pointer (some ⟨b, u * 5, none⟩) := (hd 14 75).trans (hk 14 _ rfl); have e70 : ρ (.tmp 70) = .agg #[.int .i64 y.cell, .int .i64 y.version, .int .i64 y.value, .bool y.write, .int .i64 y.new] := (hd 9 70).trans (hk 9 _ rfl); have hD15 : D 15 = false := hDi; have hD17 : D 17 = false := hF 1 17; clear hT hF
       rw [hD15, hD17] at hI
       have hr : Row wi b l := hI.row; have hl := HLU.out; have hit := hr.at_ hl; have c0 := hit.cell; have c1 := hit.version; have c2 := hit.value; have c3 := hit.write; have c4 := hit.new
       have f0 : wi.frozen? ⟨b, u * 5, none⟩ = false := hr.frozen hl 0 (by decide)
       have f1 : wi.frozen? ⟨b, u * 5 + 1, none⟩ = false := hr.frozen hl 1 (by decide)
       have f2 : wi.frozen? ⟨b, u * 5 + 2, none⟩ = false := hr.frozen hl 2 (by decide)
       have f3 : wi.frozen? ⟨b, u * 5 + 3, none⟩ = false := hr.frozen hl 3 (by decide)
       have f4 : wi.frozen? ⟨b, u * 5 + 4, none⟩ = false := hr.frozen hl 4 (by decide)
       clear hr hit
       exact Reg.Gives.skip (w' := put5 wi b (u * 5) y) (by unfold put5; go_simp) ⟨fun x h => (by cases h), by show swSt b u v l true (D 17) x y wr _; rw [hD17]; exact hI.put1 hl⟩
      ·have e63 : ρ (.tmp 63) = .slice (some ⟨b, 0, none⟩) N cap := (hd 2 63).trans (hk 2 _ rfl); have e65 : ρ (.tmp 65) = .int .i64 (v : Int) := (hd 4 65).trans (hk 4 _ rfl); clear hT hF hk; have hx1 := HVN.out
       exact Reg.Gives.value (v := .pointer (some ⟨b, v * 5, none⟩)) (w' := wi) (by go_simp) ⟨fun x h => Option.some.inj h, hI⟩
      ·have e76 : ρ (.tmp 76) = .pointer (some ⟨b, v * 5, none⟩) := (hd 16 76).trans (hk 16 _ rfl); have e74 : ρ (.tmp 74) = .agg #[.int .i64 x.cell, .int .i64 x.version, .int .i64 x.value, .bool x.write, .int .i64 x.new] := (hd 13 74).trans (hk 13 _ rfl); have hD15 : D 15 = true := hT 1 15; have hD17 : D 17 = false := hDi; clear hT hF
       rw [hD15, hD17] at hI
       have hr : Row wi b (l.set u y) := hI.row
       have hl : v < (l.set u y).length := by rw [List.length_set]; exact HLV.out
       have hit := hr.at_ hl; have c0 := hit.cell; have c1 := hit.version; have c2 := hit.value; have c3 := hit.write; have c4 := hit.new
       have f0 : wi.frozen? ⟨b, v * 5, none⟩ = false := hr.frozen hl 0 (by decide)
       have f1 : wi.frozen? ⟨b, v * 5 + 1, none⟩ = false := hr.frozen hl 1 (by decide)
       have f2 : wi.frozen? ⟨b, v * 5 + 2, none⟩ = false := hr.frozen hl 2 (by decide)
       have f3 : wi.frozen? ⟨b, v * 5 + 3, none⟩ = false := hr.frozen hl 3 (by decide)
       have f4 : wi.frozen? ⟨b, v * 5 + 4, none⟩ = false := hr.frozen hl 4 (by decide)
       clear hr hit
       exact Reg.Gives.skip (w' := put5 wi b (v * 5) x) (by unfold put5; go_simp) ⟨fun x h => (by cases h), by show swSt b u v l (D 15) true x y wr _; rw [hD15]; exact hI.put2 HLV.out⟩
     ·intro V w1 hk hI
      simp only [Reg.putsO, List.foldl_cons, List.foldl_nil, Act.put, List.setIfInBounds_toArray, List.set_cons_succ, List.set_cons_zero]
      replace hI : swSt b u v l true true x y wr w1 := hI
      clear hk
      have hrow := hI.row
      simp only [cond_true] at hrow
      rw [HFIN.out] at hrow
      have HPW := Lib.hid (HNX.out _ hrow)
      have HON := Lib.hid (HO2.out.trans hI.only fun _ _ e => e)
      clear hrow hI
      go_wp2_with fail
      go_roundw
      case rel => exact ⟨u + 1, Ya ++ [y], Yc, by go_num, HPW, by omega, HON.out⟩
      case measure => simp [intOf]; omega
    ·have HFN : Hid (Row wr b (P ++ (Y1 ++ x :: Y2) ++ S)) := Lib.hid (by
      obtain ⟨h1, h2, h3⟩ := hq.out
      have h4 := congrArg List.length h1
      simp only [List.length_append] at h4
      have := HYL.out; have := HM.out; have := HA.out
      obtain rfl : Yb = [] := List.eq_nil_of_length_eq_zero (by omega)
      rw [h1]
      simpa using h3)
     clear hq
     go_wp2_with fail
     go_returns
     exact ⟨rfl, Y1 ++ x :: Y2, HZ.out.1, HZ.out.2.1, HZ.out.2.2, HFN.out, HO2.out⟩
end Go.Proofs.Ytjeogeablbkhgaa.Item
