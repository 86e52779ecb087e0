/-
  slices' symMerge, where the right part is one item: it is put behind all that aren't above it.
  Conditions: none.
-/
import Derived.Test.YtjeogeablbkhgaaP16
import Derived.Test.YtjeogeablbkhgaaP17
namespace Go.Proofs.Ytjeogeablbkhgaa.Item
open Go.RowKit Go.Proofs.Ytjeogeablbkhgaa.Mem Go.Proofs.Ytjeogeablbkhgaa.Wire
def mgTR_t (b N cap hh m : Nat) (x y : It) : Nat → Value → World → Prop
 | 0, v, _ => v = .func (.func 44) #[] #[]
 | 1, v, _ => v = .slice (some ⟨b, 0, none⟩) N cap
 | 2, v, _ => v = .int .i64 (m : Int)
 | 3, v, _ => v = .pointer (some ⟨b, m * 5, none⟩)
 | 4, v, _ => v = .agg #[.int .i64 x.cell, .int .i64 x.version, .int .i64 x.value, .bool x.write, .int .i64 x.new]
 | 5, v, _ => v = .slice (some ⟨b, 0, none⟩) N cap
 | 6, v, _ => v = .int .i64 (hh : Int)
 | 7, v, _ => v = .pointer (some ⟨b, hh * 5, none⟩)
 | 8, v, _ => v = .agg #[.int .i64 y.cell, .int .i64 y.version, .int .i64 y.value, .bool y.write, .int .i64 y.new]
 | 9, v, _ => v = .int .i64 (cmpI x.cell y.cell)
 | 10, v, _ => v = .bool true
 | 11, v, _ => v = .bool false
 | _, _, _ => True
theorem mgTR_t_later {b N cap hh m : Nat} {x y : It} {j : Nat} {v : Value} {w w' : World} (_hb : Below w.heap.size w w') (h : mgTR_t b N cap hh m x y j v w) : mgTR_t b N cap hh m x y j v w' := by
 match j, h with
 | 0, h | 1, h | 2, h | 3, h | 4, h | 5, h | 6, h | 7, h | 8, h | 9, h | 10, h | 11, h => exact h
 | _ + 12, _ => exact trivial
def mgTR_f (b N cap hh m : Nat) (x y : It) : Nat → Value → World → Prop
 | 0, v, _ => v = .func (.func 44) #[] #[]
 | 1, v, _ => v = .slice (some ⟨b, 0, none⟩) N cap
 | 2, v, _ => v = .int .i64 (m : Int)
 | 3, v, _ => v = .pointer (some ⟨b, m * 5, none⟩)
 | 4, v, _ => v = .agg #[.int .i64 x.cell, .int .i64 x.version, .int .i64 x.value, .bool x.write, .int .i64 x.new]
 | 5, v, _ => v = .slice (some ⟨b, 0, none⟩) N cap
 | 6, v, _ => v = .int .i64 (hh : Int)
 | 7, v, _ => v = .pointer (some ⟨b, hh * 5, none⟩)
 | 8, v, _ => v = .agg #[.int .i64 y.cell, .int .i64 y.version, .int .i64 y.value, .bool y.write, .int .i64 y.new]
 | 9, v, _ => v = .int .i64 (cmpI x.cell y.cell)
 | 10, v, _ => v = .bool false
 | 11, v, _ => v = .bool true
 | _, _, _ => True
theorem mgTR_f_later {b N cap hh m : Nat} {x y : It} {j : Nat} {v : Value} {w w' : World} (_hb : Below w.heap.size w w') (h : mgTR_f b N cap hh m x y j v w) : mgTR_f b N cap hh m x y j v w' := by
 match j, h with
 | 0, h | 1, h | 2, h | 3, h | 4, h | 5, h | 6, h | 7, h | 8, h | 9, h | 10, h | 11, h => exact h
 | _ + 12, _ => exact trivial
set_option maxHeartbeats 1000000 in
set_option maxRecDepth 100000 in
theorem mergeR_any (P X S : List It) (x : It) (b N cap a m c : Nat) (w : World) (h : Row w b (P ++ X ++ x :: S)) (hN : N = (P ++ X ++ x :: S).length) (ha : a = P.length) (hm : m = P.length + X.length) (hc : c = P.length + X.length + 1) (hX : Asc X) (hX2 : 2 ≤ X.length) (hl : N ≤ 1000000) :
  Calls Try.prog 53 #[.slice (some ⟨b, 0, none⟩) N cap, .int .i64 (a : Int), .int .i64 (m : Int), .int .i64 (c : Int), .func (.func 44) #[] #[]] w fun e w' => e = .returned (.tuple #[]) ∧ ∃ Z, Z.length = X.length + 1 ∧ Asc Z ∧ Same (X ++ [x]) Z ∧ Row w' b (P ++ Z ++ S) ∧ Only (fun j => j = b) w w' := by
 have hlen : N = P.length + X.length + 1 + S.length := by rw [hN]; simp only [List.length_append, List.length_cons]; omega
 have hma : m ≤ 1000000 := by omega
 have hcN : c ≤ 1000000 := by omega
 have haN : a ≤ 1000000 := by omega
 have HLEN := Lib.hid hlen
 have HR := Lib.hid h
 have HA := Lib.hid ha
 have HM := Lib.hid (show a + X.length = m by omega)
 have HXA := Lib.hid hX
 have hn1 : ((m : Int) - (a : Int) == 1) = false := by simp; omega
 have HSB := Lib.hid (show (c : Int) - (m : Int) = 1 by omega)
 clear h hN ha hm hc hlen hX hX2
 go_enter Try.func53, Try.ntmps53
 have hsub := HSB.out
 go_wp2_with fail
 clear hsub hn1
 go_loopw [14, 15, 16] (fun i j _ wr => ∃ (p q : Nat), i = .int .i64 (p : Int) ∧ j = .int .i64 (q : Int) ∧ a ≤ p ∧ p ≤ q ∧ q ≤ m ∧ Hid ((∀ k (hk : k < X.length), k + a < p → X[k].cell ≤ x.cell) ∧ (∀ k (hk : k < X.length), q ≤ k + a → x.cell < X[k].cell) ∧ Row wr b (P ++ X ++ x :: S)) ∧ Below w.heap.size w wr) (fun i j _ _ => (intOf j).toNat - (intOf i).toNat)
 case atStart => exact ⟨a, m, rfl, rfl, Nat.le_refl _, by have := HM.out; omega, Nat.le_refl _, Lib.hid ⟨fun k hk h => by omega, fun k hk h => by have := HM.out; omega, HR.out⟩, Below.refl _ _⟩
 case round =>
  obtain ⟨p, q, rfl, rfl, hmp, hpq, hqc, hp, hbr⟩ := hrel
  have HBR := Lib.hid hbr
  clear hbr
  by_cases hlt : p < q
  ·obtain ⟨hh, hhh⟩ : ∃ hh, hh = (p + q) / 2 := ⟨_, rfl⟩
   have HHE : Hid (((p : Int) + (q : Int)) / 2 = (hh : Int)) := Lib.hid (by rw [hhh]; omega)
   have hp1 : p ≤ hh := by omega
   have hp2 : hh < q := by omega
   have hky : hh - a < X.length := by have := HM.out; omega
   obtain ⟨y, hy⟩ : ∃ y, y = X[hh - a] := ⟨_, rfl⟩
   obtain ⟨l, hll⟩ : ∃ l, l = P ++ X ++ x :: S := ⟨_, rfl⟩
   have HROW : Hid (Row wr b l) := Lib.hid (by rw [hll]; exact hp.out.2.2)
   have HXM : Hid (l[m]? = some x) := Lib.hid (by rw [hll]; exact at_mid _ _ _ _ (by have := HM.out; have := HA.out; simp only [List.length_append]; omega))
   have HYH : Hid (l[hh]? = some y) := Lib.hid (by
    have h1 := HM.out
    have h2 := HA.out
    rw [hll, hy, List.getElem?_append_left (by simp only [List.length_append]; omega), List.getElem?_append_right (by omega), show hh - P.length = hh - a by omega, List.getElem?_eq_getElem hky])
   have HHN : Hid (hh < N) := Lib.hid (by have := HLEN.out; have := HM.out; have := HA.out; omega)
   have HMN : Hid (m < N) := Lib.hid (by have := HA.out; have := HM.out; have := HLEN.out; omega)
   have HLO : Hid (y.cell ≤ x.cell → ∀ k (hk : k < X.length), k + a < hh + 1 → X[k].cell ≤ x.cell) := Lib.hid fun h k hk hlt => by
    have := asc_get HXA.out (i := k) (j := hh - a) (by omega) hky
    rw [← hy] at this
    omega
   have HHI : Hid (x.cell < y.cell → ∀ k (hk : k < X.length), hh ≤ k + a → x.cell < X[k].cell) := Lib.hid fun h k hk hle => by
    have := asc_get HXA.out (i := hh - a) (j := k) (by omega) hk
    rw [← hy] at this
    omega
   have HRR : Hid (∀ w1, Row w1 b l → Row w1 b (P ++ X ++ x :: S)) := Lib.hid fun w1 h => by rw [← hll]; exact h
   clear hhh hky hy hll
   by_cases hcv : x.cell < y.cell
   ·have HCV : Hid (cmpI x.cell y.cell < 0) := Lib.hid ((cmp_neg _ _).2 hcv)
    have HH2 := Lib.hid (HHI.out hcv)
    clear hcv
    go_wp2_with fail
    rw [HHE.out]
    refine Reg.region_heavy (by kernel_rfl) 11 [11] (mgTR_t b N cap hh m x y) (fun a => Below wr.heap.size wr a) (fun a => Below wr.heap.size wr a) (fun V => [(some 92, V 0), (some 93, V 1), (some 94, V 2), (some 95, V 3), (some 96, V 4), (some 97, V 5), (some 98, V 6), (some 99, V 7), (some 100, V 8), (some 101, V 9), (some 102, V 10), (some 103, V 11)]) (by kernel_rfl) (by kernel_rfl) (by kernel_rfl) (fun V => rfl) ?_ ?_ ?_
    ·exact (Below.refl _ _).drew
    ·intro i o ho
     have hi : i < 12 := (Array.getElem?_eq_some_iff.1 ho).1
     rcases i with _ | _ | _ | _ | _ | _ | _ | _ | _ | _ | _ | _ | i
     rotate_right
     ·omega
     all_goals obtain rfl := Option.some.inj ho
     all_goals intro ρ wi hE hI hs hd
     all_goals try dsimp only at hI
     ·have e4 : ρ (.tmp 4) = .func (.func 44) #[] #[] := hs 4; exact Reg.gw hI
     ·have e0 : ρ (.tmp 0) = .slice (some ⟨b, 0, none⟩) N cap := hs 0; exact Reg.gw hI
     ·have e2 : ρ (.tmp 2) = .int .i64 (m : Int) := hs 2; exact Reg.gw hI
     ·obtain ⟨_, rfl, e93⟩ := hd 1 93; obtain ⟨_, rfl, e94⟩ := hd 2 94; have hx := HMN.out; exact Reg.gw hI
     ·obtain ⟨_, rfl, e95⟩ := hd 3 95; have hit := (HROW.out.later hI).item HXM.out; have c0 := hit.cell; have c1 := hit.version; have c2 := hit.value; have c3 := hit.write; have c4 := hit.new; exact Reg.gw hI
     ·have e0 : ρ (.tmp 0) = .slice (some ⟨b, 0, none⟩) N cap := hs 0; exact Reg.gw hI
     ·have e16 : ρ (.tmp 16) = .int .i64 (hh : Int) := hs 16; exact Reg.gw hI
     ·obtain ⟨_, rfl, e97⟩ := hd 5 97; obtain ⟨_, rfl, e98⟩ := hd 6 98; have hx := HHN.out; exact Reg.gw hI
     ·obtain ⟨_, rfl, e99⟩ := hd 7 99; have hit := (HROW.out.later hI).item HYH.out; have c0 := hit.cell; have c1 := hit.version; have c2 := hit.value; have c3 := hit.write; have c4 := hit.new; exact Reg.gw hI
     ·obtain ⟨_, rfl, e92⟩ := hd 0 92; obtain ⟨_, rfl, e96⟩ := hd 4 96; obtain ⟨_, rfl, e100⟩ := hd 8 100
      refine Reg.Gives.call (f := 44) (args := #[.agg #[.int .i64 x.cell, .int .i64 x.version, .int .i64 x.value, .bool x.write, .int .i64 x.new], .agg #[.int .i64 y.cell, .int .i64 y.version, .int .i64 y.value, .bool y.write, .int .i64 y.new]]) (w' := wi) (by go_simp) ?_
      refine (cmp_any x y wi).mono ?_
      rintro e w'' ⟨rfl, hbb⟩
      exact ⟨_, rfl, ⟨rfl, hI.trans (hbb.mono hI.size), fun j u _ _ h => mgTR_t_later hbb h⟩⟩
     ·obtain ⟨_, rfl, e101⟩ := hd 9 101; have hc := hE.const; have hx := HCV.out; exact Reg.gw hI
     ·obtain ⟨_, rfl, e102⟩ := hd 10 102; exact Reg.gw hI
    ·intro V w1 hV hI
     have hV11 : V 11 = .bool false := hV 11 (by decide) rfl
     simp only [Reg.putsO, List.foldl_cons, List.foldl_nil, Act.put, List.setIfInBounds_toArray, List.set_cons_succ, List.set_cons_zero, hV11]
     replace hI : (fun a => Below wr.heap.size wr a) w1 := hI
     clear hV hV11
     have HBW := Lib.hid (HBR.out.trans (hI.mono HBR.out.size))
     have HRW := Lib.hid (HROW.out.later hI)
     clear hI
     go_wp2_with fail
     go_roundw
     case rel => exact ⟨p, hh, rfl, rfl, hmp, by omega, by omega, Lib.hid ⟨hp.out.1, HH2.out, HRR.out _ HRW.out⟩, HBW.out⟩
     case measure => simp [intOf]; omega
   ·have HCV : Hid (0 ≤ cmpI x.cell y.cell) := Lib.hid (by have := cmp_neg x.cell y.cell; omega)
    have HL2 := Lib.hid (HLO.out (by omega))
    clear hcv
    go_wp2_with fail
    rw [HHE.out]
    refine Reg.region_heavy (by kernel_rfl) 11 [11] (mgTR_f b N cap hh m x y) (fun a => Below wr.heap.size wr a) (fun a => Below wr.heap.size wr a) (fun V => [(some 92, V 0), (some 93, V 1), (some 94, V 2), (some 95, V 3), (some 96, V 4), (some 97, V 5), (some 98, V 6), (some 99, V 7), (some 100, V 8), (some 101, V 9), (some 102, V 10), (some 103, V 11)]) (by kernel_rfl) (by kernel_rfl) (by kernel_rfl) (fun V => rfl) ?_ ?_ ?_
    ·exact (Below.refl _ _).drew
    ·intro i o ho
     have hi : i < 12 := (Array.getElem?_eq_some_iff.1 ho).1
     rcases i with _ | _ | _ | _ | _ | _ | _ | _ | _ | _ | _ | _ | i
     rotate_right
     ·omega
     all_goals obtain rfl := Option.some.inj ho
     all_goals intro ρ wi hE hI hs hd
     all_goals try dsimp only at hI
     ·have e4 : ρ (.tmp 4) = .func (.func 44) #[] #[] := hs 4; exact Reg.gw hI
     ·have e0 : ρ (.tmp 0) = .slice (some ⟨b, 0, none⟩) N cap := hs 0; exact Reg.gw hI
     ·have e2 : ρ (.tmp 2) = .int .i64 (m : Int) := hs 2; exact Reg.gw hI
     ·obtain ⟨_, rfl, e93⟩ := hd 1 93; obtain ⟨_, rfl, e94⟩ := hd 2 94; have hx := HMN.out; exact Reg.gw hI
     ·obtain ⟨_, rfl, e95⟩ := hd 3 95; have hit := (HROW.out.later hI).item HXM.out; have c0 := hit.cell; have c1 := hit.version; have c2 := hit.value; have c3 := hit.write; have c4 := hit.new; exact Reg.gw hI
     ·have e0 : ρ (.tmp 0) = .slice (some ⟨b, 0, none⟩) N cap := hs 0; exact Reg.gw hI
     ·have e16 : ρ (.tmp 16) = .int .i64 (hh : Int) := hs 16; exact Reg.gw hI
     ·obtain ⟨_, rfl, e97⟩ := hd 5 97; obtain ⟨_, rfl, e98⟩ := hd 6 98; have hx := HHN.out; exact Reg.gw hI
     ·obtain ⟨_, rfl, e99⟩ := hd 7 99; have hit := (HROW.out.later hI).item HYH.out; have c0 := hit.cell; have c1 := hit.version; have c2 := hit.value; have c3 := hit.write; have c4 := hit.new; exact Reg.gw hI
     ·obtain ⟨_, rfl, e92⟩ := hd 0 92; obtain ⟨_, rfl, e96⟩ := hd 4 96; obtain ⟨_, rfl, e100⟩ := hd 8 100
      refine Reg.Gives.call (f := 44) (args := #[.agg #[.int .i64 x.cell, .int .i64 x.version, .int .i64 x.value, .bool x.write, .int .i64 x.new], .agg #[.int .i64 y.cell, .int .i64 y.version, .int .i64 y.value, .bool y.write, .int .i64 y.new]]) (w' := wi) (by go_simp) ?_
      refine (cmp_any x y wi).mono ?_
      rintro e w'' ⟨rfl, hbb⟩
      exact ⟨_, rfl, ⟨rfl, hI.trans (hbb.mono hI.size), fun j u _ _ h => mgTR_f_later hbb h⟩⟩
     ·obtain ⟨_, rfl, e101⟩ := hd 9 101; have hc := hE.const; have hx := HCV.out; exact Reg.gw hI
     ·obtain ⟨_, rfl, e102⟩ := hd 10 102; exact Reg.gw hI
    ·intro V w1 hV hI
     have hV11 : V 11 = .bool true := hV 11 (by decide) rfl
     simp only [Reg.putsO, List.foldl_cons, List.foldl_nil, Act.put, List.setIfInBounds_toArray, List.set_cons_succ, List.set_cons_zero, hV11]
     replace hI : (fun a => Below wr.heap.size wr a) w1 := hI
     clear hV hV11
     have HBW := Lib.hid (HBR.out.trans (hI.mono HBR.out.size))
     have HRW := Lib.hid (HROW.out.later hI)
     clear hI
     go_wp2_with fail
     go_roundw
     case rel => exact ⟨hh + 1, q, by go_num, rfl, by omega, by omega, hqc, Lib.hid ⟨HL2.out, hp.out.2.1, HRR.out _ HRW.out⟩, HBW.out⟩
     case measure => simp [intOf]; omega
  ·obtain rfl : p = q := by omega
   obtain ⟨X1, X2, hX12, hX1⟩ : ∃ X1 X2, X = X1 ++ X2 ∧ X1.length = p - a := ⟨X.take (p - a), X.drop (p - a), (List.take_append_drop _ X).symm, by rw [List.length_take]; have := HM.out; omega⟩
   have hlo : ∀ z ∈ X1, z.cell ≤ x.cell := fun z hz => by
    obtain ⟨k, hk, rfl⟩ := List.getElem_of_mem hz
    have h1 := hp.out.1 k (by rw [hX12, List.length_append]; omega) (by omega)
    simp only [hX12] at h1
    rw [List.getElem_append_left hk] at h1
    exact h1
   have hhi : ∀ z ∈ X2, x.cell < z.cell := fun z hz => by
    obtain ⟨k, hk, rfl⟩ := List.getElem_of_mem hz
    have h1 := hp.out.2.1 (X1.length + k) (by rw [hX12, List.length_append]; omega) (by omega)
    simp only [hX12] at h1
    rw [List.getElem_append_right (by omega)] at h1
    simpa using h1
   have HZ : Hid ((X1 ++ x :: X2).length = X.length + 1 ∧ Asc (X1 ++ x :: X2) ∧ Same (X ++ [x]) (X1 ++ x :: X2)) := Lib.hid (by
    have hxa := HXA.out
    rw [hX12] at hxa ⊢
    exact ⟨by simp only [List.length_append, List.length_cons]; omega, asc_insert hxa hlo hhi, same_insert hhi⟩)
   have HROW : Hid (Row wr b (P ++ X1 ++ X2 ++ x :: S)) := Lib.hid (by have := hp.out.2.2; rw [hX12] at this; simpa using this)
   have HXL : Hid (X1.length + a = p) := Lib.hid (by omega)
   have HNL : Hid (P.length + X1.length + X2.length + 1 + S.length = N) := Lib.hid (by rw [HLEN.out, hX12, List.length_append]; omega)
   have HML : Hid (X1.length + X2.length + a = m) := Lib.hid (by have := HM.out; rw [hX12, List.length_append] at this; omega)
   clear hp hX12 hX1 hlo hhi
   go_wp2_with fail
   go_loopw [17] (fun i wr => ∃ (u : Nat) (Xa Xb : List It), i = .int .i64 (u : Int) ∧ Hid (X2 = Xa ++ Xb ∧ Xa.length + p = u ∧ Row wr b (P ++ X1 ++ Xa ++ x :: Xb ++ S)) ∧ p ≤ u ∧ u ≤ m ∧ Only (fun j => j = b) w wr) (fun i _ => (intOf i).toNat)
   case atStart => exact ⟨m, X2, [], rfl, Lib.hid ⟨by simp, by have := HML.out; have := HXL.out; omega, by simpa using HROW.out⟩, by have := HML.out; have := HXL.out; omega, Nat.le_refl _, (Only.of_below (S := fun _ => False) HBR.out).mono fun _ _ e => e.elim⟩
   case round =>
    obtain ⟨u, Xa, Xb, rfl, hq, hup, hum, ho2⟩ := hrel
    have HO2 := Lib.hid ho2
    clear ho2
    by_cases hlt2 : p < u
    ·obtain ⟨X0, y, hxa⟩ : ∃ X0 y, Xa = X0 ++ [y] := by
      rcases List.eq_nil_or_concat Xa with e | ⟨X0, y, e⟩
      ·exfalso
       have := hq.out.2.1
       rw [e] at this
       simp at this
       omega
      ·exact ⟨X0, y, by simpa using e⟩
     obtain ⟨l, hll⟩ : ∃ l, l = P ++ X1 ++ Xa ++ x :: Xb ++ S := ⟨_, rfl⟩
     obtain ⟨v, hv⟩ : ∃ v, v = u - 1 := ⟨_, rfl⟩
     have hxl : Xa.length = X0.length + 1 := by rw [hxa]; simp
     have hu2 : u = (P ++ X1 ++ X0 ++ [y]).length := by have := hq.out.2.1; have := HA.out; have := HXL.out; simp only [List.length_append, List.length_cons, List.length_nil]; omega
     have hv2 : v = (P ++ X1 ++ X0).length := by have := hq.out.2.1; have := HA.out; have := HXL.out; simp only [List.length_append]; omega
     have e1 : l = (P ++ X1 ++ X0 ++ [y]) ++ x :: (Xb ++ S) := by rw [hll, hxa]; simp
     have e2 : l = (P ++ X1 ++ X0) ++ y :: (x :: Xb ++ S) := by rw [hll, hxa]; simp
     have HX : Hid (l[u]? = some x) := Lib.hid (by rw [e1]; exact at_mid _ _ _ _ hu2)
     have HY : Hid (l[v]? = some y) := Lib.hid (by rw [e2]; exact at_mid _ _ _ _ hv2)
     have HFIN : Hid (swapAt l u v x y = P ++ X1 ++ X0 ++ x :: (y :: Xb) ++ S) := Lib.hid (by
      unfold swapAt
      rw [e1, set_mid _ _ _ _ _ hu2, show (P ++ X1 ++ X0 ++ [y]) ++ y :: (Xb ++ S) = (P ++ X1 ++ X0) ++ y :: (y :: Xb ++ S) by simp, set_mid _ _ _ _ _ hv2]
      simp)
     have HLU : Hid (u < l.length) := Lib.hid (List.getElem?_eq_some_iff.1 HX.out).1
     have HLV : Hid (v < l.length) := Lib.hid (List.getElem?_eq_some_iff.1 HY.out).1
     have HLN : Hid (l.length = N) := Lib.hid (by
      have h1 := congrArg List.length hq.out.1
      have := HNL.out
      rw [hll]
      simp only [List.length_append, List.length_cons] at h1 ⊢
      omega)
     have HUN : Hid (u < N) := Lib.hid (by have h1 := HLU.out; have h2 := HLN.out; omega)
     have HVN : Hid (v < N) := Lib.hid (by have h1 := HLV.out; have h2 := HLN.out; omega)
     have HWV : Hid (IntKind.i64.wrap ((u : Int) - 1) = (v : Int)) := Lib.hid (by rw [hv, Int.natCast_sub (by omega)]; exact IntWalk.i64_in _ (by omega))
     have HVU : Hid ((v : Int) = (u : Int) - 1) := Lib.hid (by omega)
     have HROW2 : Hid (Row wr b l) := Lib.hid (by rw [hll]; exact hq.out.2.2)
     have HSW : Hid (swSt b u v l false false x y wr wr.drew) := Lib.hid ⟨HROW2.out.later (Below.refl _ _).drew, Only.of_below (Below.refl _ _).drew⟩
     have HNX : Hid (∀ w1, Row w1 b (P ++ X1 ++ X0 ++ x :: (y :: Xb) ++ S) → (X2 = X0 ++ (y :: Xb) ∧ X0.length + p = v ∧ Row w1 b (P ++ X1 ++ X0 ++ x :: (y :: Xb) ++ S))) := Lib.hid fun w1 hr => ⟨by rw [hq.out.1, hxa]; simp, by have := hq.out.2.1; omega, hr⟩
     clear hxa hll hv hxl hu2 hv2 e1 e2
     go_wp2_with fail
     refine Reg.region_inv (by kernel_rfl) (fun i => ([some (.slice (some ⟨b, 0, none⟩) N cap), some (.int .i64 (u : Int)), some (.slice (some ⟨b, 0, none⟩) N cap), some (.int .i64 (u : Int)), some (.int .i64 (v : Int)), some (.slice (some ⟨b, 0, none⟩) N cap), some (.int .i64 (u : Int)), some (.int .i64 (v : Int)), some (.pointer (some ⟨b, v * 5, none⟩)), some (.agg #[.int .i64 y.cell, .int .i64 y.version, .int .i64 y.value, .bool y.write, .int .i64 y.new]), some (.slice (some ⟨b, 0, none⟩) N cap), some (.int .i64 (u : Int)), some (.pointer (some ⟨b, u * 5, none⟩)), some (.agg #[.int .i64 x.cell, .int .i64 x.version, .int .i64 x.value, .bool x.write, .int .i64 x.new]), some (.pointer (some ⟨b, u * 5, none⟩)), none, some (.pointer (some ⟨b, v * 5, none⟩)), none] : List (Option Value)).getD i none) (fun D V W => swSt b u v l (D 15) (D 17) x y wr W) (fun V => [(some 113, V 0), (some 114, V 1), (some 115, V 2), (some 116, V 3), (some 117, V 4), (some 118, V 5), (some 119, V 6), (some 120, V 7), (some 121, V 8), (some 122, V 9), (some 123, V 10), (some 124, V 11), (some 125, V 12), (some 126, V 13), (some 127, V 14), (none, V 15), (some 128, V 16), (none, V 17)]) (by kernel_rfl) (by kernel_rfl) (fun V => rfl) ?_ ?_ ?_
     ·intro V
      exact HSW.out
     ·intro i o ho
      have hi : i < 18 := (Array.getElem?_eq_some_iff.1 ho).1
      rcases i with _ | _ | _ | _ | _ | _ | _ | _ | _ | _ | _ | _ | _ | _ | _ | _ | _ | _ | i
      rotate_right
      ·omega
      all_goals obtain rfl := Option.some.inj ho
      all_goals intro D V ρ wi hE hI hDi hT hF hs hd hk
      ·have e0 : ρ (.tmp 0) = .slice (some ⟨b, 0, none⟩) N cap := hs 0; clear hT hF hk
       exact Reg.Gives.value (v := .slice (some ⟨b, 0, none⟩) N cap) (w' := wi) (by go_simp) ⟨fun x h => Option.some.inj h, hI⟩
      ·have e17 : ρ (.tmp 17) = .int .i64 (u : Int) := hs 17; clear hT hF hk
       exact Reg.Gives.value (v := .int .i64 (u : Int)) (w' := wi) (by go_simp) ⟨fun x h => Option.some.inj h, hI⟩
      ·have e0 : ρ (.tmp 0) = .slice (some ⟨b, 0, none⟩) N cap := hs 0; clear hT hF hk
       exact Reg.Gives.value (v := .slice (some ⟨b, 0, none⟩) N cap) (w' := wi) (by go_simp) ⟨fun x h => Option.some.inj h, hI⟩
      ·have e17 : ρ (.tmp 17) = .int .i64 (u : Int) := hs 17; clear hT hF hk
       exact Reg.Gives.value (v := .int .i64 (u : Int)) (w' := wi) (by go_simp) ⟨fun x h => Option.some.inj h, hI⟩
      ·have e116 : ρ (.tmp 116) = .int .i64 (u : Int) := (hd 3 116).trans (hk 3 _ rfl); have hc := hE.const; clear hT hF hk; have hx1 := HWV.out
       exact Reg.Gives.value (v := .int .i64 (v : Int)) (w' := wi) (by go_simp) ⟨fun x h => Option.some.inj h, hI⟩
      ·have e0 : ρ (.tmp 0) = .slice (some ⟨b, 0, none⟩) N cap := hs 0; clear hT hF hk
       exact Reg.Gives.value (v := .slice (some ⟨b, 0, none⟩) N cap) (w' := wi) (by go_simp) ⟨fun x h => Option.some.inj h, hI⟩
      ·have e17 : ρ (.tmp 17) = .int .i64 (u : Int) := hs 17; clear hT hF hk
       exact Reg.Gives.value (v := .int .i64 (u : Int)) (w' := wi) (by go_simp) ⟨fun x h => Option.some.inj h, hI⟩
      ·have e119 : ρ (.tmp 119) = .int .i64 (u : Int) := (hd 6 119).trans (hk 6 _ rfl); have hc := hE.const; clear hT hF hk; have hx1 := HWV.out
       exact Reg.Gives.value (v := .int .i64 (v : Int)) (w' := wi) (by go_simp) ⟨fun x h => Option.some.inj h, hI⟩
      ·have e118 : ρ (.tmp 118) = .slice (some ⟨b, 0, none⟩) N cap := (hd 5 118).trans (hk 5 _ rfl); have e120 : ρ (.tmp 120) = .int .i64 (v : Int) := (hd 7 120).trans (hk 7 _ rfl); clear hT hF hk; have hx1 := HVN.out
       exact Reg.Gives.value (v := .pointer (some ⟨b, v * 5, none⟩)) (w' := wi) (by go_simp) ⟨fun x h => Option.some.inj h, hI⟩
      ·have e121 : ρ (.tmp 121) = .pointer (some ⟨b, v * 5, none⟩) := (hd 8 121).trans (hk 8 _ rfl); have hD15 : D 15 = false := hF 1 15; have hD17 : D 17 = false := hF 1 17; clear hT hF
       rw [hD15, hD17] at hI
       have hr : Row wi b l := hI.row; have hit := hr.item HY.out; have c0 := hit.cell; have c1 := hit.version; have c2 := hit.value; have c3 := hit.write; have c4 := hit.new
       exact Reg.Gives.value (v := .agg #[.int .i64 y.cell, .int .i64 y.version, .int .i64 y.value, .bool y.write, .int .i64 y.new]) (w' := wi) (by go_simp) ⟨fun x h => Option.some.inj h, by show swSt b u v l (D 15) (D 17) x y wr wi; rw [hD15, hD17]; exact hI⟩
      ·have e0 : ρ (.tmp 0) = .slice (some ⟨b, 0, none⟩) N cap := hs 0; clear hT hF hk
       exact Reg.Gives.value (v := .slice (some ⟨b, 0, none⟩) N cap) (w' := wi) (by go_simp) ⟨fun x h => Option.some.inj h, hI⟩
      ·have e17 : ρ (.tmp 17) = .int .i64 (u : Int) := hs 17; clear hT hF hk
       exact Reg.Gives.value (v := .int .i64 (u : Int)) (w' := wi) (by go_simp) ⟨fun x h => Option.some.inj h, hI⟩
      ·have e123 : ρ (.tmp 123) = .slice (some ⟨b, 0, none⟩) N cap := (hd 10 123).trans (hk 10 _ rfl); have e124 : ρ (.tmp 124) = .int .i64 (u : Int) := (hd 11 124).trans (hk 11 _ rfl); clear hT hF hk; have hx1 := HUN.out
       exact Reg.Gives.value (v := .pointer (some ⟨b, u * 5, none⟩)) (w' := wi) (by go_simp) ⟨fun x h => Option.some.inj h, hI⟩
      ·have e125 : ρ (.tmp 125) = .pointer (some ⟨b, u * 5, none⟩) := (hd 12 125).trans (hk 12 _ rfl); have hD15 : D 15 = false := hF 1 15; have hD17 : D 17 = false := hF 1 17; clear hT hF
       rw [hD15, hD17] at hI
       have hr : Row wi b l := hI.row; have hit := hr.item HX.out; have c0 := hit.cell; have c1 := hit.version; have c2 := hit.value; have c3 := hit.write; have c4 := hit.new
       exact Reg.Gives.value (v := .agg #[.int .i64 x.cell, .int .i64 x.version, .int .i64 x.value, .bool x.write, .int .i64 x.new]) (w' := wi) (by go_simp) ⟨fun x h => Option.some.inj h, by show swSt b u v l (D 15) (D 17) x y wr wi; rw [hD15, hD17]; exact hI⟩
      ·have e113 : ρ (.tmp 113) = .slice (some ⟨b, 0, none⟩) N cap := (hd 0 113).trans (hk 0 _ rfl); have e114 : ρ (.tmp 114) = .int .i64 (u : Int) := (hd 1 114).trans (hk 1 _ rfl); clear hT hF hk; have hx1 := HUN.out
       exact Reg.Gives.value (v := .pointer (some ⟨b, u * 5, none⟩)) (w' := wi) (by go_simp) ⟨fun x h => Option.some.inj h, hI⟩
      ·have e127 : ρ (.tmp 127) = .pointer (some ⟨b, u * 5, none⟩) := (hd 14 127).trans (hk 14 _ rfl); have e122 : ρ (.tmp 122) = .agg #[.int .i64 y.cell, .int .i64 y.version, .int .i64 y.value, .bool y.write, .int .i64 y.new] := (hd 9 122).trans (hk 9 _ rfl); have hD15 : D 15 = false := hDi; have hD17 : D 17 = false := hF 1 17; clear hT hF
       rw [hD15, hD17] at hI
       have hr : Row wi b l := hI.row; have hl := HLU.out; have hit := hr.at_ hl; have c0 := hit.cell; have c1 := hit.version; have c2 := hit.value; have c3 := hit.write; have c4 := hit.new
       have f0 : wi.frozen? ⟨b, u * 5, none⟩ = false := hr.frozen hl 0 (by decide)
       have f1 : wi.frozen? ⟨b, u * 5 + 1, none⟩ = false := hr.frozen hl 1 (by decide)
       have f2 : wi.frozen? ⟨b, u * 5 + 2, none⟩ = false := hr.frozen hl 2 (by decide)
       have f3 : wi.frozen? ⟨b, u * 5 + 3, none⟩ = false := hr.frozen hl 3 (by decide)
       have f4 : wi.frozen? ⟨b, u * 5 + 4, none⟩ = false := hr.frozen hl 4 (by decide)
       clear hr hit
       exact Reg.Gives.skip (w' := put5 wi b (u * 5) y) (by unfold put5; go_simp) ⟨fun x h => (by cases h), by show swSt b u v l true (D 17) x y wr _; rw [hD17]; exact hI.put1 hl⟩
      ·have e115 : ρ (.tmp 115) = .slice (some ⟨b, 0, none⟩) N cap := (hd 2 115).trans (hk 2 _ rfl); have e117 : ρ (.tmp 117) = .int .i64 (v : Int) := (hd 4 117).trans (hk 4 _ rfl); clear hT hF hk; have hx1 := HVN.out
       exact Reg.Gives.value (v := .pointer (some ⟨b, v * 5, none⟩)) (w' := wi) (by go_simp) ⟨fun x h => Option.some.inj h, hI⟩
      ·have e128 : ρ (.tmp 128) = .pointer (some ⟨b, v * 5, none⟩) := (hd 16 128).trans (hk 16 _ rfl); have e126 : ρ (.tmp 126) = .agg #[.int .i64 x.cell, .int .i64 x.version, .int .i64 x.value, .bool x.write, .int .i64 x.new] := (hd 13 126).trans (hk 13 _ rfl); have hD15 : D 15 = true := hT 1 15; have hD17 : D 17 = false := hDi; clear hT hF
       rw [hD15, hD17] at hI
       have hr : Row wi b (l.set u y) := hI.row
       have hl : v < (l.set u y).length := by rw [List.length_set]; exact HLV.out
       have hit := hr.at_ hl; have c0 := hit.cell; have c1 := hit.version; have c2 := hit.value; have c3 := hit.write; have c4 := hit.new
       have f0 : wi.frozen? ⟨b, v * 5, none⟩ = false := hr.frozen hl 0 (by decide)
       have f1 : wi.frozen? ⟨b, v * 5 + 1, none⟩ = false := hr.frozen hl 1 (by decide)
       have f2 : wi.frozen? ⟨b, v * 5 + 2, none⟩ = false := hr.frozen hl 2 (by decide)
       have f3 : wi.frozen? ⟨b, v * 5 + 3, none⟩ = false := hr.frozen hl 3 (by decide)
       have f4 : wi.frozen? ⟨b, v * 5 + 4, none⟩ = false := hr.frozen hl 4 (by decide)
       clear hr hit
       exact Reg.Gives.skip (w' := put5 wi b (v * 5) x) (by unfold put5; go_simp) ⟨fun x h => (by cases h), by show swSt b u v l (D 15) true x y wr _; rw [hD15]; exact hI.put2 HLV.out⟩
     ·intro V w1 hk hI
      simp only [Reg.putsO, List.foldl_cons, List.foldl_nil, Act.put, List.setIfInBounds_toArray, List.set_cons_succ, List.set_cons_zero]
      replace hI : swSt b u v l true true x y wr w1 := hI
      clear hk
      have hrow := hI.row
      simp only [cond_true] at hrow
      rw [HFIN.out] at hrow
      have HPW := Lib.hid (HNX.out _ hrow)
      have HON := Lib.hid (HO2.out.trans hI.only fun _ _ e => e)
      clear hrow hI
      go_wp2_with fail
      go_roundw
      case rel => exact ⟨v, X0, y :: Xb, by rw [HVU.out], HPW, by have := HVU.out; omega, by have := HVU.out; omega, HON.out⟩
      case measure => simp [intOf]; omega
    ·have HFN : Hid (Row wr b (P ++ (X1 ++ x :: X2) ++ S)) := Lib.hid (by
      obtain ⟨h1, h2, h3⟩ := hq.out
      obtain rfl : Xa = [] := List.eq_nil_of_length_eq_zero (by omega)
      rw [h1]
      simpa using h3)
     clear hq
     go_wp2_with fail
     go_returns
     exact ⟨rfl, X1 ++ x :: X2, HZ.out.1, HZ.out.2.1, HZ.out.2.2, HFN.out, HO2.out⟩
end Go.Proofs.Ytjeogeablbkhgaa.Item
