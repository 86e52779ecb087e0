/-
  slices' insertion sort, over a part of a row of items: the part rises then, and the items of each cell stand as they stood.
  Conditions: none.
-/
import Derived.Test.YtjeogeablbkhgaaP15
import Derived.Test.YtjeogeablbkhgaaP17
namespace Go.Proofs.Ytjeogeablbkhgaa.Item
open Go.RowKit Go.Proofs.Ytjeogeablbkhgaa.Mem Go.Proofs.Ytjeogeablbkhgaa.Wire
def insTest_t (b N cap u vv a : Nat) (x y : It) : Nat → Value → World → Prop
 | 0, v, _ => v = .int .i64 (u : Int)
 | 1, v, _ => v = .int .i64 (a : Int)
 | 2, v, _ => v = .bool true
 | 3, v, _ => v = .bool true
 | 4, v, _ => v = .func (.func 44) #[] #[]
 | 5, v, _ => v = .slice (some ⟨b, 0, none⟩) N cap
 | 6, v, _ => v = .int .i64 (u : Int)
 | 7, v, _ => v = .pointer (some ⟨b, u * 5, none⟩)
 | 8, v, _ => v = .agg #[.int .i64 x.cell, .int .i64 x.version, .int .i64 x.value, .bool x.write, .int .i64 x.new]
 | 9, v, _ => v = .slice (some ⟨b, 0, none⟩) N cap
 | 10, v, _ => v = .int .i64 (u : Int)
 | 11, v, _ => v = .int .i64 (vv : Int)
 | 12, v, _ => v = .pointer (some ⟨b, vv * 5, none⟩)
 | 13, v, _ => v = .agg #[.int .i64 y.cell, .int .i64 y.version, .int .i64 y.value, .bool y.write, .int .i64 y.new]
 | 14, v, _ => v = .int .i64 (cmpI x.cell y.cell)
 | 15, v, _ => v = .bool true
 | 16, v, _ => v = .bool true
 | _, _, _ => True
theorem insTest_t_later {b N cap u vv a : Nat} {x y : It} {j : Nat} {v : Value} {w w' : World} (_hb : Below w.heap.size w w') (h : insTest_t b N cap u vv a x y j v w) : insTest_t b N cap u vv a x y j v w' := by
 match j, h with
 | 0, h | 1, h | 2, h | 3, h | 4, h | 5, h | 6, h | 7, h | 8, h | 9, h | 10, h | 11, h | 12, h | 13, h | 14, h | 15, h | 16, h => exact h
 | _ + 17, _ => exact trivial
def insTest_f (b N cap u vv a : Nat) (x y : It) : Nat → Value → World → Prop
 | 0, v, _ => v = .int .i64 (u : Int)
 | 1, v, _ => v = .int .i64 (a : Int)
 | 2, v, _ => v = .bool true
 | 3, v, _ => v = .bool true
 | 4, v, _ => v = .func (.func 44) #[] #[]
 | 5, v, _ => v = .slice (some ⟨b, 0, none⟩) N cap
 | 6, v, _ => v = .int .i64 (u : Int)
 | 7, v, _ => v = .pointer (some ⟨b, u * 5, none⟩)
 | 8, v, _ => v = .agg #[.int .i64 x.cell, .int .i64 x.version, .int .i64 x.value, .bool x.write, .int .i64 x.new]
 | 9, v, _ => v = .slice (some ⟨b, 0, none⟩) N cap
 | 10, v, _ => v = .int .i64 (u : Int)
 | 11, v, _ => v = .int .i64 (vv : Int)
 | 12, v, _ => v = .pointer (some ⟨b, vv * 5, none⟩)
 | 13, v, _ => v = .agg #[.int .i64 y.cell, .int .i64 y.version, .int .i64 y.value, .bool y.write, .int .i64 y.new]
 | 14, v, _ => v = .int .i64 (cmpI x.cell y.cell)
 | 15, v, _ => v = .bool false
 | 16, v, _ => v = .bool false
 | _, _, _ => True
theorem insTest_f_later {b N cap u vv a : Nat} {x y : It} {j : Nat} {v : Value} {w w' : World} (_hb : Below w.heap.size w w') (h : insTest_f b N cap u vv a x y j v w) : insTest_f b N cap u vv a x y j v w' := by
 match j, h with
 | 0, h | 1, h | 2, h | 3, h | 4, h | 5, h | 6, h | 7, h | 8, h | 9, h | 10, h | 11, h | 12, h | 13, h | 14, h | 15, h | 16, h => exact h
 | _ + 17, _ => exact trivial
def insTest_z (u a : Nat) : Nat → Value → World → Prop
 | 0, v, _ => v = .int .i64 (u : Int)
 | 1, v, _ => v = .int .i64 (a : Int)
 | 2, v, _ => v = .bool false
 | 3, v, _ => v = .bool false
 | 4, v, _ => v = undef
 | 5, v, _ => v = undef
 | 6, v, _ => v = undef
 | 7, v, _ => v = undef
 | 8, v, _ => v = undef
 | 9, v, _ => v = undef
 | 10, v, _ => v = undef
 | 11, v, _ => v = undef
 | 12, v, _ => v = undef
 | 13, v, _ => v = undef
 | 14, v, _ => v = undef
 | 15, v, _ => v = undef
 | 16, v, _ => v = .bool false
 | _, _, _ => True
set_option maxHeartbeats 1000000 in
theorem insertion_any (P X S : List It) (b N cap a c : Nat) (w : World) (h : Row w b (P ++ X ++ S)) (hN : N = (P ++ X ++ S).length) (ha : a = P.length) (hc : c = P.length + X.length) (hX : 0 < X.length) (hl : N ≤ 1000000) :
  Calls Try.prog 52 #[.slice (some ⟨b, 0, none⟩) N cap, .int .i64 (a : Int), .int .i64 (c : Int), .func (.func 44) #[] #[]] w fun e w' => e = .returned (.tuple #[]) ∧ ∃ X', X'.length = X.length ∧ Asc X' ∧ Same X X' ∧ Row w' b (P ++ X' ++ S) ∧ Only (fun j => j = b) w w' := by
 have hlen : N = P.length + X.length + S.length := by rw [hN]; simp only [List.length_append]
 have hac : a + X.length = c := by omega
 have hcN : c ≤ 1000000 := by omega
 have HLEN := Lib.hid hlen
 have HR := Lib.hid h
 have HA := Lib.hid ha
 have HAC := Lib.hid hac
 have HXP := Lib.hid hX
 have haN : a ≤ 1000000 := by omega
 obtain ⟨x0, X0, hX0⟩ : ∃ x0 X0, X = x0 :: X0 := by
  cases X with
  | nil => simp at hX
  | cons x0 X0 => exact ⟨x0, X0, rfl⟩
 have HX0 := Lib.hid hX0
 clear h hN ha hc hX hlen hac hX0
 go_enter Try.func52, Try.ntmps52
 go_wp2_with fail
 go_loopw [8, 9] (fun i _ wr => ∃ (n : Nat) (Z T : List It), i = .int .i64 (n : Int) ∧ Hid (Z.length + a = n ∧ Z.length + T.length = X.length ∧ Asc Z ∧ Same X (Z ++ T) ∧ Row wr b (P ++ Z ++ T ++ S)) ∧ n ≤ c ∧ a < n ∧ Only (fun j => j = b) w wr) (fun i _ _ => c - (intOf i).toNat)
 case atStart =>
  refine ⟨a + 1, [x0], X0, by go_num, Lib.hid ⟨by simp; omega, by rw [HX0.out]; simp; omega, List.pairwise_singleton _ _, by rw [HX0.out]; exact Same.refl _, ?_⟩, by have := HAC.out; have := HXP.out; omega, by omega, Only.refl _ _⟩
  have := HR.out
  rw [HX0.out] at this
  simpa using this
 case round =>
  obtain ⟨n, Z, T, rfl, hp, hnc, han, ho⟩ := hrel
  have HO := Lib.hid ho
  clear ho
  by_cases hlt : n < c
  ·obtain ⟨x, T', rfl⟩ : ∃ x T', T = x :: T' := by
    cases T with
    | nil => have h1 := hp.out.1; have h2 := hp.out.2.1; have := HAC.out; simp at h2; omega
    | cons x T' => exact ⟨x, T', rfl⟩
   go_wp2_with fail
   go_loopw [9] (fun i wr => ∃ (u : Nat) (Z1 Z2 : List It), i = .int .i64 (u : Int) ∧ Hid (Z = Z1 ++ Z2 ∧ Z1.length + a = u ∧ (∀ z ∈ Z2, x.cell < z.cell) ∧ Row wr b (P ++ Z1 ++ x :: Z2 ++ T' ++ S)) ∧ u ≤ n ∧ a ≤ u ∧ Only (fun j => j = b) w wr) (fun i _ => (intOf i).toNat)
   case atStart =>
    refine ⟨n, Z, [], rfl, Lib.hid ⟨by simp, hp.out.1, fun z hz => (by cases hz), ?_⟩, Nat.le_refl _, by omega, HO.out⟩
    have := hp.out.2.2.2.2
    simpa using this
   case round =>
    obtain ⟨u, Z1, Z2, rfl, hq, hun, hau, ho2⟩ := hrel
    have HO2 := Lib.hid ho2
    have HEXT : Hid ((∀ z ∈ Z1, z.cell ≤ x.cell) → ∀ w1, Row w1 b (P ++ Z1 ++ x :: Z2 ++ T' ++ S) → ((Z1 ++ x :: Z2).length + a = n + 1 ∧ (Z1 ++ x :: Z2).length + T'.length = X.length ∧ Asc (Z1 ++ x :: Z2) ∧ Same X ((Z1 ++ x :: Z2) ++ T') ∧ Row w1 b (P ++ (Z1 ++ x :: Z2) ++ T' ++ S))) := Lib.hid fun hz w1 hr => by
     obtain ⟨h1, h2, h3, h4, h5⟩ := hp.out
     obtain ⟨k1, k2, k3, k4⟩ := hq.out
     rw [k1] at h1 h2 h3 h4
     simp only [List.length_append, List.length_cons] at h1 h2 ⊢
     refine ⟨by omega, by omega, asc_insert h3 hz k3, ?_, by simpa using hr⟩
     refine h4.trans ?_
     have hs := (same_insert (Z1 := Z1) k3).append (Same.refl T')
     simpa using hs
    clear ho2
    by_cases hua : u = a
    ·have HUA := Lib.hid hua
     have hz1 : Z1 = [] := List.eq_nil_of_length_eq_zero (by have := hq.out.2.1; omega)
     have HEX := Lib.hid (HEXT.out (by rw [hz1]; intro z hz; cases hz))
     have HROW := Lib.hid hq.out.2.2.2
     clear hua hz1
     go_wp2_with fail
     refine Reg.region_heavy (by kernel_rfl) 16 [16] (insTest_z u a) (fun a => Below wr.heap.size wr a) (fun a => Below wr.heap.size wr a) (fun V => [(some 18, V 0), (some 19, V 1), (some 20, V 2), (some 21, V 3), (some 22, V 4), (some 23, V 5), (some 24, V 6), (some 25, V 7), (some 26, V 8), (some 27, V 9), (some 28, V 10), (some 29, V 11), (some 30, V 12), (some 31, V 13), (some 32, V 14), (some 33, V 15), (some 34, V 16)]) (by kernel_rfl) (by kernel_rfl) (by kernel_rfl) (fun V => rfl) ?_ ?_ ?_
     ·exact (Below.refl _ _).drew
     ·intro i o ho
      have hi : i < 17 := (Array.getElem?_eq_some_iff.1 ho).1
      rcases i with _ | _ | _ | _ | _ | _ | _ | _ | _ | _ | _ | _ | _ | _ | _ | _ | _ | i
      rotate_right
      ·omega
      all_goals obtain rfl := Option.some.inj ho
      all_goals intro ρ wi hE hI hs hd
      all_goals try dsimp only at hI
      ·have e9 : ρ (.tmp 9) = .int .i64 (u : Int) := hs 9; exact Reg.gw hI
      ·have e1 : ρ (.tmp 1) = .int .i64 (a : Int) := hs 1; exact Reg.gw hI
      ·obtain ⟨_, rfl, e18⟩ := hd 0 18; obtain ⟨_, rfl, e19⟩ := hd 1 19; have hx := HUA.out; exact Reg.gw hI
      ·obtain ⟨_, rfl, e20⟩ := hd 2 20; exact Reg.gw hI
      ·exact Reg.no hI
      ·exact Reg.no hI
      ·exact Reg.no hI
      ·exact Reg.no hI
      ·exact Reg.no hI
      ·exact Reg.no hI
      ·exact Reg.no hI
      ·exact Reg.no hI
      ·exact Reg.no hI
      ·exact Reg.no hI
      ·exact Reg.no hI
      ·exact Reg.no hI
      ·obtain ⟨_, rfl, e21⟩ := hd 3 21; obtain ⟨_, rfl, e33⟩ := hd 15 33; have hc := hE.const; exact Reg.gw hI
     ·intro V w1 hV hI
      have hV16 : V 16 = .bool false := hV 16 (by decide) rfl
      simp only [Reg.putsO, List.foldl_cons, List.foldl_nil, Act.put, List.setIfInBounds_toArray, List.set_cons_succ, List.set_cons_zero, hV16]
      replace hI : (fun a => Below wr.heap.size wr a) w1 := hI
      clear hV hV16
      have HOW := Lib.hid (HO2.out.trans (S' := fun _ => False) (Only.of_below hI) fun _ _ e => e.elim)
      have HPW := Lib.hid (HEX.out w1 (HROW.out.later hI))
      clear hI
      go_wp2_with fail
      go_roundw
      case rel => exact ⟨n + 1, Z1 ++ x :: Z2, T', by go_num, HPW, by omega, by omega, HOW.out⟩
      case measure => simp [intOf]; omega
    ·obtain ⟨Z0, y, hz1⟩ : ∃ Z0 y, Z1 = Z0 ++ [y] := by
      rcases List.eq_nil_or_concat Z1 with e | ⟨Z0, y, e⟩
      ·exfalso
       have := hq.out.2.1
       rw [e] at this
       simp at this
       omega
      ·exact ⟨Z0, y, by simpa using e⟩
     obtain ⟨l, hll⟩ : ∃ l, l = P ++ Z1 ++ x :: Z2 ++ T' ++ S := ⟨_, rfl⟩
     obtain ⟨v, hv⟩ : ∃ v, v = u - 1 := ⟨_, rfl⟩
     have hzl : Z1.length = Z0.length + 1 := by rw [hz1]; simp
     have hu2 : u = (P ++ Z0 ++ [y]).length := by have := hq.out.2.1; have := HA.out; simp only [List.length_append, List.length_cons, List.length_nil]; omega
     have hv2 : v = (P ++ Z0).length := by have := hq.out.2.1; have := HA.out; simp only [List.length_append]; omega
     have e1 : l = (P ++ Z0 ++ [y]) ++ x :: (Z2 ++ T' ++ S) := by rw [hll, hz1]; simp
     have e2 : l = (P ++ Z0) ++ y :: (x :: Z2 ++ T' ++ S) := by rw [hll, hz1]; simp
     have HX : Hid (l[u]? = some x) := Lib.hid (by rw [e1]; exact at_mid _ _ _ _ hu2)
     have HY : Hid (l[v]? = some y) := Lib.hid (by rw [e2]; exact at_mid _ _ _ _ hv2)
     have HFIN : Hid (swapAt l u v x y = P ++ Z0 ++ x :: (y :: Z2) ++ T' ++ S) := Lib.hid (by
      unfold swapAt
      rw [e1, set_mid _ _ _ _ _ hu2, show (P ++ Z0 ++ [y]) ++ y :: (Z2 ++ T' ++ S) = (P ++ Z0) ++ y :: (y :: Z2 ++ T' ++ S) by simp, set_mid _ _ _ _ _ hv2]
      simp)
     have HLU : Hid (u < l.length) := Lib.hid (List.getElem?_eq_some_iff.1 HX.out).1
     have HLV : Hid (v < l.length) := Lib.hid (List.getElem?_eq_some_iff.1 HY.out).1
     have HLN : Hid (l.length = N) := Lib.hid (by
      have h2 := hp.out.2.1
      have h1 := hp.out.1
      have h3 := congrArg List.length hq.out.1
      rw [HLEN.out, hll]
      simp only [List.length_append, List.length_cons] at h2 h3 ⊢
      omega)
     have HUN : Hid (u < N) := Lib.hid (by have h1 := HLU.out; have h2 := HLN.out; omega)
     have HVN : Hid (v < N) := Lib.hid (by have h1 := HLV.out; have h2 := HLN.out; omega)
     have HWV : Hid (IntKind.i64.wrap ((u : Int) - 1) = (v : Int)) := Lib.hid (by rw [hv, Int.natCast_sub (by omega)]; exact IntWalk.i64_in _ (by omega))
     have HUA : Hid (a < u) := Lib.hid (by omega)
     have HROW : Hid (Row wr b l) := Lib.hid (by rw [hll]; exact hq.out.2.2.2)
     have hvu : (v : Int) = (u : Int) - 1 := by omega
     have HVU := Lib.hid hvu
     by_cases hlt2 : x.cell < y.cell
     ·have HCV : Hid (cmpI x.cell y.cell < 0) := Lib.hid ((cmp_neg _ _).2 hlt2)
      have HNX : Hid (∀ w1, Row w1 b (P ++ Z0 ++ x :: (y :: Z2) ++ T' ++ S) → (Z = Z0 ++ (y :: Z2) ∧ Z0.length + a = v ∧ (∀ z ∈ y :: Z2, x.cell < z.cell) ∧ Row w1 b (P ++ Z0 ++ x :: (y :: Z2) ++ T' ++ S))) := Lib.hid fun w1 hr => by
       obtain ⟨k1, k2, k3, k4⟩ := hq.out
       refine ⟨by rw [k1, hz1]; simp, by omega, fun z hz => ?_, hr⟩
       rcases List.mem_cons.1 hz with rfl | hz
       ·exact hlt2
       ·exact k3 z hz
      clear hz1 hll hv hzl hu2 hv2 e1 e2 hlt2 hvu
      go_wp2_with fail
      refine Reg.region_heavy (by kernel_rfl) 16 [16] (insTest_t b N cap u v a x y) (fun a => Below wr.heap.size wr a) (fun a => Below wr.heap.size wr a) (fun V => [(some 18, V 0), (some 19, V 1), (some 20, V 2), (some 21, V 3), (some 22, V 4), (some 23, V 5), (some 24, V 6), (some 25, V 7), (some 26, V 8), (some 27, V 9), (some 28, V 10), (some 29, V 11), (some 30, V 12), (some 31, V 13), (some 32, V 14), (some 33, V 15), (some 34, V 16)]) (by kernel_rfl) (by kernel_rfl) (by kernel_rfl) (fun V => rfl) ?_ ?_ ?_
      ·exact (Below.refl _ _).drew
      ·intro i o ho
       have hi : i < 17 := (Array.getElem?_eq_some_iff.1 ho).1
       rcases i with _ | _ | _ | _ | _ | _ | _ | _ | _ | _ | _ | _ | _ | _ | _ | _ | _ | i
       rotate_right
       ·omega
       all_goals obtain rfl := Option.some.inj ho
       all_goals intro ρ wi hE hI hs hd
       all_goals try dsimp only at hI
       ·have e9 : ρ (.tmp 9) = .int .i64 (u : Int) := hs 9; exact Reg.gw hI
       ·have e1 : ρ (.tmp 1) = .int .i64 (a : Int) := hs 1; exact Reg.gw hI
       ·obtain ⟨_, rfl, e18⟩ := hd 0 18; obtain ⟨_, rfl, e19⟩ := hd 1 19; have hx := HUA.out; exact Reg.gw hI
       ·obtain ⟨_, rfl, e20⟩ := hd 2 20; exact Reg.gw hI
       ·have e3 : ρ (.tmp 3) = .func (.func 44) #[] #[] := hs 3
        refine Reg.yes ?_
        exact Reg.gw hI
       ·have e0 : ρ (.tmp 0) = .slice (some ⟨b, 0, none⟩) N cap := hs 0
        refine Reg.yes ?_
        exact Reg.gw hI
       ·have e9 : ρ (.tmp 9) = .int .i64 (u : Int) := hs 9
        refine Reg.yes ?_
        exact Reg.gw hI
       ·obtain ⟨_, rfl, e23⟩ := hd 5 23; obtain ⟨_, rfl, e24⟩ := hd 6 24
        refine Reg.yes ?_
        have hx1 := HUN.out; exact Reg.gw hI
       ·obtain ⟨_, rfl, e25⟩ := hd 7 25
        refine Reg.yes ?_
        have hit := (HROW.out.later hI).item HX.out; have c0 := hit.cell; have c1 := hit.version; have c2 := hit.value; have c3 := hit.write; have c4 := hit.new; exact Reg.gw hI
       ·have e0 : ρ (.tmp 0) = .slice (some ⟨b, 0, none⟩) N cap := hs 0
        refine Reg.yes ?_
        exact Reg.gw hI
       ·have e9 : ρ (.tmp 9) = .int .i64 (u : Int) := hs 9
        refine Reg.yes ?_
        exact Reg.gw hI
       ·obtain ⟨_, rfl, e28⟩ := hd 10 28; have hc := hE.const
        refine Reg.yes ?_
        have hx1 := HWV.out; exact Reg.gw hI
       ·obtain ⟨_, rfl, e27⟩ := hd 9 27; obtain ⟨_, rfl, e29⟩ := hd 11 29
        refine Reg.yes ?_
        have hx1 := HVN.out; exact Reg.gw hI
       ·obtain ⟨_, rfl, e30⟩ := hd 12 30
        refine Reg.yes ?_
        have hit := (HROW.out.later hI).item HY.out; have c0 := hit.cell; have c1 := hit.version; have c2 := hit.value; have c3 := hit.write; have c4 := hit.new; exact Reg.gw hI
       ·obtain ⟨_, rfl, e22⟩ := hd 4 22; obtain ⟨_, rfl, e26⟩ := hd 8 26; obtain ⟨_, rfl, e31⟩ := hd 13 31
        refine Reg.yes ?_
        refine Reg.Gives.call (f := 44) (args := #[.agg #[.int .i64 x.cell, .int .i64 x.version, .int .i64 x.value, .bool x.write, .int .i64 x.new], .agg #[.int .i64 y.cell, .int .i64 y.version, .int .i64 y.value, .bool y.write, .int .i64 y.new]]) (w' := wi) (by go_simp) ?_
        refine (cmp_any x y wi).mono ?_
        rintro e w'' ⟨rfl, hbb⟩
        exact ⟨_, rfl, ⟨rfl, hI.trans (hbb.mono hI.size), fun j u _ _ h => insTest_t_later hbb h⟩⟩
       ·obtain ⟨_, rfl, e32⟩ := hd 14 32; have hc := hE.const
        refine Reg.yes ?_
        have hx := HCV.out; exact Reg.gw hI
       ·obtain ⟨_, rfl, e21⟩ := hd 3 21; obtain ⟨_, rfl, e33⟩ := hd 15 33; have hc := hE.const; exact Reg.gw hI
      ·intro V w1 hV hI
       have hV16 : V 16 = .bool true := hV 16 (by decide) rfl
       simp only [Reg.putsO, List.foldl_cons, List.foldl_nil, Act.put, List.setIfInBounds_toArray, List.set_cons_succ, List.set_cons_zero, hV16]
       replace hI : (fun a => Below wr.heap.size wr a) w1 := hI
       clear hV hV16
       have HSW : Hid (swSt b u v l false false x y wr w1.drew) := Lib.hid ⟨(HROW.out.later hI).later (Below.refl _ _).drew, Only.of_below hI.drew⟩
       clear hI
       go_wp2_with fail
       refine Reg.region_inv (by kernel_rfl) (fun i => ([some (.slice (some ⟨b, 0, none⟩) N cap), some (.int .i64 (u : Int)), some (.slice (some ⟨b, 0, none⟩) N cap), some (.int .i64 (u : Int)), some (.int .i64 (v : Int)), some (.slice (some ⟨b, 0, none⟩) N cap), some (.int .i64 (u : Int)), some (.int .i64 (v : Int)), some (.pointer (some ⟨b, v * 5, none⟩)), some (.agg #[.int .i64 y.cell, .int .i64 y.version, .int .i64 y.value, .bool y.write, .int .i64 y.new]), some (.slice (some ⟨b, 0, none⟩) N cap), some (.int .i64 (u : Int)), some (.pointer (some ⟨b, u * 5, none⟩)), some (.agg #[.int .i64 x.cell, .int .i64 x.version, .int .i64 x.value, .bool x.write, .int .i64 x.new]), some (.pointer (some ⟨b, u * 5, none⟩)), none, some (.pointer (some ⟨b, v * 5, none⟩)), none] : List (Option Value)).getD i none) (fun D V W => swSt b u v l (D 15) (D 17) x y wr W) (fun V => [(some 37, V 0), (some 38, V 1), (some 39, V 2), (some 40, V 3), (some 41, V 4), (some 42, V 5), (some 43, V 6), (some 44, V 7), (some 45, V 8), (some 46, V 9), (some 47, V 10), (some 48, V 11), (some 49, V 12), (some 50, V 13), (some 51, V 14), (none, V 15), (some 52, V 16), (none, V 17)]) (by kernel_rfl) (by kernel_rfl) (fun V => rfl) ?_ ?_ ?_
       ·intro V
        exact HSW.out
       ·intro i o ho
        have hi : i < 18 := (Array.getElem?_eq_some_iff.1 ho).1
        rcases i with _ | _ | _ | _ | _ | _ | _ | _ | _ | _ | _ | _ | _ | _ | _ | _ | _ | _ | i
        rotate_right
        ·omega
        all_goals obtain rfl := Option.some.inj ho
        all_goals intro D V ρ wi hE hI hDi hT hF hs hd hk
        ·have e0 : ρ (.tmp 0) = .slice (some ⟨b, 0, none⟩) N cap := hs 0; clear hT hF hk
         exact Reg.Gives.value (v := .slice (some ⟨b, 0, none⟩) N cap) (w' := wi) (by go_simp) ⟨fun x h => Option.some.inj h, hI⟩
        ·have e9 : ρ (.tmp 9) = .int .i64 (u : Int) := hs 9; clear hT hF hk
         exact Reg.Gives.value (v := .int .i64 (u : Int)) (w' := wi) (by go_simp) ⟨fun x h => Option.some.inj h, hI⟩
        ·have e0 : ρ (.tmp 0) = .slice (some ⟨b, 0, none⟩) N cap := hs 0; clear hT hF hk
         exact Reg.Gives.value (v := .slice (some ⟨b, 0, none⟩) N cap) (w' := wi) (by go_simp) ⟨fun x h => Option.some.inj h, hI⟩
        ·have e9 : ρ (.tmp 9) = .int .i64 (u : Int) := hs 9; clear hT hF hk
         exact Reg.Gives.value (v := .int .i64 (u : Int)) (w' := wi) (by go_simp) ⟨fun x h => Option.some.inj h, hI⟩
        ·have e40 : ρ (.tmp 40) = .int .i64 (u : Int) := (hd 3 40).trans (hk 3 _ rfl); have hc := hE.const; clear hT hF hk; have hx1 := HWV.out
         exact Reg.Gives.value (v := .int .i64 (v : Int)) (w' := wi) (by go_simp) ⟨fun x h => Option.some.inj h, hI⟩
        ·have e0 : ρ (.tmp 0) = .slice (some ⟨b, 0, none⟩) N cap := hs 0; clear hT hF hk
         exact Reg.Gives.value (v := .slice (some ⟨b, 0, none⟩) N cap) (w' := wi) (by go_simp) ⟨fun x h => Option.some.inj h, hI⟩
        ·have e9 : ρ (.tmp 9) = .int .i64 (u : Int) := hs 9; clear hT hF hk
         exact Reg.Gives.value (v := .int .i64 (u : Int)) (w' := wi) (by go_simp) ⟨fun x h => Option.some.inj h, hI⟩
        ·have e43 : ρ (.tmp 43) = .int .i64 (u : Int) := (hd 6 43).trans (hk 6 _ rfl); have hc := hE.const; clear hT hF hk; have hx1 := HWV.out
         exact Reg.Gives.value (v := .int .i64 (v : Int)) (w' := wi) (by go_simp) ⟨fun x h => Option.some.inj h, hI⟩
        ·have e42 : ρ (.tmp 42) = .slice (some ⟨b, 0, none⟩) N cap := (hd 5 42).trans (hk 5 _ rfl); have e44 : ρ (.tmp 44) = .int .i64 (v : Int) := (hd 7 44).trans (hk 7 _ rfl); clear hT hF hk; have hx1 := HVN.out
         exact Reg.Gives.value (v := .pointer (some ⟨b, v * 5, none⟩)) (w' := wi) (by go_simp) ⟨fun x h => Option.some.inj h, hI⟩
        ·have e45 : ρ (.tmp 45) = .pointer (some ⟨b, v * 5, none⟩) := (hd 8 45).trans (hk 8 _ rfl); have hD15 : D 15 = false := hF 1 15; have hD17 : D 17 = false := hF 1 17; clear hT hF
         rw [hD15, hD17] at hI
         have hr : Row wi b l := hI.row; have hit := hr.item HY.out; have c0 := hit.cell; have c1 := hit.version; have c2 := hit.value; have c3 := hit.write; have c4 := hit.new
         exact Reg.Gives.value (v := .agg #[.int .i64 y.cell, .int .i64 y.version, .int .i64 y.value, .bool y.write, .int .i64 y.new]) (w' := wi) (by go_simp) ⟨fun x h => Option.some.inj h, by show swSt b u v l (D 15) (D 17) x y wr wi; rw [hD15, hD17]; exact hI⟩
        ·have e0 : ρ (.tmp 0) = .slice (some ⟨b, 0, none⟩) N cap := hs 0; clear hT hF hk
         exact Reg.Gives.value (v := .slice (some ⟨b, 0, none⟩) N cap) (w' := wi) (by go_simp) ⟨fun x h => Option.some.inj h, hI⟩
        ·have e9 : ρ (.tmp 9) = .int .i64 (u : Int) := hs 9; clear hT hF hk
         exact Reg.Gives.value (v := .int .i64 (u : Int)) (w' := wi) (by go_simp) ⟨fun x h => Option.some.inj h, hI⟩
        ·have e47 : ρ (.tmp 47) = .slice (some ⟨b, 0, none⟩) N cap := (hd 10 47).trans (hk 10 _ rfl); have e48 : ρ (.tmp 48) = .int .i64 (u : Int) := (hd 11 48).trans (hk 11 _ rfl); clear hT hF hk; have hx1 := HUN.out
         exact Reg.Gives.value (v := .pointer (some ⟨b, u * 5, none⟩)) (w' := wi) (by go_simp) ⟨fun x h => Option.some.inj h, hI⟩
        ·have e49 : ρ (.tmp 49) = .pointer (some ⟨b, u * 5, none⟩) := (hd 12 49).trans (hk 12 _ rfl); have hD15 : D 15 = false := hF 1 15; have hD17 : D 17 = false := hF 1 17; clear hT hF
         rw [hD15, hD17] at hI
         have hr : Row wi b l := hI.row; have hit := hr.item HX.out; have c0 := hit.cell; have c1 := hit.version; have c2 := hit.value; have c3 := hit.write; have c4 := hit.new
         exact Reg.Gives.value (v := .agg #[.int .i64 x.cell, .int .i64 x.version, .int .i64 x.value, .bool x.write, .int .i64 x.new]) (w' := wi) (by go_simp) ⟨fun x h => Option.some.inj h, by show swSt b u v l (D 15) (D 17) x y wr wi; rw [hD15, hD17]; exact hI⟩
        ·have e37 : ρ (.tmp 37) = .slice (some ⟨b, 0, none⟩) N cap := (hd 0 37).trans (hk 0 _ rfl); have e38 : ρ (.tmp 38) = .int .i64 (u : Int) := (hd 1 38).trans (hk 1 _ rfl); clear hT hF hk; have hx1 := HUN.out
         exact Reg.Gives.value (v := .pointer (some ⟨b, u * 5, none⟩)) (w' := wi) (by go_simp) ⟨fun x h => Option.some.inj h, hI⟩
        ·have e51 : ρ (.tmp 51) = .pointer (some ⟨b, u * 5, none⟩) := (hd 14 51).trans (hk 14 _ rfl); have e46 : ρ (.tmp 46) = .agg #[.int .i64 y.cell, .int .i64 y.version, .int .i64 y.value, .bool y.write, .int .i64 y.new] := (hd 9 46).trans (hk 9 _ rfl); have hD15 : D 15 = false := hDi; have hD17 : D 17 = false := hF 1 17; clear hT hF
         rw [hD15, hD17] at hI
         have hr : Row wi b l := hI.row; have hl := HLU.out; have hit := hr.at_ hl; have c0 := hit.cell; have c1 := hit.version; have c2 := hit.value; have c3 := hit.write; have c4 := hit.new
         have f0 : wi.frozen? ⟨b, u * 5, none⟩ = false := hr.frozen hl 0 (by decide)
         have f1 : wi.frozen? ⟨b, u * 5 + 1, none⟩ = false := hr.frozen hl 1 (by decide)
         have f2 : wi.frozen? ⟨b, u * 5 + 2, none⟩ = false := hr.frozen hl 2 (by decide)
         have f3 : wi.frozen? ⟨b, u * 5 + 3, none⟩ = false := hr.frozen hl 3 (by decide)
         have f4 : wi.frozen? ⟨b, u * 5 + 4, none⟩ = false := hr.frozen hl 4 (by decide)
         clear hr hit
         exact Reg.Gives.skip (w' := put5 wi b (u * 5) y) (by unfold put5; go_simp) ⟨fun x h => (by cases h), by show swSt b u v l true (D 17) x y wr _; rw [hD17]; exact hI.put1 hl⟩
        ·have e39 : ρ (.tmp 39) = .slice (some ⟨b, 0, none⟩) N cap := (hd 2 39).trans (hk 2 _ rfl); have e41 : ρ (.tmp 41) = .int .i64 (v : Int) := (hd 4 41).trans (hk 4 _ rfl); clear hT hF hk; have hx1 := HVN.out
         exact Reg.Gives.value (v := .pointer (some ⟨b, v * 5, none⟩)) (w' := wi) (by go_simp) ⟨fun x h => Option.some.inj h, hI⟩
        ·have e52 : ρ (.tmp 52) = .pointer (some ⟨b, v * 5, none⟩) := (hd 16 52).trans (hk 16 _ rfl); have e50 : ρ (.tmp 50) = .agg #[.int .i64 x.cell, .int .i64 x.version, .int .i64 x.value, .bool x.write, .int .i64 x.new] := (hd 13 50).trans (hk 13 _ rfl); have hD15 : D 15 = true := hT 1 15; have hD17 : D 17 = false := hDi; clear hT hF
         rw [hD15, hD17] at hI
         have hr : Row wi b (l.set u y) := hI.row
         have hl : v < (l.set u y).length := by rw [List.length_set]; exact HLV.out
         have hit := hr.at_ hl; have c0 := hit.cell; have c1 := hit.version; have c2 := hit.value; have c3 := hit.write; have c4 := hit.new
         have f0 : wi.frozen? ⟨b, v * 5, none⟩ = false := hr.frozen hl 0 (by decide)
         have f1 : wi.frozen? ⟨b, v * 5 + 1, none⟩ = false := hr.frozen hl 1 (by decide)
         have f2 : wi.frozen? ⟨b, v * 5 + 2, none⟩ = false := hr.frozen hl 2 (by decide)
         have f3 : wi.frozen? ⟨b, v * 5 + 3, none⟩ = false := hr.frozen hl 3 (by decide)
         have f4 : wi.frozen? ⟨b, v * 5 + 4, none⟩ = false := hr.frozen hl 4 (by decide)
         clear hr hit
         exact Reg.Gives.skip (w' := put5 wi b (v * 5) x) (by unfold put5; go_simp) ⟨fun x h => (by cases h), by show swSt b u v l (D 15) true x y wr _; rw [hD15]; exact hI.put2 HLV.out⟩
       ·intro V w1 hk hI
        simp only [Reg.putsO, List.foldl_cons, List.foldl_nil, Act.put, List.setIfInBounds_toArray, List.set_cons_succ, List.set_cons_zero]
        replace hI : swSt b u v l true true x y wr w1 := hI
        clear hk
        have hrow := hI.row
        simp only [cond_true] at hrow
        rw [HFIN.out] at hrow
        have HPW := Lib.hid (HNX.out _ hrow)
        have HON := Lib.hid (HO2.out.trans hI.only fun _ _ e => e)
        clear hrow hI
        go_wp2_with fail
        go_roundw
        case rel => exact ⟨v, Z0, y :: Z2, by rw [HVU.out], HPW, by have := HVU.out; omega, by have := HVU.out; have := HUA.out; omega, HON.out⟩
        case measure => have := HUA.out; simp [intOf]; omega
     ·have HCV : Hid (0 ≤ cmpI x.cell y.cell) := Lib.hid (by have := cmp_neg x.cell y.cell; omega)
      have HEX := Lib.hid (HEXT.out (by
       obtain ⟨h1, h2, h3, h4, h5⟩ := hp.out
       rw [hq.out.1, hz1] at h3
       intro z hz
       rw [hz1] at hz
       rcases List.mem_append.1 hz with hz | hz
       ·have := h3.left.cross z hz y (by simp)
        omega
       ·rw [List.mem_singleton.1 hz]
        omega))
      have HROW' := HROW.out
      rw [hll] at HROW'
      have HEXR := Lib.hid HROW'
      clear hz1 hv hzl hu2 hv2 e1 e2 hlt2 hvu HROW'
      go_wp2_with fail
      refine Reg.region_heavy (by kernel_rfl) 16 [16] (insTest_f b N cap u v a x y) (fun a => Below wr.heap.size wr a) (fun a => Below wr.heap.size wr a) (fun V => [(some 18, V 0), (some 19, V 1), (some 20, V 2), (some 21, V 3), (some 22, V 4), (some 23, V 5), (some 24, V 6), (some 25, V 7), (some 26, V 8), (some 27, V 9), (some 28, V 10), (some 29, V 11), (some 30, V 12), (some 31, V 13), (some 32, V 14), (some 33, V 15), (some 34, V 16)]) (by kernel_rfl) (by kernel_rfl) (by kernel_rfl) (fun V => rfl) ?_ ?_ ?_
      ·exact (Below.refl _ _).drew
      ·intro i o ho
       have hi : i < 17 := (Array.getElem?_eq_some_iff.1 ho).1
       rcases i with _ | _ | _ | _ | _ | _ | _ | _ | _ | _ | _ | _ | _ | _ | _ | _ | _ | i
       rotate_right
       ·omega
       all_goals obtain rfl := Option.some.inj ho
       all_goals intro ρ wi hE hI hs hd
       all_goals try dsimp only at hI
       ·have e9 : ρ (.tmp 9) = .int .i64 (u : Int) := hs 9; exact Reg.gw hI
       ·have e1 : ρ (.tmp 1) = .int .i64 (a : Int) := hs 1; exact Reg.gw hI
       ·obtain ⟨_, rfl, e18⟩ := hd 0 18; obtain ⟨_, rfl, e19⟩ := hd 1 19; have hx := HUA.out; exact Reg.gw hI
       ·obtain ⟨_, rfl, e20⟩ := hd 2 20; exact Reg.gw hI
       ·have e3 : ρ (.tmp 3) = .func (.func 44) #[] #[] := hs 3
        refine Reg.yes ?_
        exact Reg.gw hI
       ·have e0 : ρ (.tmp 0) = .slice (some ⟨b, 0, none⟩) N cap := hs 0
        refine Reg.yes ?_
        exact Reg.gw hI
       ·have e9 : ρ (.tmp 9) = .int .i64 (u : Int) := hs 9
        refine Reg.yes ?_
        exact Reg.gw hI
       ·obtain ⟨_, rfl, e23⟩ := hd 5 23; obtain ⟨_, rfl, e24⟩ := hd 6 24
        refine Reg.yes ?_
        have hx1 := HUN.out; exact Reg.gw hI
       ·obtain ⟨_, rfl, e25⟩ := hd 7 25
        refine Reg.yes ?_
        have hit := (HROW.out.later hI).item HX.out; have c0 := hit.cell; have c1 := hit.version; have c2 := hit.value; have c3 := hit.write; have c4 := hit.new; exact Reg.gw hI
       ·have e0 : ρ (.tmp 0) = .slice (some ⟨b, 0, none⟩) N cap := hs 0
        refine Reg.yes ?_
        exact Reg.gw hI
       ·have e9 : ρ (.tmp 9) = .int .i64 (u : Int) := hs 9
        refine Reg.yes ?_
        exact Reg.gw hI
       ·obtain ⟨_, rfl, e28⟩ := hd 10 28; have hc := hE.const
        refine Reg.yes ?_
        have hx1 := HWV.out; exact Reg.gw hI
       ·obtain ⟨_, rfl, e27⟩ := hd 9 27; obtain ⟨_, rfl, e29⟩ := hd 11 29
        refine Reg.yes ?_
        have hx1 := HVN.out; exact Reg.gw hI
       ·obtain ⟨_, rfl, e30⟩ := hd 12 30
        refine Reg.yes ?_
        have hit := (HROW.out.later hI).item HY.out; have c0 := hit.cell; have c1 := hit.version; have c2 := hit.value; have c3 := hit.write; have c4 := hit.new; exact Reg.gw hI
       ·obtain ⟨_, rfl, e22⟩ := hd 4 22; obtain ⟨_, rfl, e26⟩ := hd 8 26; obtain ⟨_, rfl, e31⟩ := hd 13 31
        refine Reg.yes ?_
        refine Reg.Gives.call (f := 44) (args := #[.agg #[.int .i64 x.cell, .int .i64 x.version, .int .i64 x.value, .bool x.write, .int .i64 x.new], .agg #[.int .i64 y.cell, .int .i64 y.version, .int .i64 y.value, .bool y.write, .int .i64 y.new]]) (w' := wi) (by go_simp) ?_
        refine (cmp_any x y wi).mono ?_
        rintro e w'' ⟨rfl, hbb⟩
        exact ⟨_, rfl, ⟨rfl, hI.trans (hbb.mono hI.size), fun j u _ _ h => insTest_f_later hbb h⟩⟩
       ·obtain ⟨_, rfl, e32⟩ := hd 14 32; have hc := hE.const
        refine Reg.yes ?_
        have hx := HCV.out; exact Reg.gw hI
       ·obtain ⟨_, rfl, e21⟩ := hd 3 21; obtain ⟨_, rfl, e33⟩ := hd 15 33; have hc := hE.const; exact Reg.gw hI
      ·intro V w1 hV hI
       have hV16 : V 16 = .bool false := hV 16 (by decide) rfl
       simp only [Reg.putsO, List.foldl_cons, List.foldl_nil, Act.put, List.setIfInBounds_toArray, List.set_cons_succ, List.set_cons_zero, hV16]
       replace hI : (fun a => Below wr.heap.size wr a) w1 := hI
       clear hV hV16
       have HOW := Lib.hid (HO2.out.trans (S' := fun _ => False) (Only.of_below hI) fun _ _ e => e.elim)
       have HPW := Lib.hid (HEX.out w1 (HEXR.out.later hI))
       clear hI
       go_wp2_with fail
       go_roundw
       case rel => exact ⟨n + 1, Z1 ++ x :: Z2, T', by go_num, HPW, by omega, by omega, HOW.out⟩
       case measure => simp [intOf]; omega
  ·have HX : Hid (Z.length = X.length ∧ Asc Z ∧ Same X Z ∧ Row wr b (P ++ Z ++ S)) := Lib.hid (by
    obtain ⟨h1, h2, h3, h4, h5⟩ := hp.out
    have := HAC.out
    obtain rfl : T = [] := List.eq_nil_of_length_eq_zero (by omega)
    exact ⟨by simpa using h2, h3, by simpa using h4, by simpa using h5⟩)
   clear hp
   go_wp2_with fail
   go_returns
   exact ⟨rfl, Z, HX.out.1, HX.out.2.1, HX.out.2.2.1, HX.out.2.2.2, HO.out⟩
end Go.Proofs.Ytjeogeablbkhgaa.Item
