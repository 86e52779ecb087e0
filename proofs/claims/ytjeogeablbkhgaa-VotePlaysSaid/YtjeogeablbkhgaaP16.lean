/-
  slices' rotate, over a row of items: two parts side by side change places.
  Conditions: none.
-/
import Derived.Test.YtjeogeablbkhgaaP15
namespace Go.Proofs.Ytjeogeablbkhgaa.Item
open Go.RowKit Go.Proofs.Ytjeogeablbkhgaa.Mem Go.Proofs.Ytjeogeablbkhgaa.Wire
set_option maxHeartbeats 1000000 in
theorem rotate_any (P X Y S : List It) (b N cap a m c : Nat) (f : Value) (w : World) (h : Row w b (P ++ X ++ Y ++ S)) (hN : N = (P ++ X ++ Y ++ S).length) (ha : a = P.length) (hm : m = P.length + X.length) (hc : c = P.length + X.length + Y.length) (hX : 0 < X.length) (hY : 0 < Y.length) (hl : N ≤ 1000000) :
  Calls Try.prog 54 #[.slice (some ⟨b, 0, none⟩) N cap, .int .i64 (a : Int), .int .i64 (m : Int), .int .i64 (c : Int), f] w fun e w' => e = .returned (.tuple #[]) ∧ Row w' b (P ++ Y ++ X ++ S) ∧ Only (fun j => j = b) w w' := by
 have hlen : N = P.length + X.length + Y.length + S.length := by rw [hN]; simp only [List.length_append]
 have hma : m ≤ 1000000 := by omega
 have ham : a ≤ m := by omega
 have hmc : m ≤ c := by omega
 have hcN : c ≤ 1000000 := by omega
 have HLEN := Lib.hid hlen
 have HR := Lib.hid h
 have HX := Lib.hid (show (m : Int) - (a : Int) = (X.length : Int) by omega)
 have HY := Lib.hid (show (c : Int) - (m : Int) = (Y.length : Int) by omega)
 have HM := Lib.hid hm
 have HXP := Lib.hid hX
 have HYP := Lib.hid hY
 clear h hN ha hm hc hX hY hlen
 go_enter Try.func54, Try.ntmps54
 go_wp2_with fail
 rw [HX.out, HY.out]
 go_loopw [10, 11] (fun i j wr => ∃ (n k : Nat) (P1 X1 Y1 S1 : List It), i = .int .i64 (n : Int) ∧ j = .int .i64 (k : Int) ∧ Hid (X1.length = n ∧ Y1.length = k ∧ P1.length + n = m ∧ P1 ++ Y1 ++ X1 ++ S1 = P ++ Y ++ X ++ S ∧ Row wr b (P1 ++ X1 ++ Y1 ++ S1)) ∧ 0 < n ∧ 0 < k ∧ m + k ≤ N ∧ n ≤ m ∧ Only (fun j => j = b) w wr) (fun i j _ => (intOf i).toNat + (intOf j).toNat)
 case atStart => exact ⟨X.length, Y.length, P, X, Y, S, rfl, rfl, Lib.hid ⟨rfl, rfl, HM.out.symm, rfl, HR.out⟩, HXP.out, HYP.out, by have := HLEN.out; have := HM.out; omega, by have := HM.out; omega, Only.refl _ _⟩
 case round =>
  obtain ⟨n, k, P1, X1, Y1, S1, rfl, rfl, hp, hn, hk, hmk, hnm, ho⟩ := hrel
  have HO := Lib.hid ho
  have HTOT : Hid ((P1 ++ X1 ++ Y1 ++ S1).length = N) := Lib.hid (by
   have h1 := congrArg List.length hp.out.2.2.2.1
   simp only [List.length_append] at h1 ⊢
   have := HLEN.out
   omega)
  clear ho
  by_cases heq : n = k
  ·subst heq
   have hsub : (m : Int) - (n : Int) = ((m - n : Nat) : Int) := by omega
   have HSW := Lib.hid (swapRange_any P1 X1 [] Y1 S1 b N cap (m - n) m n f wr (by simpa using hp.out.2.2.2.2) (by rw [← HTOT.out]; simp) (by have := hp.out.2.2.1; omega) (by have := hp.out.2.2.1; have := hp.out.1; simp; omega) hp.out.1 hp.out.2.1 hl)
   rw [← hsub] at HSW
   clear hsub
   go_wp2_with fail
   refine HSW.out.mono ?_
   rintro e w2 ⟨rfl, hr2, ho2⟩
   have HR2 : Hid (Row w2 b (P ++ Y ++ X ++ S)) := Lib.hid (by rw [← hp.out.2.2.2.1]; simpa using hr2)
   have HO2 := Lib.hid (HO.out.trans ho2 fun _ _ e => e)
   clear hr2 ho2
   go_wp2_with fail
   go_returns
   exact ⟨rfl, HR2.out, HO2.out⟩
  ·by_cases hgt : k < n
   ·obtain ⟨Xa, Xb, hXab, hXa⟩ : ∃ Xa Xb, X1 = Xa ++ Xb ∧ Xa.length = k := ⟨X1.take k, X1.drop k, (List.take_append_drop k X1).symm, by rw [List.length_take]; have := hp.out.1; omega⟩
    have hXb : Xb.length = n - k := by have := hp.out.1; rw [hXab, List.length_append] at this; omega
    have hsub : (m : Int) - (n : Int) = ((m - n : Nat) : Int) := by omega
    have HSW := Lib.hid (swapRange_any P1 Xa Xb Y1 S1 b N cap (m - n) m k f wr (by have h1 := hp.out.2.2.2.2; rw [hXab] at h1; simpa using h1) (by rw [← HTOT.out, hXab]; simp) (by have := hp.out.2.2.1; omega) (by have := hp.out.2.2.1; simp only [List.length_append]; omega) hXa hp.out.2.1 hl)
    rw [← hsub] at HSW
    have HNW : Hid (∀ w2, Row w2 b (P1 ++ Y1 ++ Xb ++ Xa ++ S1) → (Xb.length = n - k ∧ Xa.length = k ∧ (P1 ++ Y1).length + (n - k) = m ∧ (P1 ++ Y1) ++ Xa ++ Xb ++ S1 = P ++ Y ++ X ++ S ∧ Row w2 b ((P1 ++ Y1) ++ Xb ++ Xa ++ S1))) := Lib.hid fun w2 h2 => by
     refine ⟨hXb, hXa, ?_, ?_, by simpa using h2⟩
     ·have := hp.out.2.2.1; have := hp.out.2.1; simp only [List.length_append]; omega
     ·rw [← hp.out.2.2.2.1, hXab]; simp
    have hne : ((n : Int) != (k : Int)) = true := by simp; omega
    clear hsub hXab hXa hXb
    go_wp2_with fail
    refine HSW.out.mono ?_
    rintro e w2 ⟨rfl, hr2, ho2⟩
    have HP2 := Lib.hid (HNW.out w2 hr2)
    have HO2 := Lib.hid (HO.out.trans ho2 fun _ _ e => e)
    clear hr2 ho2
    go_wp2_with fail
    go_roundw
    case rel => exact ⟨n - k, k, P1 ++ Y1, Xb, Xa, S1, by rw [Int.natCast_sub (by omega)], rfl, HP2, by omega, hk, by omega, by omega, HO2.out⟩
    case measure => simp [intOf]; omega
   ·obtain ⟨Ya, Yb, hYab, hYb⟩ : ∃ Ya Yb, Y1 = Ya ++ Yb ∧ Yb.length = n := ⟨Y1.take (k - n), Y1.drop (k - n), (List.take_append_drop _ Y1).symm, by rw [List.length_drop]; have := hp.out.2.1; omega⟩
    have hYa : Ya.length = k - n := by have := hp.out.2.1; rw [hYab, List.length_append] at this; omega
    have hsub : (m : Int) - (n : Int) = ((m - n : Nat) : Int) := by omega
    have hsub2 : (m : Int) + (k : Int) - (n : Int) = ((m + k - n : Nat) : Int) := by omega
    have HSW := Lib.hid (swapRange_any P1 X1 Ya Yb S1 b N cap (m - n) (m + k - n) n f wr (by have h1 := hp.out.2.2.2.2; rw [hYab] at h1; simpa using h1) (by rw [← HTOT.out, hYab]; simp) (by have := hp.out.2.2.1; omega) (by have := hp.out.2.2.1; have := hp.out.1; simp only [List.length_append]; omega) hp.out.1 hYb hl)
    rw [← hsub, ← hsub2] at HSW
    have HNW : Hid (∀ w2, Row w2 b (P1 ++ Yb ++ Ya ++ X1 ++ S1) → (Yb.length = n ∧ Ya.length = k - n ∧ P1.length + n = m ∧ P1 ++ Ya ++ Yb ++ (X1 ++ S1) = P ++ Y ++ X ++ S ∧ Row w2 b (P1 ++ Yb ++ Ya ++ (X1 ++ S1)))) := Lib.hid fun w2 h2 => by
     refine ⟨hYb, hYa, hp.out.2.2.1, ?_, by simpa using h2⟩
     rw [← hp.out.2.2.2.1, hYab]; simp
    have hne : ((n : Int) != (k : Int)) = true := by simp; omega
    clear hsub hsub2 hYab hYa hYb
    go_wp2_with fail
    refine HSW.out.mono ?_
    rintro e w2 ⟨rfl, hr2, ho2⟩
    have HP2 := Lib.hid (HNW.out w2 hr2)
    have HO2 := Lib.hid (HO.out.trans ho2 fun _ _ e => e)
    clear hr2 ho2
    go_wp2_with fail
    go_roundw
    case rel => exact ⟨n, k - n, P1, Yb, Ya, X1 ++ S1, rfl, by rw [Int.natCast_sub (by omega)], HP2, hn, by omega, by omega, hnm, HO2.out⟩
    case measure => simp [intOf]; omega
end Go.Proofs.Ytjeogeablbkhgaa.Item
