/-
  Layer 15: Neighbours, Path. Conditions: none.
-/
import Derived.Test.YteieehlllfnmcaaSpn1
import Derived.Test.YteieehlllfnmcaaIntRev
namespace Go.Proofs.Yteieehlllfnmcaa.Spn
set_option maxRecDepth 100000
open Go.RowKit Go.Deep Go.Proofs.Yteieehlllfnmcaa.Mem

def nearI (n m : Int) : List Nat := if hasB n m then nearL n.toNat m.toNat else []
theorem childL_len (a b : Nat) : (childL a b).length ≤ 2 := by unfold childL; rw [List.length_range']; omega
theorem Neighbours_any (n m : Int) (w : World) : Calls Try.prog 27 #[.int .i64 n, .int .i64 m] w fun e w' => ∃ v, e = .returned v ∧ NR w.heap.size w' v (nearI n m) ∧ Below w.heap.size w w' := by
  have HH := Lib.hid (has_any n m w)
  unfold nearI
  cases hb : hasB n m with
  | false =>
    rw [hb] at HH
    rw [if_neg Bool.false_ne_true]
    clear hb
    go_enter Try.func27, Try.ntmps27
    go_wp2_with fail
    refine HH.out.mono ?_
    rintro e w1 ⟨rfl, rfl⟩
    go_wp2_with fail
    go_returns
    exact ⟨_, rfl, OwnG.nil _ _ _ _ _, Below.refl _ _⟩
  | true =>
    rw [hb] at HH
    rw [if_pos rfl]
    have hb2 := hb
    obtain ⟨a, b, rfl, rfl, h1, h2, h3⟩ := has_nat hb
    simp only [Int.toNat_natCast]
    have HC : Hid (childI (a : Int) (b : Int) = childL a b) := Lib.hid (by unfold childI; rw [if_pos hb2, Int.toNat_natCast, Int.toNat_natCast])
    have HP := Lib.hid (Parent_any (a : Int) (by omega) w)
    have hpa : parI (a : Int) = ((a / 2 : Nat) : Int) := by unfold parI; rw [if_neg (by omega)]; omega
    obtain ⟨q, hq⟩ : ∃ q, a / 2 = q := ⟨_, rfl⟩
    rw [hpa, hq] at HP
    have HQ := Lib.hid hq
    clear hb hb2 hpa hq
    by_cases hq0 : q = 0
    · subst hq0
      have HNL : Hid (nearL a b = childL a b) := Lib.hid (by unfold nearL; rw [if_pos HQ.out]; rfl)
      go_enter Try.func27, Try.ntmps27
      go_wp2_with fail
      refine HH.out.mono ?_
      rintro e w1 ⟨rfl, rfl⟩
      clear HH
      go_wp2_with fail
      refine HP.out.mono ?_
      rintro e w2 ⟨rfl, rfl⟩
      clear HP
      have HCC := Lib.hid (Children_any (a : Int) (b : Int) w2)
      rw [HC.out] at HCC
      go_wp2_with fail
      refine HCC.out.mono ?_
      rintro e w3 ⟨v, rfl, hrow, hb3⟩
      obtain ⟨A2, c2, rfl, _, hs2, hA2⟩ := hrow.islice
      obtain ⟨A3, n3, c3, w4, hrun, hrow4, ho4, _⟩ := OwnG.icat (B := w2.heap.size) (f := fun n : Nat => (n : Int)) (l := []) (OwnG.nil _ _ _ _ w3) hs2 hA2 hb3.size (by have := childL_len a b; simp; omega)
      have HRUN := Lib.hid hrun
      have HRW := Lib.hid hrow4
      have HBE := Lib.hid (hb3.trans (ho4.below hb3.size fun k e => by cases e))
      clear hrow hb3 hs2 hA2 hrun hrow4 ho4 HCC
      go_wp2_with (at_builtin
                   refine Lib.wpList_append_run _ rfl (.tmp 19) (.tmp 22) 24 24 rfl (.slice none 0 0) _ rfl rfl _ _ HRUN.out ?_)
      go_returns
      exact ⟨_, rfl, by rw [HNL.out]; exact HRW.out, HBE.out⟩
    · have hq1 : 0 < q := by omega
      have hq16 : q ≤ 16 := by have := HQ.out; omega
      have HNL : Hid (nearL a b = [q] ++ childL a b) := Lib.hid (by unfold nearL; rw [HQ.out, if_neg hq0])
      obtain ⟨A1, n1, c1, w1a, hrun1, hrow1, ho1, _⟩ := OwnG.iapp (B := w.heap.size) (f := fun n : Nat => (n : Int)) (l := []) (OwnG.nil _ _ _ _ w) q (Nat.le_refl _) (by simp)
      have hn1 := (OwnG.irow hrow1).1
      have hn1' : n1 = 1 := by simpa using hn1
      subst hn1'
      have hb1 := ho1.below (Nat.le_refl _) fun k e => by cases e
      have HRUN1 := Lib.hid hrun1
      have HRW1 := Lib.hid hrow1
      have HB1 := Lib.hid hb1
      have HCC := Lib.hid (Children_any (a : Int) (b : Int) w1a)
      rw [HC.out] at HCC
      clear hrun1 hrow1 ho1 hb1 hn1
      go_enter Try.func27, Try.ntmps27
      go_wp2_with fail
      refine HH.out.mono ?_
      rintro e w1 ⟨rfl, rfl⟩
      clear HH
      go_wp2_with fail
      refine HP.out.mono ?_
      rintro e w2 ⟨rfl, rfl⟩
      clear HP
      go_upto_region 6 with (fail)
      go_wp2_with (at_builtin
                   refine Lib.wpList_append_run (w2.alloc (.cells #[.int .i64 (q : Int)] 3)) rfl (.tmp 15) (.tmp 17) 24 24 rfl (.slice none 0 0) (.slice (some ⟨w2.heap.size, 0, none⟩) 1 1) rfl rfl _ _ HRUN1.out ?_)
      refine HCC.out.mono ?_
      rintro e w3 ⟨v, rfl, hrow, hb3⟩
      obtain ⟨A2, c2, rfl, _, hs2, hA2⟩ := hrow.islice
      obtain ⟨A3, n3, c3, w4, hrun, hrow4, ho4, _⟩ := OwnG.icat (HRW1.out.later hb3) hs2 hA2 (Nat.le_trans HB1.out.size hb3.size) (by have := childL_len a b; simp; omega)
      have HRUN := Lib.hid hrun
      have HRW := Lib.hid hrow4
      have HBE := Lib.hid ((HB1.out.trans (hb3.mono HB1.out.size)).trans (ho4.below (Nat.le_trans HB1.out.size hb3.size) fun k e => (HRW1.out.lt (by rw [own_blk]; exact e.symm)).1))
      clear hrow hb3 hs2 hA2 hrun hrow4 ho4 HCC
      go_wp2_with (at_builtin
                   refine Lib.wpList_append_run _ rfl (.tmp 19) (.tmp 22) 24 24 rfl _ _ rfl rfl _ _ HRUN.out ?_)
      go_returns
      exact ⟨_, rfl, by rw [HNL.out]; exact HRW.out, HBE.out⟩
end Go.Proofs.Yteieehlllfnmcaa.Spn
