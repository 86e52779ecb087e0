/-
  Layer 14, SessionOnce: two sessions meet.
  Conditions: none.
-/
import Derived.Test.YtccdpgbmkiapdaaL39
import Derived.Test.YtccdpgbmkiapdaaL40
import Derived.MapFrom
namespace Go.Proofs.Ytccdpgbmkiapdaa.Ses
set_option maxRecDepth 100000
open Go.ChangeShapes Go.WideShapes Go.ChangeAt Go.RowKit Go.Deep Go.Proofs.Ytccdpgbmkiapdaa.Mem Go.Proofs.Ytccdpgbmkiapdaa.Win
set_option maxHeartbeats 2000000 in
theorem meet_pair (w : World) :
  Calls Try.prog 29 #[] w fun e w' => ∃ pb s0 s1 mf mt F0 F1, e = .returned (.pointer (some ⟨pb, 0, none⟩)) ∧ w.heap.size ≤ pb ∧ SAt w.heap.size F0 w' s0 (newS 1 2 1) ∧ SAt w.heap.size F1 w' s1 (newS 2 2 1) ∧ (∀ k, F0 k → ¬ F1 k) ∧ (∀ k, F0 k → k ≠ pb ∧ k ≠ mf ∧ k ≠ mt) ∧ (∀ k, F1 k → k ≠ pb ∧ k ≠ mf ∧ k ≠ mt) ∧
   Cells w' pb 86 [.pointer (some ⟨s0, 0, none⟩), .pointer (some ⟨s1, 0, none⟩), .int .i64 1, .int .i64 1, .slice none 0 0, .int .i64 0, .map (some mf), .map (some mt)] ∧
   KM Try.prog 9 w' mf 0 (fun _ _ => False) ∧ KM Try.prog 9 w' mt 0 (fun _ _ => False) ∧ mf ≠ mt ∧ mf ≠ pb ∧ mt ≠ pb ∧ Below w.heap.size w w' ∧ w.heap.size ≤ mf ∧ w.heap.size ≤ mt := by
 have hmm := @run_makeMap Try.prog
 obtain ⟨wA, hwA⟩ : ∃ W, W = ((w.alloc (.map #[] 0)).alloc (.map #[] 0)).alloc (.cells #[.pointer none, .pointer none, .int .i64 0, .int .i64 0, .slice none 0 0, .int .i64 0, .map (some w.heap.size), .map (some (w.heap.size + 1))] 86) := ⟨_, rfl⟩
 have hz1 : (w.alloc (.map #[] 0)).heap.size = w.heap.size + 1 := World.size_alloc _ _
 have hz2 : ((w.alloc (.map #[] 0)).alloc (.map #[] 0)).heap.size = w.heap.size + 1 + 1 := by rw [World.size_alloc, hz1]
 have hz3 : wA.heap.size = w.heap.size + 1 + 1 + 1 := by rw [hwA, World.size_alloc, hz2]
 have hb1 := below_alloc w (.map #[] 0)
 have hb2 := below_alloc (w.alloc (.map #[] 0)) (.map #[] 0)
 have hb3 : Below ((w.alloc (.map #[] 0)).alloc (.map #[] 0)).heap.size ((w.alloc (.map #[] 0)).alloc (.map #[] 0)) wA := by rw [hwA]; exact below_alloc _ _
 have HBA : Hid (Below w.heap.size w wA) := Lib.hid (by
  refine (hb1.trans (hb2.mono ?_)).trans (hb3.mono ?_)
  ·rw [hz1]; exact Nat.le_succ _
  ·rw [hz2]; omega)
 have HKF : Hid (KM Try.prog 9 wA w.heap.size 0 (fun _ _ => False)) := Lib.hid (((km_made _ _ w 0).later hb2).later hb3)
 have HKT : Hid (KM Try.prog 9 wA (w.heap.size + 1) 0 (fun _ _ => False)) := Lib.hid (by
  have h := (km_made Try.prog 9 (w.alloc (.map #[] 0)) 0).later hb3
  rw [hz1] at h
  exact h)
 have hcA : Cells wA (w.heap.size + 1 + 1) 86 [.pointer none, .pointer none, .int .i64 0, .int .i64 0, .slice none 0 0, .int .i64 0, .map (some w.heap.size), .map (some (w.heap.size + 1))] := by
  have h := cells_new ((w.alloc (.map #[] 0)).alloc (.map #[] 0)) 86 [.pointer none, .pointer none, .int .i64 0, .int .i64 0, .slice none 0 0, .int .i64 0, .map (some w.heap.size), .map (some (w.heap.size + 1))] _ rfl
  rw [hz2] at h
  rw [hwA]
  exact h
 have HN0 := Lib.hid (anew_0 hcA (Int.le_refl 0) (by decide))
 have HZ := Lib.hid hz3
 clear hz1 hz2 hz3 hb1 hb2 hb3 hcA
 go_enter Try.func29, Try.ntmps29
 go_wp2_with fail
 rw [← hwA]
 clear hwA
 refine HN0.out.mono ?_
 rintro e w1 ⟨s0, F0, rfl, hat0, hc1, ho1, hf0⟩
 have HN1 := Lib.hid (anew_1 hc1 (Int.le_refl 0) (by decide))
 have HAT := Lib.hid hat0
 have HO1 := Lib.hid ho1
 have HF0 := Lib.hid hf0
 clear hat0 hc1 ho1 hf0
 go_wp2_with fail
 refine HN1.out.mono ?_
 rintro e w2 ⟨s1, F1, rfl, hat1, hc2, ho2, hf1⟩
 have HAT1 := Lib.hid hat1
 have HC2 := Lib.hid hc2
 have HO2 := Lib.hid ho2
 have HF1 := Lib.hid hf1
 clear hat1 hc2 ho2 hf1
 go_wp2_with fail
 go_returns
 have hz := HZ.out
 have hs1 := HO1.out.size
 have hs2 := HO2.out.size
 have hw : w.heap.size ≤ wA.heap.size := by omega
 have ho : Only (fun k => k = w.heap.size + 1 + 1) wA w2 := HO1.out.trans HO2.out fun _ _ e => e
 refine ⟨w.heap.size + 1 + 1, s0, s1, w.heap.size, w.heap.size + 1, F0, F1, rfl, by omega, SAt.up hw (SAt.only HAT.out HO2.out fun k hk e => ?_), SAt.up (by omega) HAT1.out, fun k hk h1 => ?_, fun k hk => ?_, fun k hk => ?_, HC2.out, HKF.out.only ho (by omega), HKT.out.only ho (by omega), by omega, by omega, by omega, HBA.out.trans (ho.below hw fun k e => by omega), Nat.le_refl _, Nat.le_succ _⟩
 ·have := HF0.out k hk
  omega
 ·have := SAt.lt HAT.out k hk
  have := HF1.out k h1
  omega
 ·have := HF0.out k hk
  omega
 ·have := HF1.out k hk
  omega
end Go.Proofs.Ytccdpgbmkiapdaa.Ses
