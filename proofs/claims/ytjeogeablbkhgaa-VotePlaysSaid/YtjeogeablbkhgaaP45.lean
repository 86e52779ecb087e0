/-
  Layer 19's laws: the document's example.
  Conditions: none.
-/
import Derived.Test.YtjeogeablbkhgaaP44
namespace Go.Proofs.Ytjeogeablbkhgaa.Vot
set_option maxRecDepth 100000
open Go.RowKit Go.Deep Go.Proofs.Ytjeogeablbkhgaa.Mem Go.Proofs.Ytjeogeablbkhgaa.Item
theorem Like.voteS {l m : List Sd} (h : Like l m) (s n : Int) (y : Bool) : voteS s n y l = voteS s n y m := by
 unfold Vot.voteS
 rw [h.has n, (h.vote s n y).yes]
theorem Like.voteA {l m : List Sd} (h : Like l m) (ab : Bool) (s n : Int) (y : Bool) : voteA ab s n y l = voteA ab s n y m := by
 unfold Vot.voteA
 rw [h.has n]
def itA (c : Int) : It := ⟨c, 0, 0, false, 0⟩
def psA (p q : Option Addr) : List Sd := [⟨1, p, 1, [itA 0], false, false⟩, ⟨3, q, 1, [itA 2], false, false⟩]
theorem psA_facts (p q : Option Addr) : (rightTid ⟨1, 1, 1⟩ && okParts (psA p q)) = true ∧ stC false (psA p q) = 0 ∧ voteS 0 1 true (psA p q) = 0 ∧ voteA false 0 1 true (psA p q) = false ∧
  stC false (voteL 0 1 true (psA p q)) = 0 ∧ voteS 0 3 true (voteL 0 1 true (psA p q)) = 1 ∧ voteA false 0 3 true (voteL 0 1 true (psA p q)) = false ∧ stC false (voteL 0 3 true (voteL 0 1 true (psA p q))) = 1 ∧ waitsL 1 (voteL 0 3 true (voteL 0 1 true (psA p q))) = [1, 3] :=
 ⟨by kernel_rfl, by kernel_rfl, by kernel_rfl, by kernel_rfl, by kernel_rfl, by kernel_rfl, by kernel_rfl, by kernel_rfl, by kernel_rfl⟩
set_option maxHeartbeats 2000000 in
theorem awake_any (w : World) : Calls Try.prog 7 #[] w fun e w' => e = .returned (.bool true) ∧ Below w.heap.size w w' := by
 obtain ⟨w1, hw1⟩ : ∃ W, W = w.alloc (.cells #[.int .i64 0, .int .i64 0, .int .i64 0, .bool false, .int .i64 0] 60) := ⟨_, rfl⟩
 have hb1 : Below w.heap.size w w1 := by rw [hw1]; exact below_alloc _ _
 have hc1 : Cells w1 w.heap.size 60 (itA 0).vals := by rw [hw1]; exact cells_new _ _ _ _ rfl
 obtain ⟨w2, hw2⟩ : ∃ W, W = w1.alloc (.cells #[.int .i64 2, .int .i64 0, .int .i64 0, .bool false, .int .i64 0] 60) := ⟨_, rfl⟩
 have hb2 : Below w1.heap.size w1 w2 := by rw [hw2]; exact below_alloc _ _
 have hc2 : Cells w2 w1.heap.size 60 (itA 2).vals := by rw [hw2]; exact cells_new _ _ _ _ rfl
 obtain ⟨w3, hw3⟩ : ∃ W, W = w2.alloc (.cells #[.int .i64 1, .slice (some ⟨w.heap.size, 0, none⟩) 1 1, .int .i64 3, .slice (some ⟨w1.heap.size, 0, none⟩) 1 1] 55) := ⟨_, rfl⟩
 have hb3 : Below w2.heap.size w2 w3 := by rw [hw3]; exact below_alloc _ _
 have hc3 : Cells w3 w2.heap.size 55 [.int .i64 1, .slice (some ⟨w.heap.size, 0, none⟩) 1 1, .int .i64 3, .slice (some ⟨w1.heap.size, 0, none⟩) 1 1] := by rw [hw3]; exact cells_new _ _ _ _ rfl
 have hone : ∀ (W : World) (j : Nat) (x : It), Cells W j 60 x.vals → Items W (some ⟨j, 0, none⟩) [x] := fun W j x h k hk => by
  obtain rfl : k = 0 := by simp at hk; omega
  exact ⟨j, 0, rfl, ⟨h.cell (j := 0) rfl, h.cell (j := 1) rfl, h.cell (j := 2) rfl, h.cell (j := 3) rfl, h.cell (j := 4) rfl⟩⟩
 have hparts : Parts w3 (some ⟨w2.heap.size, 0, none⟩) (psA (some ⟨w.heap.size, 0, none⟩) (some ⟨w1.heap.size, 0, none⟩)) := by
  refine ⟨cells_sl (eT := 55) (show Cells w3 w2.heap.size 55 ((psA (some ⟨w.heap.size, 0, none⟩) (some ⟨w1.heap.size, 0, none⟩)).map pv).flatten from hc3) fun v hv => ?_, fun s hs => ?_⟩
  ·obtain ⟨x, _, rfl⟩ := List.mem_map.1 hv; rfl
  ·unfold psA at hs
   simp only [List.mem_cons, List.not_mem_nil, or_false] at hs
   rcases hs with rfl | rfl
   ·exact ⟨((hone w1 _ _ hc1).later hb2).later hb3, fun e => (by cases e), by show 1 ≤ 40; decide⟩
   ·exact ⟨(hone w2 _ _ hc2).later hb3, fun e => (by cases e), by show 1 ≤ 40; decide⟩
 have HB3 := Lib.hid (hb1.trans ((hb2.trans (hb3.mono hb2.size)).mono hb1.size))
 have HNEW := Lib.hid (New_any (oc := 2) ⟨1, 1, 1⟩ hparts (by show 2 ≤ 40; decide) (fun s hs => by
  unfold psA at hs
  simp only [List.mem_cons, List.not_mem_nil, or_false] at hs
  rcases hs with rfl | rfl <;> exact ⟨rfl, rfl⟩))
 obtain ⟨ps, hps⟩ : ∃ ps, psA (some ⟨w.heap.size, 0, none⟩) (some ⟨w1.heap.size, 0, none⟩) = ps := ⟨_, rfl⟩
 have hfa := psA_facts (some ⟨w.heap.size, 0, none⟩) (some ⟨w1.heap.size, 0, none⟩)
 have hpl : ps.length = 2 := by rw [← hps]; rfl
 rw [hps] at HNEW hfa
 rw [hpl] at HNEW
 have HFA := Lib.hid hfa
 have hs1 : w1.heap.size = w.heap.size + 1 := by rw [hw1, World.size_alloc]
 have hs2 : w2.heap.size = w.heap.size + 1 + 1 := by rw [hw2, World.size_alloc, hs1]
 rw [hs1] at hw3
 rw [hs2] at HNEW
 rw [hw2, hw1] at hw3
 clear hb1 hc1 hb2 hc2 hb3 hc3 hone hparts hps hfa hpl hs1 hs2 hw1 hw2
 go_enter Try.func7, Try.ntmps7
 go_wp2_with fail
 rw [← hw3]
 clear hw3
 refine (show Calls Try.prog 9 #[.agg #[.int .i64 1, .int .i64 1, .int .i64 1], .slice (some ⟨w.heap.size + 1 + 1, 0, none⟩) 2 2] _ _ from HNEW.out).mono ?_
 rintro e w4 ⟨hb4, _, hok⟩
 obtain ⟨g, A, c, l, rfl, hat, hlk, _⟩ := hok HFA.out.1
 have HB4 := Lib.hid (HB3.out.trans (hb4.mono HB3.out.size))
 have hv1 := Vote_any hat 1 true
 have hs0 : stC false l = 0 := by rw [hlk.st]; exact HFA.out.2.1
 rw [hs0, hlk.voteS, HFA.out.2.2.1, hlk.voteA, HFA.out.2.2.2.1] at hv1
 have HV1 := Lib.hid hv1
 have HL1 := Lib.hid (hlk.vote 0 1 true)
 have hlo := hat.low
 have HSZ : Hid (w3.heap.size ≤ g ∧ ∀ k, blk A = some k → w3.heap.size ≤ k) := Lib.hid ⟨hat.low.1, fun k e => (hat.row.lt (by rw [own_blk]; exact e)).1⟩
 clear hb4 hok hat hlk hv1 hs0 hlo HNEW
 go_wp2_with fail
 refine HV1.out.mono ?_
 rintro e w5 ⟨rfl, hat5, ho5⟩
 have HO5 := Lib.hid ho5
 have hv2 := Vote_any hat5 3 true
 have hs0 : stC false (voteL 0 1 true l) = 0 := by rw [HL1.out.st]; exact HFA.out.2.2.2.2.1
 rw [hs0, HL1.out.voteS, HFA.out.2.2.2.2.2.1, HL1.out.voteA, HFA.out.2.2.2.2.2.2.1] at hv2
 have HV2 := Lib.hid hv2
 have HL2 := Lib.hid (HL1.out.vote 0 3 true)
 clear ho5 hat5 hv2 hs0 HV1 HL1
 go_wp2_with fail
 refine HV2.out.mono ?_
 rintro e w6 ⟨rfl, hat6, ho6⟩
 have HO6 := Lib.hid (HO5.out.trans ho6 fun _ _ e => e)
 have hw6 := Waits_any hat6
 have hs0 : stC false (voteL 0 3 true (voteL 0 1 true l)) = 1 := by rw [HL2.out.st]; exact HFA.out.2.2.2.2.2.2.2.1
 rw [hs0, HL2.out.waits, HFA.out.2.2.2.2.2.2.2.2] at hw6
 have HW6 := Lib.hid hw6
 clear ho6 hat6 hw6 hs0 HV2 HL2 HO5
 go_wp2_with fail
 refine HW6.out.mono ?_
 rintro e w7 ⟨⟨V, n, vc, rfl, hn, hnums⟩, hb7⟩
 have hn2 : n = 2 := hn
 subst hn2
 obtain ⟨w8, hw8⟩ : ∃ W, W = w7.alloc (.cells #[.int .i64 1, .int .i64 3] 3) := ⟨_, rfl⟩
 have hb8 : Below w7.heap.size w7 w8 := by rw [hw8]; exact below_alloc _ _
 have hc8 : Cells w8 w7.heap.size 3 [.int .i64 1, .int .i64 3] := by rw [hw8]; exact cells_new _ _ _ _ rfl
 have hir8 : Nums w8 (some ⟨w7.heap.size, 0, none⟩) [1, 3] := fun k hk => ⟨_, 0, rfl, by
  rw [Nat.zero_add]
  refine hc8.cell ?_
  match k, hk with
  | 0, _ => rfl
  | 1, _ => rfl⟩
 have hnums8 : Nums w8 V [1, 3] := IRow.later hnums hb8
 have HSM := Lib.hid (sameNodes_any V (some ⟨w7.heap.size, 0, none⟩) [1, 3] [1, 3] vc 2 w8 hnums8 hir8 (by decide))
 rw [decide_eq_true rfl, hw8] at HSM
 have HW8 := Lib.hid hw8
 have HB8 : Hid (Below w.heap.size w w8) := Lib.hid (by
  have h5 := (HO6.out.trans (S' := fun _ => False) (Only.of_below hb7) fun _ _ e => e.elim).trans (S' := fun _ => False) (Only.of_below hb8) fun _ _ e => e.elim
  refine HB4.out.trans (h5.below HB4.out.size fun k e => ?_)
  have h6 := HB3.out.size
  rcases e with e | e
  ·have := HSZ.out.1; omega
  ·have := HSZ.out.2 k e; omega)
 clear hb7 hn hnums hb8 hc8 hir8 hnums8 hw8 HW6 HO6
 go_wp2_with fail
 refine (show Calls Try.prog 21 #[.slice V 2 vc, .slice (some ⟨w7.heap.size, 0, none⟩) 2 2] _ _ from HSM.out).mono ?_
 rintro e w9 ⟨rfl, hb9⟩
 rw [← HW8.out] at hb9
 have HBF := Lib.hid (HB8.out.trans (hb9.mono HB8.out.size))
 clear hb9 HSM
 go_wp2_with fail
 go_returns
 exact ⟨rfl, HBF.out⟩
end Go.Proofs.Ytjeogeablbkhgaa.Vot
