/-
  Layer 19: Tid, Vote, GiveUp of a ballot.
  Conditions: none.
-/
import Derived.Test.YtjeogeablbkhgaaP34
namespace Go.Proofs.Ytjeogeablbkhgaa.Vot
set_option maxRecDepth 100000
open Go.RowKit Go.Deep Go.Proofs.Ytjeogeablbkhgaa.Mem Go.Proofs.Ytjeogeablbkhgaa.Item
section
variable {B T g c : Nat} {w w1 : World} {A : Option Addr} {t : Tid} {ab : Bool} {l : List Sd}
theorem Tid_any (h : CAt B T w g A c t ab l) : Calls Try.prog 12 #[.pointer (some ⟨g, 0, none⟩)] w fun e w' => e = .returned (.agg #[.int .i64 t.node, .int .i64 t.epoch, .int .i64 t.seq]) ∧ Below w.heap.size w w' := by
 have c0 := h.box.cell (j := 0) rfl
 have c1 := h.box.cell (j := 1) rfl
 have c2 := h.box.cell (j := 2) rfl
 clear h
 obtain ⟨wa, hwa⟩ : ∃ W, W = w.alloc (.cells #[.int .i64 0, .int .i64 0, .int .i64 0] 23) := ⟨_, rfl⟩
 have hba : Below w.heap.size w wa := by rw [hwa]; exact below_alloc _ _
 have hca : Cells wa w.heap.size 23 [.int .i64 0, .int .i64 0, .int .i64 0] := by rw [hwa]; exact cells_new _ _ _ _ rfl
 have e0 := (hba.cell (block_of_cell c0)).trans c0
 have e1 := (hba.cell (block_of_cell c1)).trans c1
 have e2 := (hba.cell (block_of_cell c2)).trans c2
 have z0 := hca.cell (j := 0) rfl
 have z1 := hca.cell (j := 1) rfl
 have z2 := hca.cell (j := 2) rfl
 have f0 := hca.frozen (j := 0) (by simp)
 have f1 := hca.frozen (j := 1) (by simp)
 have f2 := hca.frozen (j := 2) (by simp)
 have HF := Lib.hid (((hca.set_ 0 (.int .i64 t.node)).set_ 1 (.int .i64 t.epoch)).set_ 2 (.int .i64 t.seq))
 have HB := Lib.hid hba
 clear hba hca
 go_enter Try.func12, Try.ntmps12
 go_upto_region 1 with (fail)
 rw [← hwa]
 clear hwa c0 c1 c2
 go_wp2_with fail
 refine bodyPost_ret (v := .agg #[.int .i64 t.node, .int .i64 t.epoch, .int .i64 t.seq]) ?_ rfl ?_
 ·exact (ret_cell (p := 2) (ty := 23) (by rfl) _ HF.out _ (by rfl) Try.underlying23 rfl (by kernel_rfl)).trans (by rfl)
 ·exact ⟨rfl, ((HB.out.setCell (Nat.le_refl _) _).setCell (Nat.le_refl _) _).setCell (Nat.le_refl _) _⟩
theorem vote_shut {s n : Int} {y : Bool} (h : s ≠ 0) : voteS s n y l = s ∧ voteA ab s n y l = ab ∧ voteL s n y l = l := by
 unfold voteS voteA voteL
 simp [h]
theorem vote_yes {n : Int} : voteA ab 0 n true l = ab ∧ voteL 0 n true l = sayL n l := by
 unfold voteA voteL
 simp
theorem vote_no {n : Int} (h : hasN n l = true) : voteA ab 0 n false l = true ∧ voteL 0 n false l = l := by
 unfold voteA voteL
 simp [h]
theorem vote_none {n : Int} {y : Bool} (h : hasN n l = false) : voteA ab 0 n y l = ab ∧ voteL 0 n y l = l := by
 unfold voteA voteL
 refine ⟨by simp [h], ?_⟩
 split
 ·exact say_none h
 ·rfl
theorem has_at {n : Int} {k : Nat} (hk : k < l.length) (h : l[k].node = n) : hasN n l = true := by
 unfold hasN
 rw [List.any_eq_true]
 exact ⟨_, List.getElem_mem hk, by simpa using h⟩
set_option maxHeartbeats 1000000 in
theorem Vote_any (h : CAt B T w g A c t ab l) (n : Int) (y : Bool) : Calls Try.prog 13 #[.pointer (some ⟨g, 0, none⟩), .int .i64 n, .bool y] w fun e w' =>
  e = .returned (.int .i64 (voteS (stC ab l) n y l)) ∧ CAt B T w' g A c t (voteA ab (stC ab l) n y l) (voteL (stC ab l) n y l) ∧ Only (foot g A) w w' := by
 have HVS := Lib.hid (voteS_eq ab n y l)
 obtain ⟨s, hs⟩ : ∃ s, stC ab l = s := ⟨_, rfl⟩
 have h1 := State_any h
 rw [hs] at HVS ⊢
 have HS := Lib.hid hs
 rw [hs] at h1
 have H1 := Lib.hid h1
 have HH := Lib.hid h
 clear h hs h1
 go_enter Try.func13, Try.ntmps13
 go_wp2_with fail
 refine H1.out.mono ?_
 rintro e w1 ⟨rfl, hb1⟩
 have HA1 := Lib.hid (HH.out.later hb1)
 have HB1 := Lib.hid hb1
 clear hb1 H1 HH
 by_cases h0 : s = 0
 ·have e1 : (s != 0) = false := by simp [h0]
  have HZ := Lib.hid h0
  have HPT := Lib.hid (part_any HA1.out n)
  clear h0
  go_wp2_with fail
  refine HPT.out.mono ?_
  rintro e w2 ⟨⟨v, rfl, hv⟩, hb2⟩
  have HA2 := Lib.hid (HA1.out.later hb2)
  have HB2 := Lib.hid (HB1.out.trans (hb2.mono HB1.out.size))
  clear hb2 HPT HA1 HB1
  rcases hv with ⟨hno, rfl⟩ | ⟨k, hk, p, hkn, rfl, rfl⟩
  ·obtain ⟨k1, k2⟩ := vote_none (ab := ab) (y := y) hno
   rw [← HZ.out] at k1 k2
   have HK := Lib.hid (And.intro k1 k2)
   have h3 := State_any HA2.out
   rw [HS.out] at h3
   have HV : Hid (voteS s n y l = s) := Lib.hid (by rw [HVS.out, k1, k2, HS.out])
   have H3 := Lib.hid h3
   clear hno k1 k2 h3
   go_wp2_with fail
   refine H3.out.mono ?_
   rintro e w3 ⟨rfl, hb3⟩
   have HA3 := Lib.hid (HA2.out.later hb3)
   have HB3 := Lib.hid (HB2.out.trans (hb3.mono HB2.out.size))
   clear hb3 H3
   go_wp2_with fail
   go_returns
   exact ⟨ret_val (congrArg (Value.int .i64) HV.out.symm), by rw [HK.out.1, HK.out.2]; exact HA3.out, Only.of_below HB3.out⟩
  ·cases y with
   | true =>
    obtain ⟨k1, k2⟩ := vote_yes (ab := ab) (l := l) (n := n)
    rw [← HZ.out] at k1 k2
    have HK := Lib.hid (And.intro k1 k2)
    obtain ⟨hA3, ho3⟩ := HA2.out.setY hk
    rw [say_set HA2.out.uniq hk hkn] at hA3
    have hel := (HA2.out.elem hk)
    obtain ⟨p2, hp2, hel⟩ := hel
    obtain rfl : p = p2 := by simpa using hp2
    have f2 := hel.frozen (j := 2) (by simp [Sd.vals])
    have x2 := hel.cell (j := 2) rfl
    obtain ⟨w3, hw3⟩ : ∃ W, w2.setCell ⟨p, k * 4 + 2, none⟩ (.bool true) = W := ⟨_, rfl⟩
    rw [hw3] at hA3 ho3
    have HW := Lib.hid hw3
    have h3 := State_any hA3
    have HV : Hid (voteS s n true l = stC ab (sayL n l)) := Lib.hid (by rw [HVS.out, k1, k2])
    obtain ⟨q, hq⟩ : ∃ q, stC ab (sayL n l) = q := ⟨_, rfl⟩
    rw [hq] at h3 HV
    have H3 := Lib.hid h3
    have HA3 := Lib.hid hA3
    have HO3 : Hid (Only (foot g (some ⟨p, 0, none⟩)) w w3) := Lib.hid ((Only.of_below HB2.out).trans (ho3.mono (S' := foot g (some ⟨p, 0, none⟩)) fun i _ e => Or.inr (by rw [e]; rfl)) fun _ _ e => e)
    clear k1 k2 hA3 ho3 hel hp2 hw3 h3 hq hkn HA2 HB2
    go_upto_region 8 with (fail)
    rw [HW.out]
    clear HW f2 x2 hk
    go_wp2_with fail
    refine H3.out.mono ?_
    rintro e w4 ⟨rfl, hb4⟩
    have HA4 := Lib.hid (HA3.out.later hb4)
    have HO4 : Hid (Only (foot g (some ⟨p, 0, none⟩)) w w4) := Lib.hid (HO3.out.trans (S' := fun _ => False) (Only.of_below hb4) fun _ _ e => e.elim)
    clear hb4 H3
    go_wp2_with fail
    go_returns
    exact ⟨ret_val (congrArg (Value.int .i64) HV.out.symm), by rw [HK.out.1, HK.out.2]; exact HA4.out, HO4.out⟩
   | false =>
    obtain ⟨k1, k2⟩ := vote_no (ab := ab) (has_at hk hkn)
    rw [← HZ.out] at k1 k2
    have HK := Lib.hid (And.intro k1 k2)
    obtain ⟨hA3, ho3⟩ := HA2.out.setZ (.bool true)
    have f4 := HA2.out.box.frozen (j := 4) (by simp)
    have x4 := HA2.out.box.cell (j := 4) rfl
    obtain ⟨w3, hw3⟩ : ∃ W, w2.setCell ⟨g, 4, none⟩ (.bool true) = W := ⟨_, rfl⟩
    rw [hw3] at hA3 ho3
    have HW := Lib.hid hw3
    have h3 := State_any hA3
    have HV : Hid (voteS s n false l = stC true l) := Lib.hid (by rw [HVS.out, k1, k2])
    obtain ⟨q, hq⟩ : ∃ q, stC true l = q := ⟨_, rfl⟩
    rw [hq] at h3 HV
    have H3 := Lib.hid h3
    have HA3 := Lib.hid hA3
    have HO3 : Hid (Only (foot g (some ⟨p, 0, none⟩)) w w3) := Lib.hid ((Only.of_below HB2.out).trans (ho3.mono (S' := foot g (some ⟨p, 0, none⟩)) fun i _ e => Or.inl e) fun _ _ e => e)
    clear k1 k2 hA3 ho3 hw3 h3 hq hk hkn HA2 HB2
    go_upto_region 8 with (fail)
    rw [HW.out]
    clear HW f4 x4
    go_wp2_with fail
    refine H3.out.mono ?_
    rintro e w4 ⟨rfl, hb4⟩
    have HA4 := Lib.hid (HA3.out.later hb4)
    have HO4 : Hid (Only (foot g (some ⟨p, 0, none⟩)) w w4) := Lib.hid (HO3.out.trans (S' := fun _ => False) (Only.of_below hb4) fun _ _ e => e.elim)
    clear hb4 H3
    go_wp2_with fail
    go_returns
    exact ⟨ret_val (congrArg (Value.int .i64) HV.out.symm), by rw [HK.out.1, HK.out.2]; exact HA4.out, HO4.out⟩
 ·have e1 : (s != 0) = true := by simpa using h0
  obtain ⟨k0, k1, k2⟩ := vote_shut (ab := ab) (l := l) (n := n) (y := y) h0
  have HK := Lib.hid (And.intro k0 (And.intro k1 k2))
  have h3 := State_any HA1.out
  rw [HS.out] at h3
  have H3 := Lib.hid h3
  clear h0 k0 k1 k2 h3
  go_wp2_with fail
  refine H3.out.mono ?_
  rintro e w3 ⟨rfl, hb3⟩
  have HA3 := Lib.hid (HA1.out.later hb3)
  have HB3 := Lib.hid (HB1.out.trans (hb3.mono HB1.out.size))
  clear hb3 H3
  go_wp2_with fail
  go_returns
  exact ⟨ret_val (congrArg (Value.int .i64) HK.out.1.symm), by rw [HK.out.2.1, HK.out.2.2]; exact HA3.out, Only.of_below HB3.out⟩
theorem give_open (h : stC ab l = 0) : giveA ab l = true := by
 unfold giveA
 rw [h]
 simp
theorem give_shut (h : stC ab l ≠ 0) : giveA ab l = ab := by
 unfold giveA
 rw [decide_eq_false h, Bool.or_false]
theorem GiveUp_any (h : CAt B T w g A c t ab l) : Calls Try.prog 15 #[.pointer (some ⟨g, 0, none⟩)] w fun e w' =>
  e = .returned (.int .i64 (giveS (stC ab l))) ∧ CAt B T w' g A c t (giveA ab l) l ∧ Only (foot g A) w w' := by
 have HVS := Lib.hid (giveS_eq ab l)
 obtain ⟨s, hs⟩ : ∃ s, stC ab l = s := ⟨_, rfl⟩
 have h1 := State_any h
 rw [hs] at HVS ⊢
 have HS := Lib.hid hs
 rw [hs] at h1
 have H1 := Lib.hid h1
 have HH := Lib.hid h
 clear h hs h1
 go_enter Try.func15, Try.ntmps15
 go_wp2_with fail
 refine H1.out.mono ?_
 rintro e w1 ⟨rfl, hb1⟩
 have HA1 := Lib.hid (HH.out.later hb1)
 have HB1 := Lib.hid hb1
 clear hb1 H1 HH
 by_cases h0 : s = 0
 ·have e1 : (s == 0) = true := by simp [h0]
  have HG : Hid (giveA ab l = true) := Lib.hid (give_open (by rw [HS.out, h0]))
  obtain ⟨hA3, ho3⟩ := HA1.out.setZ (.bool true)
  have f4 := HA1.out.box.frozen (j := 4) (by simp)
  have x4 := HA1.out.box.cell (j := 4) rfl
  obtain ⟨w3, hw3⟩ : ∃ W, w1.setCell ⟨g, 4, none⟩ (.bool true) = W := ⟨_, rfl⟩
  rw [hw3] at hA3 ho3
  have HW := Lib.hid hw3
  have h3 := State_any hA3
  have HV : Hid (giveS s = stC true l) := Lib.hid (by rw [HVS.out, HG.out])
  obtain ⟨q, hq⟩ : ∃ q, stC true l = q := ⟨_, rfl⟩
  rw [hq] at h3 HV
  have H3 := Lib.hid h3
  have HA3 := Lib.hid hA3
  have HO3 : Hid (Only (foot g A) w w3) := Lib.hid ((Only.of_below HB1.out).trans (ho3.mono (S' := foot g A) fun i _ e => Or.inl e) fun _ _ e => e)
  clear hA3 ho3 hw3 h3 hq h0 HA1 HB1
  go_upto_region 3 with (fail)
  rw [HW.out]
  clear HW f4 x4
  go_wp2_with fail
  refine H3.out.mono ?_
  rintro e w4 ⟨rfl, hb4⟩
  have HA4 := Lib.hid (HA3.out.later hb4)
  have HO4 : Hid (Only (foot g A) w w4) := Lib.hid (HO3.out.trans (S' := fun _ => False) (Only.of_below hb4) fun _ _ e => e.elim)
  clear hb4 H3
  go_wp2_with fail
  go_returns
  exact ⟨ret_val (congrArg (Value.int .i64) HV.out.symm), by rw [HG.out]; exact HA4.out, HO4.out⟩
 ·have e1 : (s == 0) = false := by simpa using h0
  have HG : Hid (giveA ab l = ab) := Lib.hid (give_shut (by rw [HS.out]; exact h0))
  have HV : Hid (giveS s = s) := Lib.hid (if_neg h0)
  have h3 := State_any HA1.out
  rw [HS.out] at h3
  have H3 := Lib.hid h3
  clear h0 h3
  go_wp2_with fail
  refine H3.out.mono ?_
  rintro e w3 ⟨rfl, hb3⟩
  have HA3 := Lib.hid (HA1.out.later hb3)
  have HB3 := Lib.hid (HB1.out.trans (hb3.mono HB1.out.size))
  clear hb3 H3
  go_wp2_with fail
  go_returns
  exact ⟨ret_val (congrArg (Value.int .i64) HV.out.symm), by rw [HG.out]; exact HA3.out, Only.of_below HB3.out⟩
end
end Go.Proofs.Ytjeogeablbkhgaa.Vot
