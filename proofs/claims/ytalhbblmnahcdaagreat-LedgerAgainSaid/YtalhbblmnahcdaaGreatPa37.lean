/-
  Layer 7: which fields of a record aren't zero: the code.
  Conditions: none.
-/
import Derived.Test.YtalhbblmnahcdaaGreatPa36
namespace Go.Proofs.YtalhbblmnahcdaaGreat.Rec
set_option maxRecDepth 100000
open Go.RowKit Go.Proofs.YtalhbblmnahcdaaGreat.Mem Go.Proofs.YtalhbblmnahcdaaGreat.Item
theorem list12 (l : List Bool) (h : l.length = 12) : ∃ b0 b1 b2 b3 b4 b5 b6 b7 b8 b9 b10 b11, l = [b0, b1, b2, b3, b4, b5, b6, b7, b8, b9, b10, b11] := by
 match l, h with
 | [b0, b1, b2, b3, b4, b5, b6, b7, b8, b9, b10, b11], _ => exact ⟨b0, b1, b2, b3, b4, b5, b6, b7, b8, b9, b10, b11, rfl⟩
set_option maxHeartbeats 1000000 in
theorem has_any (r : Rc) (y : Lay) (w : World) :
  Calls Tryz.prog 89 #[r.val y] w fun e w' => e = .returned (.agg ((hasB r).map Value.bool).toArray) ∧ Below w.heap.size w w' := by
 have HN := Lib.hid (fun w => numbers_any r y w)
 have HX := Lib.hid (index_get r)
 have HS := Lib.hid (hasK_set r)
 have HA := Lib.hid (hasK_all r)
 have HK := Lib.hid (hasK_length r)
 have H0 := Lib.hid (show [Value.bool false, .bool false, .bool false, .bool false, .bool false, .bool false, .bool false, .bool false, .bool (!(decide (r.tid.node = 0) && decide (r.tid.epoch = 0) && decide (r.tid.seq = 0))), .bool (decide (0 < r.items.length)), .bool (decide (0 < r.nodes.length)), .bool r.yes] = (hasK r 0).map Value.bool by simp [hasK, hasB, t0B])
 have HTN := tid_neq r.tid.node r.tid.epoch r.tid.seq 0 0 0
 obtain ⟨G, hG⟩ : ∃ G, r.get = G := ⟨_, rfl⟩
 obtain ⟨K, hK⟩ : ∃ K, hasK r = K := ⟨_, rfl⟩
 obtain ⟨Z, hZ⟩ : ∃ Z, hasB r = Z := ⟨_, rfl⟩
 rw [hG] at HX HS
 rw [hK] at HS HA H0 HK
 rw [hZ] at HA ⊢
 clear hG hK hZ
 obtain ⟨k, ⟨t1, t2, t3⟩, its, nds, a0, a1, a2, a3, a4, a5, a6, a7, yes⟩ := r
 obtain ⟨A, c, B, d⟩ := y
 generalize hL : its.length = L at HN H0
 generalize hM : nds.length = M at HN H0
 unfold Rc.val at HN ⊢
 simp only [hL, hM] at HN H0 HX HTN ⊢
 clear hL hM
 go_enter Tryz.func89, Tryz.ntmps89
 go_wp2_with (go_region)
 refine (HN.out _).mono ?_
 rintro e w1 ⟨rfl, hb1⟩
 have hc := (cells_new _ _ _ _ rfl).later (Below.trans (Below.drew (Below.refl _ _)) hb1)
 have hd := ((cells_new _ _ _ _ rfl).later (below_alloc _ _)).later (Below.trans (Below.drew (Below.refl _ _)) hb1)
 have hb := Below.trans (Below.drew (Go.Joins.below_alloc3 w _ _ _)) (Below.mono hb1 (by simp; omega))
 have hcl : ([Value.bool false, .bool false, .bool false, .bool false, .bool false, .bool false, .bool false, .bool false, .bool (!decide (t1 = 0) || !decide (t2 = 0) || !decide (t3 = 0)), .bool (decide (0 < L)), .bool (decide (0 < M)), .bool yes]) = (K 0).map Value.bool := by
  rw [← H0.out]
  simp
 have hc2 : Cells w1 (w.heap.size + 1 + 1) 134 ((K 0).map Value.bool) := by
  rw [← hcl]
  simpa using hc
 have hd2 : Cells w1 (w.heap.size + 1) 134 [.bool false, .bool false, .bool false, .bool false, .bool false, .bool false, .bool false, .bool false, .bool false, .bool false, .bool false, .bool false] := by
  simpa using hd
 have HC := Lib.hid hc2
 have HD := Lib.hid hd2
 have HB := Lib.hid hb
 clear hc hd hb hc2 hd2 hcl hb1 H0 HN HTN
 go_wp2_with fail
 go_loopw [4, 5, 23] (fun _ _ i wr => ∃ k : Nat, k ≤ 8 ∧ i = .int .i64 (k : Int) ∧ Cells wr (w.heap.size + 1 + 1) 134 ((K k).map Value.bool) ∧ Cells wr (w.heap.size + 1) 134 [.bool false, .bool false, .bool false, .bool false, .bool false, .bool false, .bool false, .bool false, .bool false, .bool false, .bool false, .bool false] ∧ Below w.heap.size w wr) (fun _ _ i _ => 8 - (intOf i).toNat)
 case atStart => exact ⟨0, by omega, rfl, HC.out, HD.out, HB.out⟩
 case round =>
  obtain ⟨k, hk, rfl, hck, hdk, hbk⟩ := hrel
  have HCK := Lib.hid hck
  have HDK := Lib.hid hdk
  have HBK := Lib.hid hbk
  by_cases hlt : k < 8
  ·have hx := HX.out k hlt
   have hkl := HK.out k
   have ck := hck.cell (j := k) (by rw [List.getElem?_eq_getElem (by simp; omega)])
   have fk := hck.frozen (j := k) (by simp; omega)
   clear hck hdk hbk
   go_wp2_with fail
   go_roundw
   case rel =>
    refine ⟨k + 1, by omega, by go_num, ?_, ?_, ?_⟩
    ·rw [← HS.out k hlt]
     rw [show decide (G k ≠ 0) = (G k != 0) by by_cases h : G k = 0 <;> simp [h]]
     exact HCK.out.set_ k (.bool (G k != 0))
    ·simpa using HDK.out.far (by simp) _
    ·exact HBK.out.setCell (by simp; omega) _
   case measure => simp [intOf]; omega
  ·obtain rfl : k = 8 := by omega
   rw [HA.out] at HCK hck
   have hzl : Z.length = 12 := by rw [← HA.out]; exact HK.out 8
   obtain ⟨b0, b1, b2, b3, b4, b5, b6, b7, b8, b9, b10, b11, hZ⟩ := list12 Z hzl
   rw [hZ] at hck
   have HZ := Lib.hid hZ
   clear hZ
   have c0 := hck.cell (j := 0) rfl
   have c1 := hck.cell (j := 1) rfl
   have c2 := hck.cell (j := 2) rfl
   have c3 := hck.cell (j := 3) rfl
   have c4 := hck.cell (j := 4) rfl
   have c5 := hck.cell (j := 5) rfl
   have c6 := hck.cell (j := 6) rfl
   have c7 := hck.cell (j := 7) rfl
   have c8 := hck.cell (j := 8) rfl
   have c9 := hck.cell (j := 9) rfl
   have c10 := hck.cell (j := 10) rfl
   have c11 := hck.cell (j := 11) rfl
   have d0 := hdk.cell (j := 0) rfl
   have f0 := hdk.frozen (j := 0) (by simp)
   have d1 := hdk.cell (j := 1) rfl
   have f1 := hdk.frozen (j := 1) (by simp)
   have d2 := hdk.cell (j := 2) rfl
   have f2 := hdk.frozen (j := 2) (by simp)
   have d3 := hdk.cell (j := 3) rfl
   have f3 := hdk.frozen (j := 3) (by simp)
   have d4 := hdk.cell (j := 4) rfl
   have f4 := hdk.frozen (j := 4) (by simp)
   have d5 := hdk.cell (j := 5) rfl
   have f5 := hdk.frozen (j := 5) (by simp)
   have d6 := hdk.cell (j := 6) rfl
   have f6 := hdk.frozen (j := 6) (by simp)
   have d7 := hdk.cell (j := 7) rfl
   have f7 := hdk.frozen (j := 7) (by simp)
   have d8 := hdk.cell (j := 8) rfl
   have f8 := hdk.frozen (j := 8) (by simp)
   have d9 := hdk.cell (j := 9) rfl
   have f9 := hdk.frozen (j := 9) (by simp)
   have d10 := hdk.cell (j := 10) rfl
   have f10 := hdk.frozen (j := 10) (by simp)
   have d11 := hdk.cell (j := 11) rfl
   have f11 := hdk.frozen (j := 11) (by simp)
   clear hck hdk hbk HX HS HA HK hzl
   go_wp2_with fail
   have hz := ((((((((((((HDK.out.set_ 0 (.bool b0)).set_ 1 (.bool b1)).set_ 2 (.bool b2)).set_ 3 (.bool b3)).set_ 4 (.bool b4)).set_ 5 (.bool b5)).set_ 6 (.bool b6)).set_ 7 (.bool b7)).set_ 8 (.bool b8)).set_ 9 (.bool b9)).set_ 10 (.bool b10)).set_ 11 (.bool b11))
   have e0 := hz.cell (j := 0) rfl
   have e1 := hz.cell (j := 1) rfl
   have e2 := hz.cell (j := 2) rfl
   have e3 := hz.cell (j := 3) rfl
   have e4 := hz.cell (j := 4) rfl
   have e5 := hz.cell (j := 5) rfl
   have e6 := hz.cell (j := 6) rfl
   have e7 := hz.cell (j := 7) rfl
   have e8 := hz.cell (j := 8) rfl
   have e9 := hz.cell (j := 9) rfl
   have e10 := hz.cell (j := 10) rfl
   have e11 := hz.cell (j := 11) rfl
   have hs : w.heap.size ≤ w.heap.size + 1 := by omega
   clear hz
   refine bodyPost_ret (v := .agg #[.bool b0, .bool b1, .bool b2, .bool b3, .bool b4, .bool b5, .bool b6, .bool b7, .bool b8, .bool b9, .bool b10, .bool b11]) (by simp [results, go_sem, e0, e1, e2, e3, e4, e5, e6, e7, e8, e9, e10, e11]) rfl ⟨by rw [HZ.out]; rfl, ?_⟩
   exact (((((((((((HBK.out.setCell hs _).setCell hs _).setCell hs _).setCell hs _).setCell hs _).setCell hs _).setCell hs _).setCell hs _).setCell hs _).setCell hs _).setCell hs _).setCell hs _
end Go.Proofs.YtalhbblmnahcdaaGreat.Rec
