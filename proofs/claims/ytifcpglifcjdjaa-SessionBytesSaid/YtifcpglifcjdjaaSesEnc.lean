/-
  Layer 14: Encode. Conditions: none.
-/
import Derived.Test.YtifcpglifcjdjaaSesBs
import Derived.Test.YtifcpglifcjdjaaSesRight
namespace Go.Proofs.Ytifcpglifcjdjaa.Ses
set_option maxRecDepth 100000
open Go.RowKit Go.Deep Go.Proofs.Ytifcpglifcjdjaa.Mem

set_option maxHeartbeats 1000000 in
theorem Encode_bad (e : Ev) (hs : e.pay.size ≤ 140737488355328) (hr : rightE e = false) (w : World) :
    Calls Try.prog 10 #[e.val] w fun r w' => r = .returned (.tuple #[.string ⟨#[]⟩, .int .i64 1]) ∧ Below w.heap.size w w' := by
  obtain ⟨wa, hwa⟩ : ∃ W, W = w.alloc (.cells #[.int .i64 e.kind, .int .i64 e.epoch, .int .i64 e.peer, .int .i64 e.seq, .string e.pay] 23) := ⟨_, rfl⟩
  have hba : Below w.heap.size w wa := by rw [hwa]; exact below_alloc _ _
  have hca : Cells wa w.heap.size 23 e.vals := by rw [hwa]; exact cells_new _ _ _ _ rfl
  have y0 := hca.cell (j := 0) rfl
  have y1 := hca.cell (j := 1) rfl
  have y2 := hca.cell (j := 2) rfl
  have y3 := hca.cell (j := 3) rfl
  have y4 := hca.cell (j := 4) rfl
  have HRT := Lib.hid (right_any e hs wa)
  rw [hr] at HRT
  have HB := Lib.hid hba
  unfold Ev.val at HRT ⊢
  clear hba hca hr
  go_enter Try.func10, Try.ntmps10
  go_upto_region 1 with (fail)
  rw [← hwa]
  clear hwa
  go_wp2_with fail
  refine HRT.out.mono ?_
  rintro r w1 ⟨rfl, hb1⟩
  have HB1 := Lib.hid (HB.out.trans (hb1.mono HB.out.size))
  clear hb1
  go_wp2_with fail
  go_returns
  exact ⟨rfl, HB1.out⟩
set_option maxHeartbeats 2000000 in
theorem Encode_good (e : Ev) (hr : rightE e = true) (w : World) :
    Calls Try.prog 10 #[e.val] w fun r w' => r = .returned (.tuple #[.string (Wire.bs (bytesE e)), .int .i64 0]) ∧ Below w.heap.size w w' := by
  have hkind := right_kind hr
  have hps : e.pay.size ≤ 4032 := by
    have := of_decide_eq_true hr
    omega
  obtain ⟨wa, hwa⟩ : ∃ W, W = w.alloc (.cells #[.int .i64 e.kind, .int .i64 e.epoch, .int .i64 e.peer, .int .i64 e.seq, .string e.pay] 23) := ⟨_, rfl⟩
  have hba : Below w.heap.size w wa := by rw [hwa]; exact below_alloc _ _
  have hca : Cells wa w.heap.size 23 e.vals := by rw [hwa]; exact cells_new _ _ _ _ rfl
  have y0 := hca.cell (j := 0) rfl
  have y1 := hca.cell (j := 1) rfl
  have y2 := hca.cell (j := 2) rfl
  have y3 := hca.cell (j := 3) rfl
  have y4 := hca.cell (j := 4) rfl
  have HRT := Lib.hid (right_any e (by omega) wa)
  rw [hr] at HRT
  have HB := Lib.hid hba
  have HCA := Lib.hid hca
  unfold Ev.val at HRT ⊢
  clear hba hca hr
  go_enter Try.func10, Try.ntmps10
  go_upto_region 1 with (fail)
  rw [← hwa]
  clear hwa
  go_wp2_with fail
  refine HRT.out.mono ?_
  rintro r w1 ⟨rfl, hb1⟩
  have HB1 : Hid (Below w.heap.size w w1) := Lib.hid (HB.out.trans (hb1.mono HB.out.size))
  have HEB : Hid (Cells w1 w.heap.size 23 e.vals) := Lib.hid (HCA.out.later hb1)
  have HEL : Hid (w.heap.size < w1.heap.size) := Lib.hid HEB.out.lt
  have HPS := Lib.hid hps
  clear hb1 HRT HB HCA y0 y1 y2 y3 y4 hps
  obtain ⟨kd, ep, pe, sq, pay⟩ := e
  dsimp only at hkind HPS
  dsimp only
  rcases hkind with ⟨hkd, _⟩ | ⟨hkd, hpay⟩
  · obtain rfl : kd = 1 := hkd

    obtain ⟨w2, hw2⟩ : ∃ W, W = w1.alloc (.cells #[.slice none 0 0, .bool false] 92) := ⟨_, rfl⟩
    have hb2 : Below w1.heap.size w1 w2 := by rw [hw2]; exact below_alloc _ _
    have hwr2 : Wire.Wr w2 w1.heap.size w1.heap.size none (some []) := by rw [hw2]; exact Wire.wr_new w1 _ (Nat.le_refl _)
    obtain ⟨w3, hw3⟩ : ∃ W, W = w2.alloc (.cells #[.int .u8 1] 5) := ⟨_, rfl⟩
    have hb3 : Below w2.heap.size w2 w3 := by rw [hw3]; exact below_alloc _ _
    have hc3 : Cells w3 w2.heap.size 5 ([((1 : UInt8))].map bv) := by rw [hw3]; exact cells_new _ _ _ _ rfl
    have HBY := Lib.hid (Wire.byte_any w3 w1.heap.size w1.heap.size none (some []) [1] ⟨w2.heap.size, 0, none⟩ 1 (hwr2.later hb3) (fun j u hu => by rw [addr_add]; exact hc3.cell hu) (by simp))
    have HB3 : Hid (Below w1.heap.size w1 w3) := Lib.hid (hb2.trans (hb3.mono hb2.size))
    have HWR := Lib.hid (hwr2.later hb3)
    have y0 := (HEB.out.below (hb2.trans (hb3.mono hb2.size)) HEL.out).cell (j := 0) rfl
    have z0 := (HEB.out.below hb2 HEL.out).cell (j := 0) rfl
    clear hb2 hwr2 hb3 hc3
    go_upto_region 4 with (fail)
    rw [← hw2]
    clear hw2
    go_wp2_with (rw [← hw3])
    refine HBY.out.mono ?_
    rintro r w4 ⟨rfl, r4, hw4, htn4⟩
    have hb4 : Below w1.heap.size w1 w4 := HB3.out.trans (htn4.low (Nat.le_refl _) (fun k e => by cases e) HB3.out.size)
    have y1 := (HEB.out.below hb4 HEL.out).cell (j := 1) rfl
    have y2 := (HEB.out.below hb4 HEL.out).cell (j := 2) rfl
    have y3 := (HEB.out.below hb4 HEL.out).cell (j := 3) rfl
    dsimp only at y1 y2 y3
    obtain ⟨w5, hw5⟩ : ∃ W, W = w4.alloc (.cells #[.int .i64 ep, .int .i64 pe, .int .i64 sq] 3) := ⟨_, rfl⟩
    have hb5 : Below w4.heap.size w4 w5 := by rw [hw5]; exact below_alloc _ _
    have hc5 : Cells w5 w4.heap.size 3 [.int .i64 ep, .int .i64 pe, .int .i64 sq] := by rw [hw5]; exact cells_new _ _ _ _ rfl
    have hg4 := hw4.lt
    have hnu := Wire.nums_any w5 w1.heap.size w1.heap.size r4 _ [ep, pe, sq] w4.heap.size 3 (hw4.later hb5) (by simp) (by simp) (fun j hj => by
      have hj3 : j < 3 := hj
      match j, hj3 with
      | 0, _ => exact hc5.cell rfl
      | 1, _ => exact hc5.cell rfl
      | 2, _ => exact hc5.cell rfl) (by omega) (fun e => by
      have := hg4.2 _ e
      omega)
    have HNU := Lib.hid hnu
    have HW5 := Lib.hid (hw4.later hb5)
    have HB5 : Hid (Below w1.heap.size w1 w5) := Lib.hid (hb4.trans (hb5.mono hb4.size))
    clear hw4 htn4 hb4 hb5 hc5 hg4 hnu HBY HB3 HWR z0 y0
    go_wp2_with (rw [← hw5])
    refine HNU.out.mono ?_
    rintro r w6 ⟨rfl, r6, hw6, htn6⟩
    have hb6 : Below w1.heap.size w1 w6 := HB5.out.trans (htn6.low (Nat.le_refl _) (fun k e => HW5.out.own.2 k e) HB5.out.size)
    have y0 := (HEB.out.below hb6 HEL.out).cell (j := 0) rfl
    have y4 := (HEB.out.below hb6 HEL.out).cell (j := 4) rfl
    dsimp only at y0 y4
    have HW6 := Lib.hid hw6
    have HB6 := Lib.hid hb6
    clear hw6 htn6 hb6 HNU HW5 HB5 y1 y2 y3 hw5 hw3
    have ht8 := Wire.text_any w6 w1.heap.size w1.heap.size r6 _ pay HW6.out (by simp [Wire.nums, Wire.big_length]) (by have := HPS.out; omega)
    have HT8 := Lib.hid ht8
    clear ht8
    go_wp2_with fail
    refine HT8.out.mono ?_
    rintro r w8 ⟨rfl, r8, hw8, htn8⟩
    have HW8 := Lib.hid hw8
    have HB8 : Hid (Below w1.heap.size w1 w8) := Lib.hid (HB6.out.trans (htn8.low (HW6.out.own.1) (fun k e => HW6.out.own.2 k e) HB6.out.size))
    have HSG := Lib.hid (Wire.string_any w8 w1.heap.size w1.heap.size r8 _ hw8)
    clear hw8 htn8 HT8
    go_wp2_with fail
    refine HSG.out.mono ?_
    rintro r w9 ⟨rfl, rfl⟩
    go_wp2_with fail
    go_returns
    refine ⟨?_, (HB1.out.trans (HB8.out.mono HB1.out.size))⟩
    have e1 : bytesE ⟨1, ep, pe, sq, pay⟩ = [1] ++ (Wire.nums [ep, pe, sq] ++ (Wire.big pay.size 2 ++ pay.data.toList)) := by
      unfold bytesE
      dsimp only
      rw [if_pos rfl]
      rfl
    rw [e1]
    have hsz : ¬ 65535 < pay.size := by have := HPS.out; omega
    simp [Wire.textSt, hsz, Wire.bs]
  · obtain rfl : kd = 2 := hkd
    obtain rfl : pay = ⟨#[]⟩ := hpay
    obtain ⟨w2, hw2⟩ : ∃ W, W = w1.alloc (.cells #[.slice none 0 0, .bool false] 92) := ⟨_, rfl⟩
    have hb2 : Below w1.heap.size w1 w2 := by rw [hw2]; exact below_alloc _ _
    have hwr2 : Wire.Wr w2 w1.heap.size w1.heap.size none (some []) := by rw [hw2]; exact Wire.wr_new w1 _ (Nat.le_refl _)
    obtain ⟨w3, hw3⟩ : ∃ W, W = w2.alloc (.cells #[.int .u8 2] 5) := ⟨_, rfl⟩
    have hb3 : Below w2.heap.size w2 w3 := by rw [hw3]; exact below_alloc _ _
    have hc3 : Cells w3 w2.heap.size 5 ([((2 : UInt8))].map bv) := by rw [hw3]; exact cells_new _ _ _ _ rfl
    have HBY := Lib.hid (Wire.byte_any w3 w1.heap.size w1.heap.size none (some []) [2] ⟨w2.heap.size, 0, none⟩ 1 (hwr2.later hb3) (fun j u hu => by rw [addr_add]; exact hc3.cell hu) (by simp))
    have HB3 : Hid (Below w1.heap.size w1 w3) := Lib.hid (hb2.trans (hb3.mono hb2.size))
    have HWR := Lib.hid (hwr2.later hb3)
    have y0 := (HEB.out.below (hb2.trans (hb3.mono hb2.size)) HEL.out).cell (j := 0) rfl
    have z0 := (HEB.out.below hb2 HEL.out).cell (j := 0) rfl
    clear hb2 hwr2 hb3 hc3
    go_upto_region 4 with (fail)
    rw [← hw2]
    clear hw2
    go_wp2_with (rw [← hw3])
    refine HBY.out.mono ?_
    rintro r w4 ⟨rfl, r4, hw4, htn4⟩
    have hb4 : Below w1.heap.size w1 w4 := HB3.out.trans (htn4.low (Nat.le_refl _) (fun k e => by cases e) HB3.out.size)
    have y1 := (HEB.out.below hb4 HEL.out).cell (j := 1) rfl
    have y2 := (HEB.out.below hb4 HEL.out).cell (j := 2) rfl
    have y3 := (HEB.out.below hb4 HEL.out).cell (j := 3) rfl
    dsimp only at y1 y2 y3
    obtain ⟨w5, hw5⟩ : ∃ W, W = w4.alloc (.cells #[.int .i64 ep, .int .i64 pe, .int .i64 sq] 3) := ⟨_, rfl⟩
    have hb5 : Below w4.heap.size w4 w5 := by rw [hw5]; exact below_alloc _ _
    have hc5 : Cells w5 w4.heap.size 3 [.int .i64 ep, .int .i64 pe, .int .i64 sq] := by rw [hw5]; exact cells_new _ _ _ _ rfl
    have hg4 := hw4.lt
    have hnu := Wire.nums_any w5 w1.heap.size w1.heap.size r4 _ [ep, pe, sq] w4.heap.size 3 (hw4.later hb5) (by simp) (by simp) (fun j hj => by
      have hj3 : j < 3 := hj
      match j, hj3 with
      | 0, _ => exact hc5.cell rfl
      | 1, _ => exact hc5.cell rfl
      | 2, _ => exact hc5.cell rfl) (by omega) (fun e => by
      have := hg4.2 _ e
      omega)
    have HNU := Lib.hid hnu
    have HW5 := Lib.hid (hw4.later hb5)
    have HB5 : Hid (Below w1.heap.size w1 w5) := Lib.hid (hb4.trans (hb5.mono hb4.size))
    clear hw4 htn4 hb4 hb5 hc5 hg4 hnu HBY HB3 HWR z0 y0
    go_wp2_with (rw [← hw5])
    refine HNU.out.mono ?_
    rintro r w6 ⟨rfl, r6, hw6, htn6⟩
    have hb6 : Below w1.heap.size w1 w6 := HB5.out.trans (htn6.low (Nat.le_refl _) (fun k e => HW5.out.own.2 k e) HB5.out.size)
    have y0 := (HEB.out.below hb6 HEL.out).cell (j := 0) rfl
    have y4 := (HEB.out.below hb6 HEL.out).cell (j := 4) rfl
    dsimp only at y0 y4
    have HW6 := Lib.hid hw6
    have HB6 := Lib.hid hb6
    clear hw6 htn6 hb6 HNU HW5 HB5 y1 y2 y3 hw5 hw3
    have HSG := Lib.hid (Wire.string_any w6 w1.heap.size w1.heap.size r6 _ HW6.out)
    have HB8 := HB6
    go_wp2_with fail
    refine HSG.out.mono ?_
    rintro r w9 ⟨rfl, rfl⟩
    go_wp2_with fail
    go_returns
    refine ⟨?_, (HB1.out.trans (HB8.out.mono HB1.out.size))⟩
    have e1 : bytesE ⟨2, ep, pe, sq, ⟨#[]⟩⟩ = [2] ++ (Wire.nums [ep, pe, sq] ++ []) := by
      unfold bytesE
      dsimp only
      rw [if_neg (by decide)]
      rfl
    rw [e1]
    skip
    simp [Wire.bs]
end Go.Proofs.Ytifcpglifcjdjaa.Ses
