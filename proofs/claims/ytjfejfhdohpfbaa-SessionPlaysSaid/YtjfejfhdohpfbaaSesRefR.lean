/-
  Layer 14: what the document's Right says of an envelope. Taken out of XSesRefB by program. Conditions: none.
-/
import Derived.Test.YtjfejfhdohpfbaaSesRight
import Derived.Test.YtjfejfhdohpfbaaReg4
namespace Go.Proofs.Ytjfejfhdohpfbaa.Ses
set_option maxRecDepth 100000
open Go.RowKit Go.Deep Go.Proofs.Ytjfejfhdohpfbaa.Mem Go.Proofs.Ytjfejfhdohpfbaa.Win

set_option maxHeartbeats 4000000 in
theorem rright_any (e : Ev) (hs : e.pay.size ≤ 140737488355328) (w : World) : Calls Try.prog 9 #[e.val] w fun r w' => r = .returned (.bool (rightE e)) ∧ Below w.heap.size w w' := by
  obtain ⟨wa, hwa⟩ : ∃ W, W = w.alloc (.cells #[.int .i64 e.kind, .int .i64 e.epoch, .int .i64 e.peer, .int .i64 e.seq, .string e.pay] 25) := ⟨_, rfl⟩
  have hba : Below w.heap.size w wa := by rw [hwa]; exact below_alloc _ _
  have hca : Cells wa w.heap.size 25 e.vals := by rw [hwa]; exact cells_new _ _ _ _ rfl
  have y0 := hca.cell (j := 0) rfl
  have y1 := hca.cell (j := 1) rfl
  have y2 := hca.cell (j := 2) rfl
  have y3 := hca.cell (j := 3) rfl
  have y4 := hca.cell (j := 4) rfl
  have HB := Lib.hid hba
  obtain ⟨v, hv⟩ : ∃ v, rightE e = v := ⟨_, rfl⟩
  rw [hv]
  unfold rightE at hv
  unfold Ev.val
  obtain ⟨kd, ep, pe, sq, pay⟩ := e
  dsimp only at hv hs y0 y1 y2 y3 y4 ⊢
  dsimp only at hwa
  clear hba hca
  by_cases t0 : ep < 1
  · have d0 : decide (ep < 1) = true := decide_eq_true t0
    obtain rfl : v = false := hv ▸ decide_eq_false (by omega)
    clear hv t0
    go_enter Try.func9, Try.ntmps9
    go_upto_region 1 with (fail)
    rw [← hwa]
    clear hwa
    go_wp2_with fail
    go_returns
    exact ⟨rfl, HB.out⟩
  have d0 : decide (ep < 1) = false := decide_eq_false t0
  by_cases t1 : 1099511627776 < ep
  · have d1 : decide (ep > 1099511627776) = true := decide_eq_true t1
    obtain rfl : v = false := hv ▸ decide_eq_false (by omega)
    clear hv t0 t1
    go_enter Try.func9, Try.ntmps9
    go_upto_region 1 with (fail)
    rw [← hwa]
    clear hwa
    go_wp2_with fail
    go_returns
    exact ⟨rfl, HB.out⟩
  have d1 : decide (ep > 1099511627776) = false := decide_eq_false t1
  by_cases t2 : pe < 0
  · have d2 : decide (pe < 0) = true := decide_eq_true t2
    obtain rfl : v = false := hv ▸ decide_eq_false (by omega)
    clear hv t0 t1 t2
    go_enter Try.func9, Try.ntmps9
    go_upto_region 1 with (fail)
    rw [← hwa]
    clear hwa
    go_wp2_with fail
    go_returns
    exact ⟨rfl, HB.out⟩
  have d2 : decide (pe < 0) = false := decide_eq_false t2
  by_cases t3 : 1099511627776 < pe
  · have d3 : decide (pe > 1099511627776) = true := decide_eq_true t3
    obtain rfl : v = false := hv ▸ decide_eq_false (by omega)
    clear hv t0 t1 t2 t3
    go_enter Try.func9, Try.ntmps9
    go_upto_region 1 with (fail)
    rw [← hwa]
    clear hwa
    go_wp2_with fail
    go_returns
    exact ⟨rfl, HB.out⟩
  have d3 : decide (pe > 1099511627776) = false := decide_eq_false t3
  by_cases t4 : sq < 0
  · have d4 : decide (sq < 0) = true := decide_eq_true t4
    obtain rfl : v = false := hv ▸ decide_eq_false (by omega)
    clear hv t0 t1 t2 t3 t4
    go_enter Try.func9, Try.ntmps9
    go_upto_region 1 with (fail)
    rw [← hwa]
    clear hwa
    go_wp2_with fail
    go_returns
    exact ⟨rfl, HB.out⟩
  have d4 : decide (sq < 0) = false := decide_eq_false t4
  by_cases t5 : 1099511627776 < sq
  · have d5 : decide (sq > 1099511627776) = true := decide_eq_true t5
    obtain rfl : v = false := hv ▸ decide_eq_false (by omega)
    clear hv t0 t1 t2 t3 t4 t5
    go_enter Try.func9, Try.ntmps9
    go_upto_region 1 with (fail)
    rw [← hwa]
    clear hwa
    go_wp2_with fail
    go_returns
    exact ⟨rfl, HB.out⟩
  have d5 : decide (sq > 1099511627776) = false := decide_eq_false t5
  by_cases k1 : kd = 1
  · subst k1
    by_cases t7 : 0 < sq
    · have d7 : decide (sq > 0) = true := decide_eq_true t7
      by_cases t8 : pay.size ≤ 4032
      · have d8 : decide ((pay.size : Int) ≤ 4032) = true := decide_eq_true (by omega)
        obtain rfl : v = true := hv ▸ decide_eq_true (by omega)
        clear hv t0 t1 t2 t3 t4 t5 t7 t8
        go_enter Try.func9, Try.ntmps9
        go_upto_region 1 with (fail)
        rw [← hwa]
        clear hwa
        go_wp2_with fail
        go_returns
        exact ⟨rfl, HB.out⟩
      · have d8 : decide ((pay.size : Int) ≤ 4032) = false := decide_eq_false (by omega)
        obtain rfl : v = false := hv ▸ decide_eq_false (by omega)
        clear hv t0 t1 t2 t3 t4 t5 t7 t8
        go_enter Try.func9, Try.ntmps9
        go_upto_region 1 with (fail)
        rw [← hwa]
        clear hwa
        go_wp2_with fail
        go_returns
        exact ⟨rfl, HB.out⟩
    · have d7 : decide (sq > 0) = false := decide_eq_false t7
      obtain rfl : v = false := hv ▸ decide_eq_false (by omega)
      clear hv t0 t1 t2 t3 t4 t5 t7
      go_enter Try.func9, Try.ntmps9
      go_upto_region 1 with (fail)
      rw [← hwa]
      clear hwa
      go_wp2_with fail
      go_returns
      exact ⟨rfl, HB.out⟩
  · have e1 : (kd == 1) = false := by simpa using k1
    by_cases k2 : kd = 2
    · subst k2
      by_cases t8 : pay.size = 0
      · obtain rfl := empty_of t8
        obtain rfl : v = true := hv ▸ decide_eq_true (by omega)
        clear hv t0 t1 t2 t3 t4 t5 t8
        go_enter Try.func9, Try.ntmps9
        go_upto_region 1 with (fail)
        rw [← hwa]
        clear hwa
        go_wp2_with fail
        go_returns
        exact ⟨rfl, HB.out⟩
      · have hne : pay.toList.isEmpty = false := by
          rw [ByteArray.toList_eq, List.isEmpty_eq_false_iff]
          intro e
          exact t8 (by rw [← toList_size, e]; rfl)
        obtain rfl : v = false := hv ▸ decide_eq_false (by omega)
        clear hv t0 t1 t2 t3 t4 t5 t8
        go_enter Try.func9, Try.ntmps9
        go_upto_region 1 with (fail)
        rw [← hwa]
        clear hwa
        go_wp2_with fail
        go_returns
        exact ⟨rfl, HB.out⟩
    · have e2 : (kd == 2) = false := by simpa using k2
      obtain rfl : v = false := hv ▸ decide_eq_false (by omega)
      clear hv t0 t1 t2 t3 t4 t5 k1 k2
      go_enter Try.func9, Try.ntmps9
      go_upto_region 1 with (fail)
      rw [← hwa]
      clear hwa
      go_wp2_with fail
      go_returns
      exact ⟨rfl, HB.out⟩
end Go.Proofs.Ytjfejfhdohpfbaa.Ses
