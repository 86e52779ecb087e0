/-
  Layer 17, the code's cache: Get, Put of many, Drop of many. Conditions: none.
-/
import Derived.Test.YteedlenelfidcaaCacOps
namespace Go.Proofs.Yteedlenelfidcaa.Cac
set_option maxRecDepth 100000
open Go.RowKit Go.Deep Go.Proofs.Yteedlenelfidcaa.Mem

section
variable {B rb ac : Nat} {w : World} {R : Cc} {A : Option Addr}
set_option maxHeartbeats 1000000 in
theorem Get_any (h : CcAt B w rb R A ac) (c : Int) (hB : B ≤ w.heap.size) (hk : Cok R) : Calls Try.prog 12 #[.pointer (some ⟨rb, 0, none⟩), .int .i64 c] w fun x w' => x = .returned (.tuple #[(getD0 c R.l).v, .bool (hasE c R.l)]) ∧ CcStep B rb A w (useE R c) w' := by
  obtain ⟨wa, hwa⟩ : ∃ W, W = w.alloc (.cells #[.int .i64 0, .int .i64 0, .int .i64 0, .int .i64 0] 38) := ⟨_, rfl⟩
  have hba : Below w.heap.size w wa := by rw [hwa]; exact below_alloc _ _
  have hca : Cells wa w.heap.size 38 [.int .i64 0, .int .i64 0, .int .i64 0, .int .i64 0] := by rw [hwa]; exact cells_new _ _ _ _ rfl
  have hra := h.later hba
  have HC := Lib.hid (Peek_any hra c)
  have HB := Lib.hid hba
  have HRA := Lib.hid hra
  have HH := Lib.hid h
  have HCA := Lib.hid hca
  have HBW0 := Lib.hid hB
  have HK := Lib.hid hk
  obtain ⟨ok, hok⟩ : ∃ b, hasE c R.l = b := ⟨_, rfl⟩
  obtain ⟨e, he⟩ : ∃ e, getD0 c R.l = e := ⟨_, rfl⟩
  have HPA : Hid (ok = true → putE R e = (true, useE R c)) := Lib.hid fun q => by
    unfold hasE at hok
    rw [q] at hok
    obtain ⟨x, hx⟩ := Option.isSome_iff_exists.1 hok
    have : e = x := by rw [← he]; unfold getD0; rw [hx]; rfl
    rw [this]
    exact put_again hx
  have HNO : Hid (ok = false → useE R c = R) := Lib.hid fun q => by
    unfold hasE at hok
    rw [q] at hok
    unfold useE
    rw [Option.isSome_eq_false_iff, Option.isNone_iff_eq_none] at hok
    rw [hok]
  rw [hok, he] at HC ⊢
  unfold En.v at HC ⊢
  clear h hba hca hra hB hk hok he
  go_enter Try.func12, Try.ntmps12
  go_upto_region 1 with (fail)
  rw [← hwa]
  clear hwa
  go_wp2_with fail
  refine HC.out.mono ?_
  rintro x wq ⟨rfl, hbq⟩
  obtain ⟨wb, hwb⟩ : ∃ W, W = wq.alloc (.cells #[.int .i64 e.cell, .int .i64 e.ver, .int .i64 e.val, .int .i64 e.frm] 38) := ⟨_, rfl⟩
  have hbb : Below wq.heap.size wq wb := by rw [hwb]; exact below_alloc _ _
  have hcb : Cells wb wq.heap.size 38 e.vals := by rw [hwb]; exact cells_new _ _ _ _ rfl
  have hrb := (HRA.out.later hbq).later hbb
  have hca2 := (HCA.out.later hbq).later hbb
  have hwb2 := HB.out.trans ((hbq.trans (hbb.mono hbq.size)).mono HB.out.size)
  have y0 := hcb.cell (j := 0) rfl
  have y1 := hcb.cell (j := 1) rfl
  have y2 := hcb.cell (j := 2) rfl
  have y3 := hcb.cell (j := 3) rfl
  have HTK := Lib.hid (Take_any hrb e (Nat.le_trans HBW0.out hwb2.size) HK.out)
  unfold En.v at HTK
  have HWB := Lib.hid hwb2
  have HCB := Lib.hid hcb
  have HCA2 := Lib.hid hca2
  have HLT : Hid (w.heap.size < wb.heap.size) := Lib.hid hca2.lt
  have HFT : Hid (∀ j, cfoot rb A j → j ≠ wq.heap.size ∧ j ≠ w.heap.size) := Lib.hid (fun j q => by
    have h1 := (HH.out.lt q).2
    have h2 := HB.out.size
    have h3 := hbq.size
    exact ⟨by omega, by omega⟩)
  have hz0 := hca2.cell (j := 0) rfl
  have hz1 := hca2.cell (j := 1) rfl
  have hz2 := hca2.cell (j := 2) rfl
  have hz3 := hca2.cell (j := 3) rfl
  have hf0 := hca2.frozen (j := 0) (by simp)
  have hf1 := hca2.frozen (j := 1) (by simp)
  have hf2 := hca2.frozen (j := 2) (by simp)
  have hf3 := hca2.frozen (j := 3) (by simp)
  clear hbq hbb hcb hrb hca2 hwb2
  go_upto_region 2 with (fail)
  rw [← hwb]
  clear hwb
  cases ok with
  | false =>
    have HNO2 := Lib.hid (HNO.out rfl)
    have HF := (((HCA2.out.set_ 0 (.int .i64 e.cell)).set_ 1 (.int .i64 e.ver)).set_ 2 (.int .i64 e.val)).set_ 3 (.int .i64 e.frm)
    clear HTK
    go_wp2_with fail
    refine bodyPost_ret (v := .tuple #[.agg #[.int .i64 e.cell, .int .i64 e.ver, .int .i64 e.val, .int .i64 e.frm], .bool false]) ?_ rfl ?_
    · exact (ret_cell_tmp (p := 4) (q := 5) (ty := 38) (by rfl) _ HF _ (by rfl) Try.underlying38 rfl (by kernel_rfl)).trans (by rfl)
    · exact ⟨rfl, by rw [HNO2.out]; exact CxStep.same HH.out ((((HWB.out.setCell (Nat.le_refl _) _).setCell (Nat.le_refl _) _).setCell (Nat.le_refl _) _).setCell (Nat.le_refl _) _)⟩
  | true =>
    rw [HPA.out rfl] at HTK
    clear hz0 hz1 hz2 hz3 hf0 hf1 hf2 hf3
    go_wp2_with fail
    refine HTK.out.mono ?_
    rintro x wf ⟨rfl, hst⟩
    obtain ⟨A2, ac2, hr2, ho2, hg2⟩ := hst
    have hcf := cells_only HCA2.out ho2 fun q => (HFT.out _ q).2 rfl
    have hce := cells_only HCB.out ho2 fun q => (HFT.out _ q).1 rfl
    have v0 := hce.cell (j := 0) rfl
    have v1 := hce.cell (j := 1) rfl
    have v2 := hce.cell (j := 2) rfl
    have v3 := hce.cell (j := 3) rfl
    have z0 := hcf.cell (j := 0) rfl
    have z1 := hcf.cell (j := 1) rfl
    have z2 := hcf.cell (j := 2) rfl
    have z3 := hcf.cell (j := 3) rfl
    have f0 := hcf.frozen (j := 0) (by simp)
    have f1 := hcf.frozen (j := 1) (by simp)
    have f2 := hcf.frozen (j := 2) (by simp)
    have f3 := hcf.frozen (j := 3) (by simp)
    have HF := (((hcf.set_ 0 (.int .i64 e.cell)).set_ 1 (.int .i64 e.ver)).set_ 2 (.int .i64 e.val)).set_ 3 (.int .i64 e.frm)
    have HS : Hid (CcStep B rb A wb (useE R c) wf) := Lib.hid ⟨A2, ac2, hr2, ho2, hg2⟩
    clear hr2 ho2 hg2 hcf hce y0 y1 y2 y3
    go_wp2_with fail
    refine bodyPost_ret (v := .tuple #[.agg #[.int .i64 e.cell, .int .i64 e.ver, .int .i64 e.val, .int .i64 e.frm], .bool true]) ?_ rfl ?_
    · exact (ret_cell_tmp (p := 4) (q := 5) (ty := 38) (by rfl) _ HF _ (by rfl) Try.underlying38 rfl (by kernel_rfl)).trans (by rfl)
    · exact ⟨rfl, CxStep.aside HH.out HWB.out HS.out (Nat.le_refl _) HLT.out (only_set4 _ _ _ _ _ _)⟩
theorem Get_nil (c : Int) : Calls Try.prog 12 #[.pointer none, .int .i64 c] w fun x w' => x = .returned (.tuple #[en0.v, .bool false]) ∧ Below w.heap.size w w' := by
  obtain ⟨wa, hwa⟩ : ∃ W, W = w.alloc (.cells #[.int .i64 0, .int .i64 0, .int .i64 0, .int .i64 0] 38) := ⟨_, rfl⟩
  have hba : Below w.heap.size w wa := by rw [hwa]; exact below_alloc _ _
  have hca : Cells wa w.heap.size 38 [.int .i64 0, .int .i64 0, .int .i64 0, .int .i64 0] := by rw [hwa]; exact cells_new _ _ _ _ rfl
  have HC := Lib.hid (Peek_nil (w := wa) c)
  have HB := Lib.hid hba
  have HCA := Lib.hid hca
  unfold En.v en0 at HC
  clear hba hca
  go_enter Try.func12, Try.ntmps12
  go_upto_region 1 with (fail)
  rw [← hwa]
  clear hwa
  go_wp2_with fail
  refine HC.out.mono ?_
  rintro x wq ⟨rfl, hbq⟩
  obtain ⟨wb, hwb⟩ : ∃ W, W = wq.alloc (.cells #[.int .i64 0, .int .i64 0, .int .i64 0, .int .i64 0] 38) := ⟨_, rfl⟩
  have hbb : Below wq.heap.size wq wb := by rw [hwb]; exact below_alloc _ _
  have hcb : Cells wb wq.heap.size 38 [.int .i64 0, .int .i64 0, .int .i64 0, .int .i64 0] := by rw [hwb]; exact cells_new _ _ _ _ rfl
  have hca2 := (HCA.out.later hbq).later hbb
  have HWB := Lib.hid (HB.out.trans ((hbq.trans (hbb.mono hbq.size)).mono HB.out.size))
  have y0 := hcb.cell (j := 0) rfl
  have y1 := hcb.cell (j := 1) rfl
  have y2 := hcb.cell (j := 2) rfl
  have y3 := hcb.cell (j := 3) rfl
  have hz0 := hca2.cell (j := 0) rfl
  have hz1 := hca2.cell (j := 1) rfl
  have hz2 := hca2.cell (j := 2) rfl
  have hz3 := hca2.cell (j := 3) rfl
  have hf0 := hca2.frozen (j := 0) (by simp)
  have hf1 := hca2.frozen (j := 1) (by simp)
  have hf2 := hca2.frozen (j := 2) (by simp)
  have hf3 := hca2.frozen (j := 3) (by simp)
  have HF := (((hca2.set_ 0 (.int .i64 0)).set_ 1 (.int .i64 0)).set_ 2 (.int .i64 0)).set_ 3 (.int .i64 0)
  clear hbq hbb hcb hca2
  go_upto_region 2 with (fail)
  rw [← hwb]
  clear hwb
  go_wp2_with fail
  refine bodyPost_ret (v := .tuple #[.agg #[.int .i64 0, .int .i64 0, .int .i64 0, .int .i64 0], .bool false]) ?_ rfl ?_
  · exact (ret_cell_tmp (p := 4) (q := 5) (ty := 38) (by rfl) _ HF _ (by rfl) Try.underlying38 rfl (by kernel_rfl)).trans (by rfl)
  · exact ⟨rfl, (((HWB.out.setCell (Nat.le_refl _) _).setCell (Nat.le_refl _) _).setCell (Nat.le_refl _) _).setCell (Nat.le_refl _) _⟩
set_option maxHeartbeats 1000000 in
theorem Puts_any {L : Option Addr} {lc : Nat} {l : List En} (h : CcAt B w rb R A ac) (hB : B ≤ w.heap.size) (hk : Cok R) (hs : Sl w L 4 (l.map En.vals)) (hn : l ≠ [] → ∀ k, blk L = some k → ¬ cfoot rb A k ∧ k < w.heap.size) (hl : l.length ≤ 1000) :
    Calls Try.prog 11 #[.pointer (some ⟨rb, 0, none⟩), .slice L l.length lc] w fun x w' => x = .returned (.int .i64 (putsE R l).1) ∧ CcStep B rb A w (putsE R l).2 w' := by
  have HH := Lib.hid h
  have HBW0 := Lib.hid hB
  have HK := Lib.hid hk
  have HS := Lib.hid hs
  have HNB := Lib.hid hn
  obtain ⟨n, hnn⟩ : ∃ n, l.length = n := ⟨_, rfl⟩
  have HN := Lib.hid hnn
  obtain ⟨ans, hans⟩ : ∃ x, putsE R l = x := ⟨_, rfl⟩
  have HA := Lib.hid hans
  rw [hnn] at hl ⊢
  rw [hans]
  clear h hB hk hs hn hnn hans
  go_enter Try.func11, Try.ntmps11
  go_wp2_with fail
  go_loopw [5, 10] (fun z i wr => ∃ ii : Nat, ii ≤ n ∧ i = .int .i64 (ii : Int) ∧ z = .int .i64 (putsE R (l.take ii)).1 ∧ Hid (CcStep B rb A w (putsE R (l.take ii)).2 wr)) (fun _ i _ => n - (intOf i).toNat)
  case atStart => exact ⟨0, Nat.zero_le _, rfl, rfl, Lib.hid (CxStep.same HH.out (Below.refl _ _))⟩
  case round =>
    obtain ⟨ii, hii, rfl, rfl, HST⟩ := hrel
    by_cases hlt : ii < n
    · have hil : ii < l.length := by rw [HN.out]; exact hlt
      obtain ⟨t, ht⟩ : ∃ t, l[ii] = t := ⟨_, rfl⟩
      have htk : l.take (ii + 1) = l.take ii ++ [t] := by rw [List.take_succ_eq_append_getElem hil, ht]
      have hmo := putsE_more t (l.take ii) R
      rw [← htk] at hmo
      have hct := putsE_count (l.take ii) R
      rw [List.length_take] at hct
      have HOK := Lib.hid (Cok.puts (l.take ii) HK.out)
      obtain ⟨q, hq⟩ : ∃ q, putsE R (l.take ii) = q := ⟨_, rfl⟩
      rw [hq] at HST hmo hct HOK ⊢
      have HMO := Lib.hid hmo
      have HW0 := HST.out
      obtain ⟨A1, c1, k1, k2, k3⟩ := HW0
      obtain ⟨g, off, rfl, hr⟩ := (sl_only HS.out k2 fun k e => (HNB.out (List.ne_nil_of_length_pos (by omega)) k e).1) ii (by rw [List.length_map]; exact hil)
      rw [List.getElem_map, ht] at hr
      have x0 := hr 0 _ rfl
      rw [Nat.add_zero] at x0
      have x1 := hr 1 _ rfl
      have x2 := hr 2 _ rfl
      have x3 := hr 3 _ rfl
      obtain ⟨wb, hwb⟩ : ∃ W, W = wr.alloc (.cells #[.int .i64 t.cell, .int .i64 t.ver, .int .i64 t.val, .int .i64 t.frm] 38) := ⟨_, rfl⟩
      have hbb : Below wr.heap.size wr wb := by rw [hwb]; exact below_alloc _ _
      have hcb : Cells wb wr.heap.size 38 t.vals := by rw [hwb]; exact cells_new _ _ _ _ rfl
      have y0 := hcb.cell (j := 0) rfl
      have y1 := hcb.cell (j := 1) rfl
      have y2 := hcb.cell (j := 2) rfl
      have y3 := hcb.cell (j := 3) rfl
      have HTK := Lib.hid ((Take_any (k1.later hbb) t (Nat.le_trans HBW0.out (Nat.le_trans k2.size hbb.size)) HOK.out).mono fun x w' z => (show x = _ ∧ CcStep B rb A w (putsE R (l.take (ii + 1))).2 w' from ⟨z.1, by rw [HMO.out]; exact CxStep.next k2 k3 (CxStep.before hbb z.2)⟩))
      unfold En.v at HTK
      obtain ⟨z, hz⟩ : ∃ z, q.1 = z := ⟨_, rfl⟩
      obtain ⟨tk, htk2⟩ : ∃ z, (putE q.2 t).1 = z := ⟨_, rfl⟩
      rw [hz] at hct ⊢
      rw [htk2] at HTK
      have HZ : Hid ((putsE R (l.take (ii + 1))).1 = z + b1 tk) := Lib.hid (by rw [HMO.out, hz, htk2])
      have hzb : 0 ≤ z ∧ z ≤ 1000 := by omega
      obtain ⟨hz1, hz2⟩ := hzb
      clear hil ht htk hmo hct hq HMO k1 k2 k3 hr hbb hcb hz htk2 HOK
      go_upto_region 5 with (fail)
      rw [← hwb]
      clear hwb x0 x1 x2 x3
      go_wp2_with fail
      refine HTK.out.mono ?_
      rintro x wx ⟨rfl, hst⟩
      have HS2 := Lib.hid hst
      clear hst y0 y1 y2 y3 HTK
      cases tk with
      | true =>
        have hw : IntKind.i64.wrap (z + 1) = z + 1 := IntWalk.i64_in _ (by omega)
        go_wp2_with fail
        go_roundw
        case rel => exact ⟨ii + 1, by omega, by go_num, congrArg (Value.int .i64) (by rw [HZ.out]; rfl), HS2⟩
        case measure => simp [intOf]; omega
      | false =>
        go_wp2_with fail
        go_roundw
        case rel => exact ⟨ii + 1, by omega, by go_num, congrArg (Value.int .i64) (by rw [HZ.out]; simp [b1]), HS2⟩
        case measure => simp [intOf]; omega
    · obtain rfl : ii = n := by omega
      have HT : Hid (putsE R (l.take ii) = ans) := Lib.hid (by rw [List.take_of_length_le (by rw [HN.out]; exact Nat.le_refl _)]; exact HA.out)
      rw [HT.out] at HST ⊢
      go_wp2_with fail
      go_returns
      exact ⟨rfl, HST.out⟩
theorem Puts_nil {L : Option Addr} {lc : Nat} {l : List En} (hs : Sl w L 4 (l.map En.vals)) (hl : l.length ≤ 1000) :
    Calls Try.prog 11 #[.pointer none, .slice L l.length lc] w fun x w' => x = .returned (.int .i64 0) ∧ Below w.heap.size w w' := by
  have HS := Lib.hid hs
  obtain ⟨n, hnn⟩ : ∃ n, l.length = n := ⟨_, rfl⟩
  have HN := Lib.hid hnn
  rw [hnn] at hl ⊢
  clear hs hnn
  go_enter Try.func11, Try.ntmps11
  go_wp2_with fail
  go_loopw [5, 10] (fun z i wr => ∃ ii : Nat, ii ≤ n ∧ i = .int .i64 (ii : Int) ∧ z = .int .i64 0 ∧ Hid (Below w.heap.size w wr)) (fun _ i _ => n - (intOf i).toNat)
  case atStart => exact ⟨0, Nat.zero_le _, rfl, rfl, Lib.hid (Below.refl _ _)⟩
  case round =>
    obtain ⟨ii, hii, rfl, rfl, HB⟩ := hrel
    by_cases hlt : ii < n
    · have hil : ii < l.length := by rw [HN.out]; exact hlt
      obtain ⟨t, ht⟩ : ∃ t, l[ii] = t := ⟨_, rfl⟩
      obtain ⟨g, off, rfl, hr⟩ := (HS.out.later HB.out) ii (by rw [List.length_map]; exact hil)
      rw [List.getElem_map, ht] at hr
      have x0 := hr 0 _ rfl
      rw [Nat.add_zero] at x0
      have x1 := hr 1 _ rfl
      have x2 := hr 2 _ rfl
      have x3 := hr 3 _ rfl
      obtain ⟨wb, hwb⟩ : ∃ W, W = wr.alloc (.cells #[.int .i64 t.cell, .int .i64 t.ver, .int .i64 t.val, .int .i64 t.frm] 38) := ⟨_, rfl⟩
      have hbb : Below wr.heap.size wr wb := by rw [hwb]; exact below_alloc _ _
      have hcb : Cells wb wr.heap.size 38 t.vals := by rw [hwb]; exact cells_new _ _ _ _ rfl
      have y0 := hcb.cell (j := 0) rfl
      have y1 := hcb.cell (j := 1) rfl
      have y2 := hcb.cell (j := 2) rfl
      have y3 := hcb.cell (j := 3) rfl
      have HTK := Lib.hid (Take_nil t wb)
      unfold En.v at HTK
      have HB1 := Lib.hid (HB.out.trans (hbb.mono HB.out.size))
      clear hil ht hr hbb hcb
      go_upto_region 5 with (fail)
      rw [← hwb]
      clear hwb x0 x1 x2 x3
      go_wp2_with fail
      refine HTK.out.mono ?_
      rintro x wx ⟨rfl, hb⟩
      have HB2 := Lib.hid (HB1.out.trans (hb.mono HB1.out.size))
      clear hb y0 y1 y2 y3 HTK
      go_wp2_with fail
      go_roundw
      case rel => exact ⟨ii + 1, by omega, by go_num, by trivial, HB2⟩
      case measure => simp [intOf]; omega
    · obtain rfl : ii = n := by omega
      go_wp2_with fail
      go_returns
      exact ⟨rfl, HB.out⟩
def ints (cs : List Int) : List (List Value) := cs.map fun c => [.int .i64 c]
set_option maxHeartbeats 1000000 in
theorem Drops_any {L : Option Addr} {lc : Nat} {l : List Int} (h : CcAt B w rb R A ac) (hk : Cok R) (hs : Sl w L 1 (ints l)) (hn : l ≠ [] → ∀ k, blk L = some k → ¬ cfoot rb A k ∧ k < w.heap.size) (hl : l.length ≤ 1000) :
    Calls Try.prog 18 #[.pointer (some ⟨rb, 0, none⟩), .slice L l.length lc] w fun x w' => x = .returned (.int .i64 (dropsE R l).1) ∧ CcStep B rb A w (dropsE R l).2 w' := by
  have HH := Lib.hid h
  have HK := Lib.hid hk
  have HS := Lib.hid hs
  have HNB := Lib.hid hn
  obtain ⟨n, hnn⟩ : ∃ n, l.length = n := ⟨_, rfl⟩
  have HN := Lib.hid hnn
  obtain ⟨ans, hans⟩ : ∃ x, dropsE R l = x := ⟨_, rfl⟩
  have HA := Lib.hid hans
  rw [hnn] at hl ⊢
  rw [hans]
  clear h hk hs hn hnn hans
  go_enter Try.func18, Try.ntmps18
  go_wp2_with fail
  go_loopw [5, 11] (fun z i wr => ∃ ii : Nat, ii ≤ n ∧ i = .int .i64 (ii : Int) ∧ z = .int .i64 (dropsE R (l.take ii)).1 ∧ Hid (CcStep B rb A w (dropsE R (l.take ii)).2 wr)) (fun _ i _ => n - (intOf i).toNat)
  case atStart => exact ⟨0, Nat.zero_le _, rfl, rfl, Lib.hid (CxStep.same HH.out (Below.refl _ _))⟩
  case round =>
    obtain ⟨ii, hii, rfl, rfl, HST⟩ := hrel
    by_cases hlt : ii < n
    · have hil : ii < l.length := by rw [HN.out]; exact hlt
      obtain ⟨c, ht⟩ : ∃ t, l[ii] = t := ⟨_, rfl⟩
      have htk : l.take (ii + 1) = l.take ii ++ [c] := by rw [List.take_succ_eq_append_getElem hil, ht]
      have hmo := dropsE_more c (l.take ii) R
      rw [← htk] at hmo
      have hct := dropsE_count (l.take ii) R
      rw [List.length_take] at hct
      have hok := Cok.drops (l.take ii) HK.out
      obtain ⟨q, hq⟩ : ∃ q, dropsE R (l.take ii) = q := ⟨_, rfl⟩
      rw [hq] at HST hmo hct hok ⊢
      have HMO := Lib.hid hmo
      have HW0 := HST.out
      obtain ⟨A1, c1, k1, k2, k3⟩ := HW0
      obtain ⟨g, off, rfl, hr⟩ := (sl_only HS.out k2 fun k e => (HNB.out (List.ne_nil_of_length_pos (by omega)) k e).1) ii (by unfold ints; rw [List.length_map]; exact hil)
      unfold ints at hr
      rw [List.getElem_map, ht] at hr
      have x0 := hr 0 _ rfl
      rw [Nat.add_zero, Nat.mul_one] at x0
      have HPL := Lib.hid (Place_any k1 c)
      have HRM : Hid (∀ (i : Nat), i < q.2.l.length → ∀ wi, Below wr.heap.size wr wi → Calls Try.prog 25 #[.pointer (some ⟨rb, 0, none⟩), .int .i64 (i : Int)] wi fun x w' => x = .returned (.tuple #[]) ∧ CcStep B rb A w { q.2 with l := q.2.l.take i ++ q.2.l.drop (i + 1) } w') := Lib.hid fun i hi wi hb => (Remove_any (k1.later hb) hi).mono fun x w' z => ⟨z.1, CxStep.next k2 k3 (CxStep.before hb z.2)⟩
      obtain ⟨z, hz⟩ : ∃ z, q.1 = z := ⟨_, rfl⟩
      rw [hz] at hct ⊢
      have hzb : 0 ≤ z ∧ z ≤ 1000 := by omega
      obtain ⟨hz1, hz2⟩ := hzb
      have hl16 := hok.l16
      have HST2 : Hid (∀ wi, Below wr.heap.size wr wi → CcStep B rb A w q.2 wi) := Lib.hid fun wi hb => CxStep.after HST.out hb
      rcases atE_spec c q.2.l 0 with ⟨h1, h2, h3, h4⟩ | ⟨j, hj, h1, h2, h3, h4⟩
      · rw [h1] at HPL
        have HZ : Hid (dropsE R (l.take (ii + 1)) = (z, q.2)) := Lib.hid (by
          rw [HMO.out]
          unfold dropE hasE
          rw [h2, h3, hz]
          simp [b1])
        clear hil ht htk hmo hct hq HMO k1 k2 k3 hr hz h1 h2 h3 h4 HRM hok hl16
        go_wp2_with fail
        refine HPL.out.mono ?_
        rintro x wx ⟨rfl, hb⟩
        have HS2 : Hid (CcStep B rb A w (dropsE R (l.take (ii + 1))).2 wx) := Lib.hid (by rw [HZ.out]; exact HST2.out wx hb)
        clear hb x0
        go_wp2_with fail
        go_roundw
        case rel => exact ⟨ii + 1, by omega, by go_num, congrArg (Value.int .i64) (by rw [HZ.out]), HS2⟩
        case measure => simp [intOf]; omega
      · rw [Nat.zero_add] at h1
        rw [h1] at HPL
        have HZ : Hid (dropsE R (l.take (ii + 1)) = (z + 1, { q.2 with l := q.2.l.take j ++ q.2.l.drop (j + 1) })) := Lib.hid (by
          rw [HMO.out]
          unfold dropE hasE
          rw [h2, h3, hz]
          rfl)
        have HRM2 := Lib.hid (HRM.out j hj)
        have hj16 : j ≤ 16 := by omega
        have b0 : decide ((j : Int) ≥ 0) = true := by simp
        have hw : IntKind.i64.wrap (z + 1) = z + 1 := IntWalk.i64_in _ (by omega)
        clear hil ht htk hmo hct hq HMO k1 k2 k3 hr hz h1 h2 h3 h4 HRM hj hok hl16
        go_wp2_with fail
        refine HPL.out.mono ?_
        rintro x wx ⟨rfl, hb⟩
        have HBX := Lib.hid hb
        clear hb x0
        go_wp2_with fail
        refine (HRM2.out wx HBX.out).mono ?_
        rintro x wy ⟨rfl, hst⟩
        have HS2 : Hid (CcStep B rb A w (dropsE R (l.take (ii + 1))).2 wy) := Lib.hid (by rw [HZ.out]; exact hst)
        clear hst
        go_wp2_with fail
        go_roundw
        case rel => exact ⟨ii + 1, by omega, by go_num, congrArg (Value.int .i64) (by rw [HZ.out]), HS2⟩
        case measure => simp [intOf]; omega
    · obtain rfl : ii = n := by omega
      have HT : Hid (dropsE R (l.take ii) = ans) := Lib.hid (by rw [List.take_of_length_le (by rw [HN.out]; exact Nat.le_refl _)]; exact HA.out)
      rw [HT.out] at HST ⊢
      go_wp2_with fail
      go_returns
      exact ⟨rfl, HST.out⟩
theorem Drops_nil {L : Option Addr} {lc : Nat} {l : List Int} (hs : Sl w L 1 (ints l)) (hl : l.length ≤ 1000) :
    Calls Try.prog 18 #[.pointer none, .slice L l.length lc] w fun x w' => x = .returned (.int .i64 0) ∧ Below w.heap.size w w' := by
  have HS := Lib.hid hs
  obtain ⟨n, hnn⟩ : ∃ n, l.length = n := ⟨_, rfl⟩
  have HN := Lib.hid hnn
  rw [hnn] at hl ⊢
  clear hs hnn
  go_enter Try.func18, Try.ntmps18
  go_wp2_with fail
  go_loopw [5, 11] (fun z i wr => ∃ ii : Nat, ii ≤ n ∧ i = .int .i64 (ii : Int) ∧ z = .int .i64 0 ∧ Hid (Below w.heap.size w wr)) (fun _ i _ => n - (intOf i).toNat)
  case atStart => exact ⟨0, Nat.zero_le _, rfl, rfl, Lib.hid (Below.refl _ _)⟩
  case round =>
    obtain ⟨ii, hii, rfl, rfl, HB⟩ := hrel
    by_cases hlt : ii < n
    · have hil : ii < l.length := by rw [HN.out]; exact hlt
      obtain ⟨c, ht⟩ : ∃ t, l[ii] = t := ⟨_, rfl⟩
      obtain ⟨g, off, rfl, hr⟩ := (HS.out.later HB.out) ii (by unfold ints; rw [List.length_map]; exact hil)
      unfold ints at hr
      rw [List.getElem_map, ht] at hr
      have x0 := hr 0 _ rfl
      rw [Nat.add_zero, Nat.mul_one] at x0
      have HPL := Lib.hid (Place_nil wr c)
      clear hil ht hr
      go_wp2_with fail
      refine HPL.out.mono ?_
      rintro x wx ⟨rfl, hb⟩
      have HB2 := Lib.hid (HB.out.trans (hb.mono HB.out.size))
      clear hb x0
      go_wp2_with fail
      go_roundw
      case rel => exact ⟨ii + 1, by omega, by go_num, by trivial, HB2⟩
      case measure => simp [intOf]; omega
    · obtain rfl : ii = n := by omega
      go_wp2_with fail
      go_returns
      exact ⟨rfl, HB.out⟩
end
end Go.Proofs.Yteedlenelfidcaa.Cac
