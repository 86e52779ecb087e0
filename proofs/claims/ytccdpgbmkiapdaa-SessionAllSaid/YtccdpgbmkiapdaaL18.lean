/-
  Layer 14: whether an envelope is right; whether one of some payloads is too long.
  Conditions: none.
-/
import Derived.Test.YtccdpgbmkiapdaaL12
namespace Go.Proofs.Ytccdpgbmkiapdaa.Ses
set_option maxRecDepth 100000
open Go.RowKit Go.Deep Go.Proofs.Ytccdpgbmkiapdaa.Mem Go.Proofs.Ytccdpgbmkiapdaa.Win
theorem among_t {n a b : Int} (h : a ≤ n ∧ n ≤ b) (w : World) : Calls Try.prog 37 #[.int .i64 n, .int .i64 a, .int .i64 b] w fun e w' => e = .returned (.bool true) ∧ w' = w := by
 have := among_any n a b w
 rwa [decide_eq_true h] at this
theorem among_f {n a b : Int} (h : ¬ (a ≤ n ∧ n ≤ b)) (w : World) : Calls Try.prog 37 #[.int .i64 n, .int .i64 a, .int .i64 b] w fun e w' => e = .returned (.bool false) ∧ w' = w := by
 have := among_any n a b w
 rwa [decide_eq_false h] at this
theorem empty_of {s : ByteArray} (h : s.size = 0) : s = ⟨#[]⟩ := by
 apply ByteArray.ext
 exact Array.eq_empty_of_size_eq_zero h
set_option maxHeartbeats 1000000 in
theorem right_any (e : Ev) (hs : e.pay.size ≤ 140737488355328) (w : World) : Calls Try.prog 11 #[e.val] w fun r w' => r = .returned (.bool (rightE e)) ∧ Below w.heap.size w w' := by
 obtain ⟨wa, hwa⟩ : ∃ W, W = w.alloc (.cells #[.int .i64 e.kind, .int .i64 e.epoch, .int .i64 e.peer, .int .i64 e.seq, .string e.pay] 23) := ⟨_, rfl⟩
 have hba : Below w.heap.size w wa := by rw [hwa]; exact below_alloc _ _
 have hca : Cells wa w.heap.size 23 e.vals := by rw [hwa]; exact cells_new _ _ _ _ rfl
 have y0 := hca.cell (j := 0) rfl
 have y1 := hca.cell (j := 1) rfl
 have y2 := hca.cell (j := 2) rfl
 have y3 := hca.cell (j := 3) rfl
 have y4 := hca.cell (j := 4) rfl
 have HB := Lib.hid hba
 obtain ⟨v, hv⟩ : ∃ v, rightE e = v := ⟨_, rfl⟩
 rw [hv]
 unfold rightE at hv
 unfold Ev.val
 obtain ⟨kd, ep, pe, sq, pay⟩ := e
 dsimp only at hv hs y0 y1 y2 y3 y4 ⊢
 dsimp only at hwa
 clear hba hca
 by_cases h1 : 1 ≤ ep ∧ ep ≤ 1099511627776
 ·have HA1 := Lib.hid (among_t h1 wa)
  by_cases h2 : 0 ≤ pe ∧ pe ≤ 1099511627776
  ·have HA2 := Lib.hid (among_t h2 wa)
   by_cases k1 : kd = 1
   ·subst k1
    by_cases h3 : 1 ≤ sq ∧ sq ≤ 1099511627776
    ·have HA3 := Lib.hid (among_t h3 wa)
     have HL := Lib.hid (long_any pay hs wa)
     by_cases h4 : 4032 < pay.size
     ·rw [decide_eq_true h4] at HL
      obtain rfl : v = false := hv ▸ decide_eq_false (by omega)
      clear hv h1 h2 h3 h4
      go_enter Try.func11, Try.ntmps11
      go_upto_region 1 with (fail)
      rw [← hwa]
      clear hwa
      go_wp2_with fail
      refine HA1.out.mono ?_
      rintro e w1 ⟨rfl, rfl⟩
      go_wp2_with fail
      refine HA2.out.mono ?_
      rintro e w1 ⟨rfl, rfl⟩
      go_wp2_with fail
      refine HA3.out.mono ?_
      rintro e w1 ⟨rfl, rfl⟩
      go_wp2_with fail
      refine HL.out.mono ?_
      rintro e w1 ⟨rfl, rfl⟩
      go_wp2_with fail
      go_returns
      exact ⟨rfl, HB.out⟩
     ·rw [decide_eq_false h4] at HL
      obtain rfl : v = true := hv ▸ decide_eq_true (by omega)
      clear hv h1 h2 h3 h4
      go_enter Try.func11, Try.ntmps11
      go_upto_region 1 with (fail)
      rw [← hwa]
      clear hwa
      go_wp2_with fail
      refine HA1.out.mono ?_
      rintro e w1 ⟨rfl, rfl⟩
      go_wp2_with fail
      refine HA2.out.mono ?_
      rintro e w1 ⟨rfl, rfl⟩
      go_wp2_with fail
      refine HA3.out.mono ?_
      rintro e w1 ⟨rfl, rfl⟩
      go_wp2_with fail
      refine HL.out.mono ?_
      rintro e w1 ⟨rfl, rfl⟩
      go_wp2_with fail
      go_returns
      exact ⟨rfl, HB.out⟩
    ·have HA3 := Lib.hid (among_f h3 wa)
     obtain rfl : v = false := hv ▸ decide_eq_false (by omega)
     clear hv h1 h2 h3
     go_enter Try.func11, Try.ntmps11
     go_upto_region 1 with (fail)
     rw [← hwa]
     clear hwa
     go_wp2_with fail
     refine HA1.out.mono ?_
     rintro e w1 ⟨rfl, rfl⟩
     go_wp2_with fail
     refine HA2.out.mono ?_
     rintro e w1 ⟨rfl, rfl⟩
     go_wp2_with fail
     refine HA3.out.mono ?_
     rintro e w1 ⟨rfl, rfl⟩
     go_wp2_with fail
     go_returns
     exact ⟨rfl, HB.out⟩
   ·have e1 : (kd == 1) = false := by simpa using k1
    by_cases k2 : kd = 2
    ·subst k2
     by_cases h3 : 0 ≤ sq ∧ sq ≤ 1099511627776
     ·have HA3 := Lib.hid (among_t h3 wa)
      by_cases h4 : pay.size = 0
      ·obtain rfl := empty_of h4
       obtain rfl : v = true := hv ▸ decide_eq_true (by omega)
       clear hv h1 h2 h3 h4
       go_enter Try.func11, Try.ntmps11
       go_upto_region 1 with (fail)
       rw [← hwa]
       clear hwa
       go_wp2_with fail
       refine HA1.out.mono ?_
       rintro e w1 ⟨rfl, rfl⟩
       go_wp2_with fail
       refine HA2.out.mono ?_
       rintro e w1 ⟨rfl, rfl⟩
       go_wp2_with fail
       refine HA3.out.mono ?_
       rintro e w1 ⟨rfl, rfl⟩
       go_wp2_with fail
       go_returns
       exact ⟨rfl, HB.out⟩
      ·have hne : pay.toList.isEmpty = false := by
        rw [ByteArray.toList_eq, List.isEmpty_eq_false_iff]
        intro e
        exact h4 (by rw [← toList_size, e]; rfl)
       obtain rfl : v = false := hv ▸ decide_eq_false (by omega)
       clear hv h1 h2 h3 h4
       go_enter Try.func11, Try.ntmps11
       go_upto_region 1 with (fail)
       rw [← hwa]
       clear hwa
       go_wp2_with fail
       refine HA1.out.mono ?_
       rintro e w1 ⟨rfl, rfl⟩
       go_wp2_with fail
       refine HA2.out.mono ?_
       rintro e w1 ⟨rfl, rfl⟩
       go_wp2_with fail
       refine HA3.out.mono ?_
       rintro e w1 ⟨rfl, rfl⟩
       go_wp2_with fail
       go_returns
       exact ⟨rfl, HB.out⟩
     ·have HA3 := Lib.hid (among_f h3 wa)
      obtain rfl : v = false := hv ▸ decide_eq_false (by omega)
      clear hv h1 h2 h3
      go_enter Try.func11, Try.ntmps11
      go_upto_region 1 with (fail)
      rw [← hwa]
      clear hwa
      go_wp2_with fail
      refine HA1.out.mono ?_
      rintro e w1 ⟨rfl, rfl⟩
      go_wp2_with fail
      refine HA2.out.mono ?_
      rintro e w1 ⟨rfl, rfl⟩
      go_wp2_with fail
      refine HA3.out.mono ?_
      rintro e w1 ⟨rfl, rfl⟩
      go_wp2_with fail
      go_returns
      exact ⟨rfl, HB.out⟩
    ·have e2 : (kd == 2) = false := by simpa using k2
     obtain rfl : v = false := hv ▸ decide_eq_false (by omega)
     clear hv h1 h2 k1 k2
     go_enter Try.func11, Try.ntmps11
     go_upto_region 1 with (fail)
     rw [← hwa]
     clear hwa
     go_wp2_with fail
     refine HA1.out.mono ?_
     rintro e w1 ⟨rfl, rfl⟩
     go_wp2_with fail
     refine HA2.out.mono ?_
     rintro e w1 ⟨rfl, rfl⟩
     go_wp2_with fail
     go_returns
     exact ⟨rfl, HB.out⟩
  ·have HA2 := Lib.hid (among_f h2 wa)
   obtain rfl : v = false := hv ▸ decide_eq_false (by omega)
   clear hv h1 h2
   go_enter Try.func11, Try.ntmps11
   go_upto_region 1 with (fail)
   rw [← hwa]
   clear hwa
   go_wp2_with fail
   refine HA1.out.mono ?_
   rintro e w1 ⟨rfl, rfl⟩
   go_wp2_with fail
   refine HA2.out.mono ?_
   rintro e w1 ⟨rfl, rfl⟩
   go_wp2_with fail
   go_returns
   exact ⟨rfl, HB.out⟩
 ·have HA1 := Lib.hid (among_f h1 wa)
  obtain rfl : v = false := hv ▸ decide_eq_false (by omega)
  clear hv h1
  go_enter Try.func11, Try.ntmps11
  go_upto_region 1 with (fail)
  rw [← hwa]
  clear hwa
  go_wp2_with fail
  refine HA1.out.mono ?_
  rintro e w1 ⟨rfl, rfl⟩
  go_wp2_with fail
  go_returns
  exact ⟨rfl, HB.out⟩
/-- Is one of them too long? -/
def anyLong (ss : List ByteArray) : Bool := ss.any fun s => decide (4032 < s.size)
set_option maxHeartbeats 1000000 in
theorem indexLong_any (SA : Option Addr) (ss : List ByteArray) (c : Nat) (w : World) (h : Strs w SA ss) (hl : ss.length ≤ 1000000) :
  Calls Try.prog 67 #[.slice SA ss.length c, .func (.func 38) #[] #[]] w fun e w' => (∃ i : Int, e = .returned (.int .i64 i) ∧ anyLong ss = decide (0 ≤ i)) ∧ w' = w := by
 have HH := Lib.hid h
 obtain ⟨n, hn⟩ : ∃ n, ss.length = n := ⟨_, rfl⟩
 have HN := Lib.hid hn
 rw [hn] at hl ⊢
 clear h hn
 go_enter Try.func67, Try.ntmps67
 go_wp2_with fail
 go_loopw [5, 8] (fun _ i wr => ∃ ii : Nat, ii ≤ n ∧ i = .int .i64 (ii : Int) ∧ Hid (anyLong (ss.take ii) = false) ∧ wr = w) (fun _ i _ => n - (intOf i).toNat)
 case atStart => exact ⟨0, Nat.zero_le _, rfl, Lib.hid rfl, rfl⟩
 case round =>
  obtain ⟨ii, hii, rfl, hd, rfl⟩ := hrel
  by_cases hlt : ii < n
  ·have hil : ii < ss.length := by have := HN.out; omega
   obtain ⟨s, hs⟩ : ∃ s, ss[ii] = s := ⟨_, rfl⟩
   obtain ⟨ad, rfl, hc, hz⟩ := HH.out ii hil
   rw [hs] at hc hz
   have HC := Lib.hid (long_any s hz wr)
   have htk : anyLong (ss.take (ii + 1)) = (anyLong (ss.take ii) || decide (4032 < s.size)) := by
    rw [List.take_succ_eq_append_getElem hil, hs]
    unfold anyLong
    rw [List.any_append]
    simp
   by_cases hlg : 4032 < s.size
   ·rw [decide_eq_true hlg] at HC htk
    have HE : Hid (anyLong ss = decide (0 ≤ (ii : Int))) := Lib.hid (by
     rw [decide_eq_true (by omega : (0 : Int) ≤ (ii : Int))]
     unfold anyLong at htk ⊢
     rw [Bool.or_true, List.any_eq_true] at htk
     obtain ⟨x, hx, hx2⟩ := htk
     exact List.any_eq_true.2 ⟨x, List.mem_of_mem_take hx, hx2⟩)
    clear hs hil htk hlg
    go_wp2_with fail
    refine HC.out.mono ?_
    rintro e w2 ⟨rfl, rfl⟩
    go_wp2_with fail
    go_returns
    exact ⟨⟨_, rfl, HE.out⟩, rfl⟩
   ·rw [decide_eq_false hlg] at HC htk
    have HE : Hid (anyLong (ss.take (ii + 1)) = false) := Lib.hid (by rw [htk, hd.out]; rfl)
    clear hs hil htk hlg
    go_wp2_with fail
    refine HC.out.mono ?_
    rintro e w2 ⟨rfl, rfl⟩
    go_wp2_with fail
    go_roundw
    case rel => exact ⟨ii + 1, by omega, by go_num, HE, by trivial⟩
    case measure => simp [intOf]; omega
  ·have HE : Hid (anyLong ss = false) := Lib.hid (by
    have h1 := hd.out
    rw [List.take_of_length_le (by have := HN.out; omega)] at h1
    exact h1)
   clear hd
   go_wp2_with fail
   go_returns
   exact ⟨⟨-1, rfl, HE.out⟩, rfl⟩
theorem containsLong_any (SA : Option Addr) (ss : List ByteArray) (c : Nat) (w : World) (h : Strs w SA ss) (hl : ss.length ≤ 1000000) :
  Calls Try.prog 47 #[.slice SA ss.length c, .func (.func 38) #[] #[]] w fun e w' => e = .returned (.bool (anyLong ss)) ∧ w' = w := by
 have HC := Lib.hid (indexLong_any SA ss c w h hl)
 obtain ⟨n, hn⟩ : ∃ n, ss.length = n := ⟨_, rfl⟩
 rw [hn] at HC ⊢
 clear h hn hl
 go_enter Try.func47, Try.ntmps47
 go_wp2_with fail
 refine HC.out.mono ?_
 rintro e w2 ⟨⟨i, rfl, hi⟩, rfl⟩
 have HI := Lib.hid hi
 clear hi
 go_wp2_with fail
 go_returns
 exact ⟨ret_val (by rw [HI.out]; rfl), rfl⟩
end Go.Proofs.Ytccdpgbmkiapdaa.Ses
