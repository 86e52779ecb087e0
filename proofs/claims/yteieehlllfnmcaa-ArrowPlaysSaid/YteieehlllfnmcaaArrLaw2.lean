/-
  Layer 16's laws: leads, the document's example. Conditions: none.
-/
import Derived.Test.YteieehlllfnmcaaArrLaw
namespace Go.Proofs.Yteieehlllfnmcaa.Arr
set_option maxRecDepth 100000
open Go.RowKit Go.Deep Go.Proofs.Yteieehlllfnmcaa.Mem Go.Proofs.Yteieehlllfnmcaa.Spn

theorem drew_two {w w1 w2 : World} (h : ∃ q, w1 = w.drewN q) (k : ∃ q, w2 = w1.drewN q) : ∃ q, w2 = w.drewN q := by
  obtain ⟨q, rfl⟩ := h
  obtain ⟨r, rfl⟩ := k
  exact ⟨q + r, by rw [World.drewN_drewN]⟩
section
variable {B vc n : Nat} {w : World} {T : Nat → Nat}
theorem leads_any {g : Nat} (h : Rw B w (some ⟨g, 0, none⟩) vc n T) (hn : n ≤ 16) {o m : Nat} (h1 : 1 ≤ o) (h2 : o ≤ n) (h3 : 1 ≤ m) (h4 : m ≤ n) (hT : ∀ v, 1 ≤ v → v ≤ n → T v = nx v o) :
    Calls Try.prog 19 #[.slice (some ⟨g, 0, none⟩) (n + 1) vc, .int .i64 (m : Int), .int .i64 (o : Int)] w fun e w' => e = .returned (.bool true) ∧ ∃ q, w' = w.drewN q := by
  have HR := Lib.hid h
  have HT := Lib.hid hT
  have HD : Hid (dst m o ≤ 7) := Lib.hid (dst7 h3 (by omega) h1 (by omega))
  obtain ⟨l, hl⟩ : ∃ l, n + 1 = l := ⟨_, rfl⟩
  rw [hl]
  clear h hT
  go_enter Try.func19, Try.ntmps19
  go_wp2_with fail
  go_loopw [7, 8] (fun p s wr => ∃ (v k : Nat), p = .int .i64 (v : Int) ∧ s = .int .i64 (k : Int) ∧ 1 ≤ v ∧ v ≤ n ∧ Hid (k + dst v o = dst m o) ∧ Hid (∃ q, wr = w.drewN q)) (fun p _ _ => dst (intOf p).toNat o)
  case atStart => exact ⟨m, 0, rfl, rfl, h3, h4, Lib.hid (Nat.zero_add _), Lib.hid ⟨0, rfl⟩⟩
  case round =>
    obtain ⟨v, k, rfl, rfl, hv1, hv2, HK, HQ⟩ := hrel
    have hk40 : decide ((k : Int) < 40) = true := decide_eq_true (by have := HK.out; have := HD.out; omega)
    have hkk : k ≤ 7 := by have := HK.out; have := HD.out; omega
    have hvl : v < l := by omega
    have HRQ : Rw B wr (some ⟨g, 0, none⟩) vc n T := by
      obtain ⟨q, rfl⟩ := HQ.out
      exact HR.out.later (below_drew w q)
    have HH := Lib.hid (tHome HRQ hv1 hv2)
    have hc := HRQ.elem hv1 hv2
    have HC := Lib.hid hc
    have htv := HT.out v hv1 hv2
    rw [htv] at HH HC
    obtain ⟨x1, x2, x3, x4⟩ := nx_in (o := o) hn hv1 hv2 h1 h2
    obtain ⟨t, ht⟩ : ∃ t, nx v o = t := ⟨_, rfl⟩
    rw [ht] at HH HC x1 x2 x3 x4
    by_cases hvo : v = o
    · subst hvo
      obtain rfl : t = v := x3.2 rfl
      rw [decide_eq_true rfl] at HH
      clear hc htv HRQ x3 x4 ht
      go_wp2_with fail
      refine HH.out.mono ?_
      rintro e w1 ⟨rfl, hw1⟩
      have HW1 := Lib.hid hw1
      clear hw1
      go_wp2_with fail
      go_returns
      exact ⟨rfl, drew_two HQ.out HW1.out⟩
    · have htv2 : t ≠ v := fun e => hvo (x3.1 e)
      rw [decide_eq_false htv2] at HH
      have HS : Hid (k + 1 + dst t o = dst m o) := Lib.hid (by have := (x4 hvo).2; have := HK.out; omega)
      have HS2 : Hid (dst t o < dst v o) := Lib.hid (by have := (x4 hvo).2; omega)
      have htl : t < l := by omega
      have e1 : decide ((t : Int) < 1) = false := decide_eq_false (by omega)
      have e2 : decide ((t : Int) ≥ (l : Int)) = false := decide_eq_false (by omega)
      clear hc htv HRQ x3 x4 ht htv2
      go_wp2_with fail
      refine HH.out.mono ?_
      rintro e w1 ⟨rfl, hw1⟩
      have HW1 := Lib.hid hw1
      have c2 : w1.cell? ⟨g, v * 3 + 2, none⟩ = some (.int .i64 (t : Int)) := by
        obtain ⟨r, rfl⟩ := hw1
        exact (HC.out.later (below_drew _ r)).cell (j := 2) rfl
      clear hw1
      go_wp2_with fail
      go_roundw
      case rel => exact ⟨t, k + 1, rfl, by go_num, x1, x2, HS, Lib.hid (drew_two HQ.out HW1.out)⟩
      case measure => simp [intOf]; exact HS2.out
end
theorem awake_any (w : World) : Calls Try.prog 7 #[] w fun e w' => e = .returned (.bool true) ∧ Below w.heap.size w w' := by
  have HG := Lib.hid (grow_any 3 2 (by decide) (by decide) (by decide) w)
  have q3 : nx 3 2 = 1 := by decide
  have q1 : nx 1 2 = 2 := by decide
  have q2 : nx 2 2 = 2 := by decide
  go_enter Try.func7, Try.ntmps7
  go_wp2_with fail
  refine HG.out.mono ?_
  rintro e w1 ⟨g, vc, rfl, hr, hb⟩
  obtain ⟨g', e, hg1, hg2⟩ := hr.low
  obtain rfl : g = g' := by simpa using e
  obtain ⟨T, hT⟩ : ∃ T, (fun v => nx v 2) = T := ⟨_, rfl⟩
  have t1 : T 1 = 2 := by rw [← hT]; exact q1
  have t2 : T 2 = 2 := by rw [← hT]; exact q2
  have t3 : T 3 = 1 := by rw [← hT]; exact q3
  rw [hT] at hr
  have HB1 := Lib.hid hb
  have HW := Lib.hid (tWant (v := 3) hr (by decide) (by decide))
  rw [t3] at HW
  have HGB := Lib.hid hg1
  clear hb hr e hT q1 q2 q3 HG hg1 hg2
  go_wp2_with fail
  refine (show Calls Try.prog 17 #[.pointer (some ⟨g, 9, none⟩)] w1 _ from HW.out).mono ?_
  rintro e w2 ⟨rfl, hr, ho⟩
  have HB2 := Lib.hid (HB1.out.trans (ho.below HB1.out.size fun k e => by rw [e]; exact HGB.out))
  have HF := Lib.hid (tFind (v := 1) (u := 3) hr (by decide) (by decide) (by decide) (by decide) (by decide) (by decide))
  rw [upd_ne _ _ (by decide), t1] at HF
  clear hr ho HW HB1
  go_wp2_with fail
  refine (show Calls Try.prog 18 #[.pointer (some ⟨g, 3, none⟩), .int .i64 3] w2 _ from HF.out).mono ?_
  rintro e w3 ⟨rfl, hr, ho⟩
  have HB3 := Lib.hid (HB2.out.trans (ho.below HB2.out.size fun k e => by rw [e]; exact HGB.out))
  have HF2 := Lib.hid (tFind (v := 2) (u := 1) hr (by decide) (by decide) (by decide) (by decide) (by decide) (by decide))
  rw [upd_ne _ _ (by decide), upd_ne _ _ (by decide), t2] at HF2
  clear hr ho HF HB2
  go_wp2_with fail
  refine (show Calls Try.prog 18 #[.pointer (some ⟨g, 6, none⟩), .int .i64 1] w3 _ from HF2.out).mono ?_
  rintro e w4 ⟨rfl, hr, ho⟩
  have HB4 := Lib.hid (HB3.out.trans (ho.below HB3.out.size fun k e => by rw [e]; exact HGB.out))
  have HH := Lib.hid (tHome (v := 3) hr (by decide) (by decide))
  rw [upd_ne _ _ (by decide), upd_ne _ _ (by decide), upd_self] at HH
  have x1 := hr.elem (v := 1) (by decide) (by decide)
  rw [upd_ne _ _ (by decide), upd_self] at x1
  have x2 := hr.elem (v := 2) (by decide) (by decide)
  rw [upd_self] at x2
  have c1 : w4.cell? ⟨g, 5, none⟩ = some (.int .i64 3) := x1.cell (j := 2) rfl
  have c2 : w4.cell? ⟨g, 8, none⟩ = some (.int .i64 1) := x2.cell (j := 2) rfl
  clear hr ho HF2 HB3 x1 x2
  go_wp2_with fail
  refine (show Calls Try.prog 20 #[.pointer (some ⟨g, 9, none⟩)] w4 _ from HH.out).mono ?_
  rintro e w5 ⟨rfl, m, rfl⟩
  go_wp2_with fail
  go_returns
  exact ⟨rfl, below_drewN HB4.out m⟩
end Go.Proofs.Yteieehlllfnmcaa.Arr
