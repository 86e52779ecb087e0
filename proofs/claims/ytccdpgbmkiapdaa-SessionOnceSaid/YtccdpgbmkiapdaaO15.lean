/-
  Layer 14: room, begin, a payload's tick; an element of a row of the call's own.
  Conditions: none.
-/
import Derived.Test.YtccdpgbmkiapdaaO13
import Derived.Test.YtccdpgbmkiapdaaO14
import Derived.BigQuiet
namespace Go.Proofs.Ytccdpgbmkiapdaa.Ses
set_option maxRecDepth 100000
open Go.RowKit Go.Deep Go.Proofs.Ytccdpgbmkiapdaa.Mem Go.Proofs.Ytccdpgbmkiapdaa.Win
theorem el_hd : Elem 116 144 (.agg #[.int .i64 0, .string ⟨#[]⟩, .int .i64 0, .int .i64 0]) 4 40 := ⟨Try.underlying116, by kernel_rfl, rfl, by decide, by decide⟩
theorem el_ot : Elem 48 89 (.agg #[.int .i64 0, .int .i64 0, .int .i64 0, .int .i64 0, .int .i64 0, .string ⟨#[]⟩]) 6 56 := ⟨Try.underlying48, by kernel_rfl, rfl, by decide, by decide⟩
section
variable {B pb o ac N : Nat} {w : World} {p : Pm} {A : Option Addr}
theorem room_any (h : PAt B w pb o p A ac) (hp : Pok N p) (hN : N ≤ 1000000000000) (m : Nat) (hm : m ≤ 1000000) :
  Calls Try.prog 48 #[.pointer (some ⟨pb, o, none⟩), .int .i64 (m : Int)] w fun e w' => e = .returned (.bool (roomP p m)) ∧ Below w.heap.size w w' := by
 have c3 : w.cell? ⟨pb, o + 3, none⟩ = _ := h.cel.cell (j := 1) rfl
 have c4 : w.cell? ⟨pb, o + 4, none⟩ = _ := h.cel.cell (j := 2) rfl
 have hl := hp.len
 have hl0 := hp.l0
 have hl1 := hp.l1
 obtain ⟨v, hv⟩ : ∃ v, roomP p m = v := ⟨_, rfl⟩
 rw [hv]
 unfold roomP at hv
 obtain ⟨n, hn⟩ : ∃ n, p.held.length = n := ⟨_, rfl⟩
 have hwr0 : IntKind.i64.wrap ((n : Int) + (m : Int)) = (n : Int) + (m : Int) := by rw [IntKind.wrap_i64]; omega
 by_cases hnm : n + m ≤ 32
 ·have e0 : decide ((n : Int) + (m : Int) > 32) = false := decide_eq_false (by omega)
  by_cases hn0 : n = 0
  ·subst hn0
   obtain rfl : v = true := by
    rw [← hv, List.eq_nil_of_length_eq_zero hn]
    exact decide_eq_true ⟨by simpa using hnm, fun h e => by simp at e⟩
   rw [hn] at c4
   clear h hp hv hn
   go_enter Try.func48, Try.ntmps48
   go_wp2_with fail
   go_quiet (fail)
   go_wp2_with fail
   go_returns
   exact ⟨rfl, below_drewN (Below.refl _ _) _⟩
  ·have hk : 0 < p.held.length := by omega
   obtain ⟨g, rfl, hc⟩ := OwnG.elem fit_hd h.row hk
   rw [Nat.zero_mul] at hc
   have x0 : w.cell? ⟨g, 0, none⟩ = _ := hc.cell (j := 0) rfl
   have hx := hp.held p.held[0] (List.getElem_mem hk)
   obtain ⟨q, hq⟩ : ∃ q, p.held[0].seq = q := ⟨_, rfl⟩
   have hq0 := hx.s0
   have hq1 := hx.s1
   obtain ⟨ls, hls⟩ : ∃ ls, p.last = ls := ⟨_, rfl⟩
   have hve : v = decide (ls + (m : Int) < q + 64) := by
    rw [← hv]
    refine decide_eq_decide.2 ⟨fun e => ?_, fun e => ⟨by omega, fun h e2 => ?_⟩⟩
    ·have := e.2 _ (List.getElem?_eq_getElem hk)
     rw [hq, hls] at this
     exact this
    ·rw [List.getElem?_eq_getElem hk] at e2
     rw [← Option.some.inj e2, hq, hls]
     exact e
   rw [hn] at c4
   rw [hls] at c3 hl0 hl1
   rw [hq] at x0 hq0 hq1
   have hwr1 : IntKind.i64.wrap (ls + (m : Int)) = ls + (m : Int) := by rw [IntKind.wrap_i64]; omega
   have hwr2 : IntKind.i64.wrap (q + 64) = q + 64 := by rw [IntKind.wrap_i64]; omega
   have hn1 : ((n : Int) == 0) = false := by simp; omega
   have hkn : 0 < n := by omega
   clear h hp hv hn hx hc hk hq hls
   go_enter Try.func48, Try.ntmps48
   go_wp2_with fail
   go_quiet (fail)
   go_wp2_with fail
   go_returns
   exact ⟨ret_val (by rw [hve]; rfl), below_drewN (Below.refl _ _) _⟩
 ·have e0 : decide ((n : Int) + (m : Int) > 32) = true := decide_eq_true (by omega)
  obtain rfl : v = false := by
   rw [← hv, hn]
   exact decide_eq_false fun e => hnm e.1
  rw [hn] at c4
  clear h hp hv hn
  go_enter Try.func48, Try.ntmps48
  go_wp2_with fail
  go_returns
  exact ⟨rfl, Below.refl _ _⟩
end
/-- A held payload's delay begins anew. -/
theorem begin_any {w : World} {g o : Nat} {h : Hd} (hc : CellsO w g (o) h.vals) :
  Calls Try.prog 68 #[.pointer (some ⟨g, o, none⟩)] w fun e w' => e = .returned (.tuple #[]) ∧ w' = (w.setCell ⟨g, o + 2, none⟩ (.int .i64 4)).setCell ⟨g, o + 3, none⟩ (.int .i64 4) := by
 have c2 := hc.cell (j := 2) rfl
 have c3 := hc.cell (j := 3) rfl
 have f2 := hc.frozen (j := 2) (by simp [Hd.vals])
 have f3 := hc.frozen (j := 3) (by simp [Hd.vals])
 clear hc
 go_enter Try.func68, Try.ntmps68
 go_wp2_with fail
 go_returns
 exact ⟨rfl, rfl⟩
theorem heldTick_any {w : World} {g i : Nat} {h : Hd} {N : Int} (hc : CellsO w g (i * 4) h.vals) (hk : Hok N h) :
  Calls Try.prog 76 #[.pointer (some ⟨g, i * 4, none⟩)] w fun e w' => e = .returned (.bool (tickH h).1) ∧ Below w.heap.size w w ∧
   w' = (if (tickH h).1 then (((w.setCell ⟨g, i * 4 + 3, none⟩ (.int .i64 (h.left - 1))).setCell ⟨g, i * 4 + 2, none⟩ (.int .i64 (tickH h).2.delay)).setCell ⟨g, i * 4 + 3, none⟩ (.int .i64 (tickH h).2.left)) else w.setCell ⟨g, i * 4 + 3, none⟩ (.int .i64 (tickH h).2.left)) := by
 have c2 := hc.cell (j := 2) rfl
 have c3 := hc.cell (j := 3) rfl
 have f2 := hc.frozen (j := 2) (by simp [Hd.vals])
 have f3 := hc.frozen (j := 3) (by simp [Hd.vals])
 have h1 := hk.l0
 have h2 := hk.l1
 have h3 := hk.d0
 have h4 := hk.d1
 obtain ⟨lf, hlf⟩ : ∃ x, h.left = x := ⟨_, rfl⟩
 obtain ⟨dl, hdl⟩ : ∃ x, h.delay = x := ⟨_, rfl⟩
 have hwr : IntKind.i64.wrap (lf - 1) = lf - 1 := by rw [IntKind.wrap_i64]; omega
 have hwr2 : IntKind.i64.wrap (2 * dl) = 2 * dl := by rw [IntKind.wrap_i64]; omega
 by_cases hgt : 1 < lf
 ·have e0 : tickH h = (false, ⟨h.seq, h.pay, h.delay, lf - 1⟩) := by unfold tickH; rw [hlf, if_pos hgt]
  have e1 : decide (lf - 1 > 0) = true := decide_eq_true (by omega)
  rw [e0]
  rw [hlf] at c3
  clear hc hk e0 hlf hdl
  go_enter Try.func76, Try.ntmps76
  go_wp2_with fail
  go_returns
  exact ⟨rfl, Below.refl _ _, rfl⟩
 ·obtain ⟨m, hm⟩ : ∃ m, min (2 * dl) 16 = m := ⟨_, rfl⟩
  have e0 : tickH h = (true, ⟨h.seq, h.pay, m, m⟩) := by unfold tickH; rw [hlf, if_neg hgt, hdl, hm]
  have e1 : decide (lf - 1 > 0) = false := decide_eq_false (by omega)
  rw [e0, hlf]
  rw [hlf] at c3
  rw [hdl] at c2
  clear hc hk e0 hlf hdl
  by_cases hmm : 2 * dl ≤ 16
  ·obtain rfl : m = 2 * dl := by omega
   clear hm
   go_enter Try.func76, Try.ntmps76
   go_wp2_with fail
   go_returns
   exact ⟨rfl, Below.refl _ _, rfl⟩
  ·obtain rfl : m = 16 := by omega
   clear hm
   go_enter Try.func76, Try.ntmps76
   go_wp2_with fail
   go_returns
   exact ⟨rfl, Below.refl _ _, rfl⟩
end Go.Proofs.Ytccdpgbmkiapdaa.Ses
