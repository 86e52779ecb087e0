/-
  Layer 14: room, begin, a payload's tick; an element of a row of the call's own.
  strings.Clone: the same text, in memory of its own.
  Conditions: none.
-/
import Derived.Test.YtccdpgbmkiapdaaL12
import Derived.Test.YtccdpgbmkiapdaaL13
import Derived.BigQuiet
import Derived.Test.YtccdpgbmkiapdaaL1
import Derived.Test.YtccdpgbmkiapdaaRows
import Derived.OpenShut
import Derived.WalkLawsBesides
import Derived.WalkSpells
import Derived.Handy
import Derived.Lib.Hide
import Derived.Lib.UnsafeStr
import Derived.Lib.BufferWrite
namespace Go.Proofs.Ytccdpgbmkiapdaa.Ses
set_option maxRecDepth 100000
open Go.RowKit Go.Deep Go.Proofs.Ytccdpgbmkiapdaa.Mem Go.Proofs.Ytccdpgbmkiapdaa.Win
theorem el_hd : Elem 116 144 (.agg #[.int .i64 0, .string ⟨#[]⟩, .int .i64 0, .int .i64 0]) 4 40 := ⟨Try.underlying116, by kernel_rfl, rfl, by decide, by decide⟩
theorem el_ot : Elem 48 89 (.agg #[.int .i64 0, .int .i64 0, .int .i64 0, .int .i64 0, .int .i64 0, .string ⟨#[]⟩]) 6 56 := ⟨Try.underlying48, by kernel_rfl, rfl, by decide, by decide⟩
section
variable {B pb o ac N : Nat} {w : World} {p : Pm} {A : Option Addr}
theorem room_any (h : PAt B w pb o p A ac) (hp : Pok N p) (hN : N ≤ 1000000000000) (m : Nat) (hm : m ≤ 1000000) :
  Calls Try.prog 48 #[.pointer (some ⟨pb, o, none⟩), .int .i64 (m : Int)] w fun e w' => e = .returned (.bool (roomP p m)) ∧ Below w.heap.size w w' := by
 have c3 : w.cell? ⟨pb, o + 3, none⟩ = _ := h.cel.cell (j := 1) rfl
 have c4 : w.cell? ⟨pb, o + 4, none⟩ = _ := h.cel.cell (j := 2) rfl
 have hl := hp.len
 have hl0 := hp.l0
 have hl1 := hp.l1
 obtain ⟨v, hv⟩ : ∃ v, roomP p m = v := ⟨_, rfl⟩
 rw [hv]
 unfold roomP at hv
 obtain ⟨n, hn⟩ : ∃ n, p.held.length = n := ⟨_, rfl⟩
 have hwr0 : IntKind.i64.wrap ((n : Int) + (m : Int)) = (n : Int) + (m : Int) := by rw [IntKind.wrap_i64]; omega
 by_cases hnm : n + m ≤ 32
 ·have e0 : decide ((n : Int) + (m : Int) > 32) = false := decide_eq_false (by omega)
  by_cases hn0 : n = 0
  ·subst hn0
   obtain rfl : v = true := by
    rw [← hv, List.eq_nil_of_length_eq_zero hn]
    exact decide_eq_true ⟨by simpa using hnm, fun h e => by simp at e⟩
   rw [hn] at c4
   clear h hp hv hn
   go_enter Try.func48, Try.ntmps48
   go_wp2_with fail
   go_quiet (fail)
   go_wp2_with fail
   go_returns
   exact ⟨rfl, below_drewN (Below.refl _ _) _⟩
  ·have hk : 0 < p.held.length := by omega
   obtain ⟨g, rfl, hc⟩ := OwnG.elem fit_hd h.row hk
   rw [Nat.zero_mul] at hc
   have x0 : w.cell? ⟨g, 0, none⟩ = _ := hc.cell (j := 0) rfl
   have hx := hp.held p.held[0] (List.getElem_mem hk)
   obtain ⟨q, hq⟩ : ∃ q, p.held[0].seq = q := ⟨_, rfl⟩
   have hq0 := hx.s0
   have hq1 := hx.s1
   obtain ⟨ls, hls⟩ : ∃ ls, p.last = ls := ⟨_, rfl⟩
   have hve : v = decide (ls + (m : Int) < q + 64) := by
    rw [← hv]
    refine decide_eq_decide.2 ⟨fun e => ?_, fun e => ⟨by omega, fun h e2 => ?_⟩⟩
    ·have := e.2 _ (List.getElem?_eq_getElem hk)
     rw [hq, hls] at this
     exact this
    ·rw [List.getElem?_eq_getElem hk] at e2
     rw [← Option.some.inj e2, hq, hls]
     exact e
   rw [hn] at c4
   rw [hls] at c3 hl0 hl1
   rw [hq] at x0 hq0 hq1
   have hwr1 : IntKind.i64.wrap (ls + (m : Int)) = ls + (m : Int) := by rw [IntKind.wrap_i64]; omega
   have hwr2 : IntKind.i64.wrap (q + 64) = q + 64 := by rw [IntKind.wrap_i64]; omega
   have hn1 : ((n : Int) == 0) = false := by simp; omega
   have hkn : 0 < n := by omega
   clear h hp hv hn hx hc hk hq hls
   go_enter Try.func48, Try.ntmps48
   go_wp2_with fail
   go_quiet (fail)
   go_wp2_with fail
   go_returns
   exact ⟨ret_val (by rw [hve]; rfl), below_drewN (Below.refl _ _) _⟩
 ·have e0 : decide ((n : Int) + (m : Int) > 32) = true := decide_eq_true (by omega)
  obtain rfl : v = false := by
   rw [← hv, hn]
   exact decide_eq_false fun e => hnm e.1
  rw [hn] at c4
  clear h hp hv hn
  go_enter Try.func48, Try.ntmps48
  go_wp2_with fail
  go_returns
  exact ⟨rfl, Below.refl _ _⟩
end
/-- A held payload's delay begins anew. -/
theorem begin_any {w : World} {g o : Nat} {h : Hd} (hc : CellsO w g (o) h.vals) :
  Calls Try.prog 68 #[.pointer (some ⟨g, o, none⟩)] w fun e w' => e = .returned (.tuple #[]) ∧ w' = (w.setCell ⟨g, o + 2, none⟩ (.int .i64 4)).setCell ⟨g, o + 3, none⟩ (.int .i64 4) := by
 have c2 := hc.cell (j := 2) rfl
 have c3 := hc.cell (j := 3) rfl
 have f2 := hc.frozen (j := 2) (by simp [Hd.vals])
 have f3 := hc.frozen (j := 3) (by simp [Hd.vals])
 clear hc
 go_enter Try.func68, Try.ntmps68
 go_wp2_with fail
 go_returns
 exact ⟨rfl, rfl⟩
theorem heldTick_any {w : World} {g i : Nat} {h : Hd} {N : Int} (hc : CellsO w g (i * 4) h.vals) (hk : Hok N h) :
  Calls Try.prog 76 #[.pointer (some ⟨g, i * 4, none⟩)] w fun e w' => e = .returned (.bool (tickH h).1) ∧ Below w.heap.size w w ∧
   w' = (if (tickH h).1 then (((w.setCell ⟨g, i * 4 + 3, none⟩ (.int .i64 (h.left - 1))).setCell ⟨g, i * 4 + 2, none⟩ (.int .i64 (tickH h).2.delay)).setCell ⟨g, i * 4 + 3, none⟩ (.int .i64 (tickH h).2.left)) else w.setCell ⟨g, i * 4 + 3, none⟩ (.int .i64 (tickH h).2.left)) := by
 have c2 := hc.cell (j := 2) rfl
 have c3 := hc.cell (j := 3) rfl
 have f2 := hc.frozen (j := 2) (by simp [Hd.vals])
 have f3 := hc.frozen (j := 3) (by simp [Hd.vals])
 have h1 := hk.l0
 have h2 := hk.l1
 have h3 := hk.d0
 have h4 := hk.d1
 obtain ⟨lf, hlf⟩ : ∃ x, h.left = x := ⟨_, rfl⟩
 obtain ⟨dl, hdl⟩ : ∃ x, h.delay = x := ⟨_, rfl⟩
 have hwr : IntKind.i64.wrap (lf - 1) = lf - 1 := by rw [IntKind.wrap_i64]; omega
 have hwr2 : IntKind.i64.wrap (2 * dl) = 2 * dl := by rw [IntKind.wrap_i64]; omega
 by_cases hgt : 1 < lf
 ·have e0 : tickH h = (false, ⟨h.seq, h.pay, h.delay, lf - 1⟩) := by unfold tickH; rw [hlf, if_pos hgt]
  have e1 : decide (lf - 1 > 0) = true := decide_eq_true (by omega)
  rw [e0]
  rw [hlf] at c3
  clear hc hk e0 hlf hdl
  go_enter Try.func76, Try.ntmps76
  go_wp2_with fail
  go_returns
  exact ⟨rfl, Below.refl _ _, rfl⟩
 ·obtain ⟨m, hm⟩ : ∃ m, min (2 * dl) 16 = m := ⟨_, rfl⟩
  have e0 : tickH h = (true, ⟨h.seq, h.pay, m, m⟩) := by unfold tickH; rw [hlf, if_neg hgt, hdl, hm]
  have e1 : decide (lf - 1 > 0) = false := decide_eq_false (by omega)
  rw [e0, hlf]
  rw [hlf] at c3
  rw [hdl] at c2
  clear hc hk e0 hlf hdl
  by_cases hmm : 2 * dl ≤ 16
  ·obtain rfl : m = 2 * dl := by omega
   clear hm
   go_enter Try.func76, Try.ntmps76
   go_wp2_with fail
   go_returns
   exact ⟨rfl, Below.refl _ _, rfl⟩
  ·obtain rfl : m = 16 := by omega
   clear hm
   go_enter Try.func76, Try.ntmps76
   go_wp2_with fail
   go_returns
   exact ⟨rfl, Below.refl _ _, rfl⟩
end Go.Proofs.Ytccdpgbmkiapdaa.Ses
namespace Go.Proofs.Ytccdpgbmkiapdaa.Mem
set_option maxRecDepth 100000
open Go.RowKit
theorem infoU8 : (Try.prog.info? 5).map (fun i => (i.zero, i.size, i.bytes)) = some (some (.int .u8 0), 1, 1) := by kernel_rfl
set_option maxHeartbeats 1000000 in
theorem clone_any (s : ByteArray) (w : World) (hlim : s.size ≤ 140737488355328) :
  Calls Try.prog 56 #[.string s] w fun e w' => e = .returned (.string s) ∧ Below w.heap.size w w' := by
 have key : Calls Try.prog 74 #[.string s] w fun e w' => e = .returned (.string s) ∧ Below w.heap.size w w' := by
  by_cases h0 : s.size = 0
  ·have hs : s = ⟨#[]⟩ := by
    apply ByteArray.ext
    exact Array.eq_empty_of_size_eq_zero h0
   subst hs
   go_enter Try.func74, Try.ntmps74
   go_wp2
   go_returns
   exact ⟨rfl, Below.refl _ _⟩
  ·obtain ⟨i0, hi, hz0, hz1, hz2⟩ := info_parts infoU8
   have hinfo : (Try.prog.info? 5).map (·.size) = some 1 := by rw [hi]; simp [hz1]
   have hco : Try.prog.cellsOf 5 = 1 := by simp [Program.cellsOf, hi, hz1]
   obtain ⟨M, hM⟩ : ∃ M, M = madeCells (Value.int .u8 0).cells (((s.size : Nat) : Int).toNat * i0.size) := ⟨_, rfl⟩
   have hMs : M.size = s.size := by rw [hM, size_madeCells, hz1]; simp
   have hmk : ∀ W : World, (Instr.makeSlice 90 (.int .i64 (s.size : Int)) (.int .i64 (s.size : Int))).run Try.prog W = .ok (.slice (some ⟨W.heap.size, 0, none⟩) s.size s.size) (W.alloc (.cells M 5)) := fun W => by
    have h := run_make (P := Try.prog) W 90 5 i0 (.int .u8 0) Try.underlying90 hi hz0 .i64 .i64 (s.size : Int) (s.size : Int) (by omega) (by omega) (by rw [hz2]; omega) (by omega)
    rw [← hM] at h
    simpa using h
   clear hM
   have hcp := Lib.run_copy_row_string (P := Try.prog) (w.alloc (.cells M 5)) 90 9 3 5 w.heap.size 0 s.size s.size s M 5 Try.underlying90 hinfo (heap_alloc_new w _) (Nat.le_refl _) (by omega)
   obtain ⟨Y, hY⟩ : ∃ Y, Y = (M.toList.take 0 ++ Lib.byteCells s.data.toList ++ M.toList.drop (0 + s.size)).toArray := ⟨_, rfl⟩
   rw [← hY] at hcp
   have hYl : Y.toList = Lib.byteCells s.data.toList := by
    rw [hY, List.toList_toArray, List.take_zero, List.nil_append, List.drop_of_length_le (by rw [Array.length_toList]; omega), List.append_nil]
   have hgY : ((w.alloc (.cells M 5)).setRow w.heap.size Y).heap[w.heap.size]? = some (.cells Y 5 (0, 0)) := setRow_heap _ _ M _ 5 (0, 0) (heap_alloc_new w _)
   have hYs : Y.size = s.size := by rw [← Array.length_toList, hYl, Lib.byteCells_length, ← Lib.size_eq]
   have hne : s.data.toList ≠ [] := fun e => h0 (by rw [Lib.size_eq, e]; rfl)
   have hUS := Lib.run_unsafeString_row (P := Try.prog) ((w.alloc (.cells M 5)).setRow w.heap.size Y) 152 3 9 5 Try.underlying152 hco w.heap.size Y.size (by unfold World.shape?; rw [hgY]) s.data.toList hne (by rw [← Lib.size_eq]; omega) (by rw [← Lib.size_eq]; omega)
    (fun j x hx => Lib.cells_of_row hgY Y.size j _ (by rw [List.take_of_length_le (by rw [Array.length_toList]; exact Nat.le_refl _), hYl]; simp [Lib.byteCells, hx]))
   rw [← Lib.size_eq] at hUS
   clear hY
   go_enter Try.func74, Try.ntmps74
   go_wp2
   go_returns
   have hb1 : Below w.heap.size w (w.alloc (.cells M 5)) := (Below.refl _ w).alloc (Nat.le_refl _) _
   have hb2 : Below w.heap.size (w.alloc (.cells M 5)) ((w.alloc (.cells M 5)).setRow w.heap.size Y) := ⟨rfl, rfl, rfl, by simp, fun k hk => setRow_other _ _ _ _ (by omega)⟩
   exact ⟨rfl, Lib.below_freeze (hb1.trans hb2) (p := ⟨w.heap.size, 0, none⟩) (Nat.le_refl _) _⟩
 have HK := Lib.hid key
 clear key
 go_enter Try.func56, Try.ntmps56
 go_wp2_with fail
 refine HK.out.mono ?_
 rintro e w2 ⟨rfl, hb⟩
 go_wp2
 go_returns
 exact ⟨rfl, hb⟩
end Go.Proofs.Ytccdpgbmkiapdaa.Mem
