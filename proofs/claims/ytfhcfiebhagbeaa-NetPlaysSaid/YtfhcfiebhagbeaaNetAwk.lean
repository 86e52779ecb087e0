/-
  Layer 11's laws: awake. Conditions: none.
-/
import Derived.Test.YtfhcfiebhagbeaaNetLaw
namespace Go.Proofs.Ytfhcfiebhagbeaa.Net
set_option maxRecDepth 100000
open Go.ChangeShapes Go.WideShapes Go.ChangeAt Go.RowKit Go.Deep Go.Proofs.Ytfhcfiebhagbeaa.Mem

theorem send_one {base b m c : Nat} {w : World} {N : Nt} {A : Option Addr} (h : NetAt base w b m N A c) (p : Pk) (hp : p.ok) (hbase : base ≤ w.heap.size) :
    Calls Try.prog 11 #[.pointer (some ⟨b, 0, none⟩), .slice (some ⟨w.heap.size, 0, none⟩) 1 1] (w.alloc (.cells #[.int .i64 p.src, .int .i64 p.dst, .string p.bytes, .bool p.spoilt] 39)) fun e w' => e = .returned (.int .i64 (send1 N p).2) ∧ NStep base b m A w (send1 N p).1 w' := by
  have hb := below_alloc w (.cells #[.int .i64 p.src, .int .i64 p.dst, .string p.bytes, .bool p.spoilt] 39)
  have hc := cells_new w 39 p.vals _ rfl
  have hS := Send_any (h.later hb) (some ⟨w.heap.size, 0, none⟩) [p] 1 (by simp) (fun q hq => by rw [List.mem_singleton.1 hq]; exact hp) (Nat.le_trans hbase hb.size)
    (fun w' ho => cells_sl (vs := [p.vals]) (by simpa using cells_only (hc : Cells _ w.heap.size 39 p.vals) ho fun e => by have := (h.lt e).2; omega) (fun v hv => by rw [List.mem_singleton.1 hv]; rfl))
  refine hS.mono ?_
  rintro e w' ⟨rfl, hst⟩
  refine ⟨?_, NStep.before hb ?_⟩
  · simp [sendL]
  · simpa [sendL] using hst
set_option maxHeartbeats 1000000 in
theorem awake_any (w : World) : Calls Try.prog 7 #[] w fun e w' => e = .returned (.bool true) ∧ Below w.heap.size w w' := by
  have HC := Lib.hid (New_any 3 w (by decide) (by decide))
  go_enter Try.func7, Try.ntmps7
  go_wp2_with fail
  refine HC.out.mono ?_
  rintro e w1 ⟨b, m, rfl, hn, hb⟩
  have HN1 := Lib.hid hn
  have HB1 := Lib.hid hb
  clear hn hb HC
  have HC := Lib.hid (Cut_any HN1.out 2 1)
  rw [show betw (3 : Int) 2 1 = true by decide] at HC
  simp only [if_true] at HC
  go_wp2_with fail
  refine HC.out.mono ?_
  rintro e w2 ⟨rfl, A2, c2, hn2, ho2, hg2⟩
  have HB2 := Lib.hid (HB1.out.trans ((ho2.below (B := w.heap.size) HB1.out.size fun k e => (HN1.out.lt e).1)))
  obtain ⟨N2, hN2⟩ : ∃ X, setCut ⟨3, fun _ _ => false, []⟩ 2 1 true = X := ⟨_, rfl⟩
  have HE1 : Hid (send1 N2 ⟨1, 2, ⟨#[]⟩, false⟩ = (N2, 1)) := Lib.hid (by rw [← hN2]; simp [send1, wholeN, setCut]; intro _; decide)
  have HE2 : Hid (send1 N2 ⟨1, 3, ⟨#[]⟩, false⟩ = ({ N2 with fl := [⟨1, 3, ⟨#[]⟩, false⟩] }, 0)) := Lib.hid (by rw [← hN2]; simp [send1, wholeN, setCut, betw]; decide)
  rw [hN2] at hn2
  clear hN2
  have HN2 := Lib.hid hn2
  clear ho2 hg2 hn2 HC HN1 HB1
  have HC := Lib.hid (send_one HN2.out ⟨1, 2, ⟨#[]⟩, false⟩ ⟨⟨by decide, by decide⟩, ⟨by decide, by decide⟩, by decide⟩ HB2.out.size)
  rw [HE1.out] at HC
  dsimp only at HC
  go_wp2_with fail
  refine HC.out.mono ?_
  rintro e w3 ⟨rfl, A3, c3, hn3, ho3, hg3⟩
  have HB3 := Lib.hid (HB2.out.trans ((ho3.below (B := w.heap.size) HB2.out.size fun k e => (HN2.out.lt e).1)))
  have HN3 := Lib.hid hn3
  clear ho3 hg3 hn3 HC HN2 HB2 HE1
  have HC := Lib.hid (send_one HN3.out ⟨1, 3, ⟨#[]⟩, false⟩ ⟨⟨by decide, by decide⟩, ⟨by decide, by decide⟩, by decide⟩ HB3.out.size)
  rw [HE2.out] at HC
  dsimp only at HC
  go_wp2_with fail
  refine HC.out.mono ?_
  rintro e w4 ⟨rfl, A4, c4, hn4, ho4, hg4⟩
  have HB4 := Lib.hid (HB3.out.trans ((ho4.below (B := w.heap.size) HB3.out.size fun k e => (HN3.out.lt e).1)))
  have HC := Lib.hid (Len_any hn4)
  clear ho4 hg4 hn4 HN3 HB3 HE2
  go_wp2_with fail
  refine HC.out.mono ?_
  rintro e w5 ⟨rfl, rfl⟩
  go_wp2_with fail
  go_returns
  exact ⟨rfl, HB4.out⟩
end Go.Proofs.Ytfhcfiebhagbeaa.Net
