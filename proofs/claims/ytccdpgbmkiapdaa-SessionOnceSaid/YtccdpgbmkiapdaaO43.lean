/-
  Layer 14, SessionOnce: a side begins anew.
  Conditions: none.
-/
import Derived.Test.YtccdpgbmkiapdaaO42
namespace Go.Proofs.Ytccdpgbmkiapdaa.Ses
set_option maxRecDepth 100000
open Go.ChangeShapes Go.WideShapes Go.ChangeAt Go.RowKit Go.Deep Go.Proofs.Ytccdpgbmkiapdaa.Mem Go.Proofs.Ytccdpgbmkiapdaa.Win
set_option maxHeartbeats 2000000 in
theorem anew_0 {w : World} {pb : Nat} {s0 s1 v4 v5 v6 v7 : Value} {e0 e1 : Int} (hc : Cells w pb 86 [s0, s1, .int .i64 e0, .int .i64 e1, v4, v5, v6, v7]) (h0 : 0 ≤ e0) (h1 : e0 < 1000000) :
  Calls Try.prog 59 #[.pointer (some ⟨pb, 0, none⟩), .int .i64 0] w fun e w' => ∃ sb F, e = .returned (.bool true) ∧ SAt w.heap.size F w' sb (newS 1 2 (e0 + 1)) ∧
   Cells w' pb 86 [.pointer (some ⟨sb, 0, none⟩), s1, .int .i64 (e0 + 1), .int .i64 e1, v4, v5, v6, v7] ∧ Only (fun k => k = pb) w w' ∧ ∀ k, F k → w.heap.size ≤ k := by
 have c2 : w.cell? ⟨pb, 2, none⟩ = _ := hc.cell (j := 2) rfl
 have f2 : w.frozen? ⟨pb, 2, none⟩ = false := hc.frozen (j := 2) (by simp)
 obtain ⟨w1, hw1⟩ : ∃ W, W = (w.setCell ⟨pb, 2, none⟩ (.int .i64 (e0 + 1))).drew := ⟨_, rfl⟩
 have hbd : Below (w.setCell ⟨pb, 2, none⟩ (.int .i64 (e0 + 1))).heap.size (w.setCell ⟨pb, 2, none⟩ (.int .i64 (e0 + 1))) w1 := by rw [hw1]; exact (Below.refl _ _).drew
 have hc1 : Cells w1 pb 86 [s0, s1, .int .i64 (e0 + 1), .int .i64 e1, v4, v5, v6, v7] := (hc.set_ 2 _).later hbd
 have ho1 : Only (fun k => k = pb) w w1 := (Only.of_set w ⟨pb, 2, none⟩ _).trans (S' := fun _ => False) (Only.of_below hbd) fun _ _ e => e.elim
 have HC1 := Lib.hid hc1
 have HO1 := Lib.hid ho1
 have d2 : w1.cell? ⟨pb, 2, none⟩ = _ := hc1.cell (j := 2) rfl
 have HNW := Lib.hid (New_good 1 2 (e0 + 1) (decide_eq_true (by omega)) w1)
 clear hc hc1 ho1 hbd
 go_enter Try.func59, Try.ntmps59
 go_upto_region 1 with (fail)
 go_region
 rw [← hw1]
 clear hw1 c2 f2
 go_wp2_with fail
 refine HNW.out.mono ?_
 rintro e w2 ⟨sb, F, rfl, hat, hb⟩
 have hc2 := HC1.out.later hb
 have hlt : pb < w1.heap.size := HC1.out.lt
 have x0 := hc2.cell (j := 0) rfl
 have y0 : w2.frozen? ⟨pb, 0, none⟩ = false := hc2.frozen (j := 0) (by simp)
 have hlow : ∀ k, F k → w1.heap.size ≤ k := SAt.low hat
 have HR : Hid (SAt w.heap.size F (w2.setCell ⟨pb, 0, none⟩ (.pointer (some ⟨sb, 0, none⟩))) sb (newS 1 2 (e0 + 1)) ∧ Cells (w2.setCell ⟨pb, 0, none⟩ (.pointer (some ⟨sb, 0, none⟩))) pb 86 [.pointer (some ⟨sb, 0, none⟩), s1, .int .i64 (e0 + 1), .int .i64 e1, v4, v5, v6, v7] ∧ Only (fun k => k = pb) w (w2.setCell ⟨pb, 0, none⟩ (.pointer (some ⟨sb, 0, none⟩))) ∧ ∀ k, F k → w.heap.size ≤ k) := Lib.hid ⟨SAt.up HO1.out.size (SAt.only hat (Only.of_set w2 ⟨pb, 0, none⟩ _) fun k hk e => by
   have := hlow k hk
   rw [e] at this
   exact absurd hlt (Nat.not_lt.2 this)), hc2.set_ 0 _, (HO1.out.trans (S' := fun _ => False) (Only.of_below hb) fun _ _ e => e.elim).trans (Only.of_set w2 ⟨pb, 0, none⟩ _) fun _ _ e => e, fun k hk => Nat.le_trans HO1.out.size (hlow k hk)⟩
 clear hat hb hc2 hlt hlow
 go_wp2_with fail
 go_returns
 exact ⟨sb, F, rfl, HR.out⟩
set_option maxHeartbeats 2000000 in
theorem anew_1 {w : World} {pb : Nat} {s0 s1 v4 v5 v6 v7 : Value} {e0 e1 : Int} (hc : Cells w pb 86 [s0, s1, .int .i64 e0, .int .i64 e1, v4, v5, v6, v7]) (h0 : 0 ≤ e1) (h1 : e1 < 1000000) :
  Calls Try.prog 59 #[.pointer (some ⟨pb, 0, none⟩), .int .i64 1] w fun e w' => ∃ sb F, e = .returned (.bool true) ∧ SAt w.heap.size F w' sb (newS 2 2 (e1 + 1)) ∧
   Cells w' pb 86 [s0, .pointer (some ⟨sb, 0, none⟩), .int .i64 e0, .int .i64 (e1 + 1), v4, v5, v6, v7] ∧ Only (fun k => k = pb) w w' ∧ ∀ k, F k → w.heap.size ≤ k := by
 have c2 : w.cell? ⟨pb, 3, none⟩ = _ := hc.cell (j := 3) rfl
 have f2 : w.frozen? ⟨pb, 3, none⟩ = false := hc.frozen (j := 3) (by simp)
 obtain ⟨w1, hw1⟩ : ∃ W, W = (w.setCell ⟨pb, 3, none⟩ (.int .i64 (e1 + 1))).drew := ⟨_, rfl⟩
 have hbd : Below (w.setCell ⟨pb, 3, none⟩ (.int .i64 (e1 + 1))).heap.size (w.setCell ⟨pb, 3, none⟩ (.int .i64 (e1 + 1))) w1 := by rw [hw1]; exact (Below.refl _ _).drew
 have hc1 : Cells w1 pb 86 [s0, s1, .int .i64 e0, .int .i64 (e1 + 1), v4, v5, v6, v7] := (hc.set_ 3 _).later hbd
 have ho1 : Only (fun k => k = pb) w w1 := (Only.of_set w ⟨pb, 3, none⟩ _).trans (S' := fun _ => False) (Only.of_below hbd) fun _ _ e => e.elim
 have HC1 := Lib.hid hc1
 have HO1 := Lib.hid ho1
 have d2 : w1.cell? ⟨pb, 3, none⟩ = _ := hc1.cell (j := 3) rfl
 have HNW := Lib.hid (New_good 2 2 (e1 + 1) (decide_eq_true (by omega)) w1)
 clear hc hc1 ho1 hbd
 go_enter Try.func59, Try.ntmps59
 go_upto_region 1 with (fail)
 go_region
 rw [← hw1]
 clear hw1 c2 f2
 go_wp2_with fail
 refine HNW.out.mono ?_
 rintro e w2 ⟨sb, F, rfl, hat, hb⟩
 have hc2 := HC1.out.later hb
 have hlt : pb < w1.heap.size := HC1.out.lt
 have x1 := hc2.cell (j := 1) rfl
 have y1 : w2.frozen? ⟨pb, 1, none⟩ = false := hc2.frozen (j := 1) (by simp)
 have hlow : ∀ k, F k → w1.heap.size ≤ k := SAt.low hat
 have HR : Hid (SAt w.heap.size F (w2.setCell ⟨pb, 1, none⟩ (.pointer (some ⟨sb, 0, none⟩))) sb (newS 2 2 (e1 + 1)) ∧ Cells (w2.setCell ⟨pb, 1, none⟩ (.pointer (some ⟨sb, 0, none⟩))) pb 86 [s0, .pointer (some ⟨sb, 0, none⟩), .int .i64 e0, .int .i64 (e1 + 1), v4, v5, v6, v7] ∧ Only (fun k => k = pb) w (w2.setCell ⟨pb, 1, none⟩ (.pointer (some ⟨sb, 0, none⟩))) ∧ ∀ k, F k → w.heap.size ≤ k) := Lib.hid ⟨SAt.up HO1.out.size (SAt.only hat (Only.of_set w2 ⟨pb, 1, none⟩ _) fun k hk e => by
   have := hlow k hk
   rw [e] at this
   exact absurd hlt (Nat.not_lt.2 this)), hc2.set_ 1 _, (HO1.out.trans (S' := fun _ => False) (Only.of_below hb) fun _ _ e => e.elim).trans (Only.of_set w2 ⟨pb, 1, none⟩ _) fun _ _ e => e, fun k hk => Nat.le_trans HO1.out.size (hlow k hk)⟩
 clear hat hb hc2 hlt hlow
 go_wp2_with fail
 go_returns
 exact ⟨sb, F, rfl, HR.out⟩
end Go.Proofs.Ytccdpgbmkiapdaa.Ses
