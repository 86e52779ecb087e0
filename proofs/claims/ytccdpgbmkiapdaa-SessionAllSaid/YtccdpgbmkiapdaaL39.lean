/-
  Layer 14, SessionOnce: what is on its way, in memory; put.
  Layer 14, SessionOnce: a side begins anew.
  Conditions: none.
-/
import Derived.Test.YtccdpgbmkiapdaaL31
import Derived.Test.YtccdpgbmkiapdaaL38
namespace Go.Proofs.Ytccdpgbmkiapdaa.Ses
set_option maxRecDepth 100000
open Go.ChangeShapes Go.WideShapes Go.ChangeAt Go.RowKit Go.Deep Go.Proofs.Ytccdpgbmkiapdaa.Mem Go.Proofs.Ytccdpgbmkiapdaa.Win
def Wy.vals (x : Wy) : List Value := [.int .i64 (x.tgt : Int), .int .i64 x.e.kind, .int .i64 x.e.epoch, .int .i64 x.e.peer, .int .i64 x.e.seq, .string x.e.pay]
theorem fit_wy (l : List Wy) : Fit 6 (l.map Wy.vals) := ⟨fun v hv => by obtain ⟨x, _, rfl⟩ := List.mem_map.1 hv; rfl, fun v hv u hu => by
 obtain ⟨x, _, rfl⟩ := List.mem_map.1 hv
 unfold Wy.vals at hu
 simp only [List.mem_cons, List.not_mem_nil, or_false] at hu
 rcases hu with rfl | rfl | rfl | rfl | rfl | rfl <;> rfl⟩
theorem el_wy : Elem 83 134 (.agg #[.int .i64 0, .int .i64 0, .int .i64 0, .int .i64 0, .int .i64 0, .string ⟨#[]⟩]) 6 56 := ⟨Try.underlying83, by kernel_rfl, rfl, by decide, by decide⟩
/-- The pair's box, and what is on its way. -/
structure WyAt (B : Nat) (w : World) (pb : Nat) (vs : List Value) (l : List Wy) (V : Option Addr) (vc : Nat) : Prop where
 box : Cells w pb 86 vs
 at4 : vs[4]? = some (.slice V l.length vc)
 row : OwnG 134 6 Wy.vals B w (.slice V l.length vc) l
 nA : ∀ k, blk V = some k → k ≠ pb
def WyStep (B : Nat) (w : World) (pb : Nat) (vs : List Value) (V : Option Addr) (l' : List Wy) (w' : World) : Prop :=
 ∃ V' vc', WyAt B w' pb (vs.set 4 (.slice V' l'.length vc')) l' V' vc' ∧ Only (fun k => k = pb ∨ blk V = some k) w w' ∧ ∀ k, blk V' = some k → blk V = some k ∨ w.heap.size ≤ k
def WPend (B : Nat) (w0 : World) (V : Option Addr) (l : List Wy) (x : Wy) (v : Value) (W : World) : Prop :=
 ∃ A2 n2 c2, v = .slice A2 n2 c2 ∧ n2 = (l ++ [x]).length ∧ OwnG 134 6 Wy.vals B W (.slice A2 n2 c2) (l ++ [x]) ∧ Only (fun k => blk V = some k) w0 W ∧ ∀ k, blk A2 = some k → blk V = some k ∨ w0.heap.size ≤ k
section
variable {B pb vc : Nat} {w w1 wi : World} {vs : List Value} {l : List Wy} {V : Option Addr}
theorem WyAt.later (h : WyAt B w pb vs l V vc) (hb : Below w.heap.size w w1) : WyAt B w1 pb vs l V vc := ⟨h.box.later hb, h.at4, h.row.later hb, h.nA⟩
theorem WyAt.grow (h : WyAt B w pb vs l V vc) (hB : B ≤ w.heap.size) (hb : Below w.heap.size w wi) {kk : Nat} {x : Wy} (hc : Cells wi kk 134 x.vals) (hl : l.length ≤ 1000) :
  ∃ v2 w5, (Builtin.append_ #[83, 83] 83 #[.slice V l.length vc, .slice (some ⟨kk, 0, none⟩) 1 1]).run Try.prog wi = .ok v2 w5 ∧ WPend B w V l x v2 w5 := by
 obtain ⟨V2, n2, c2, w2, hrun, hrow, hn2, hon, hnb⟩ := OwnG.appS el_wy fit_wy (h.row.later hb) (m := [x]) (cells_sl (by simpa using hc) (fun v hv => (fit_wy [_]).len v hv)) (fun e => by cases e) (Nat.le_trans hB hb.size) (by simp only [List.length_singleton]; omega)
 refine ⟨_, w2, hrun, V2, n2, c2, rfl, hn2, hrow, ?_, fun k e => ?_⟩
 ·refine (Only.of_below hb).trans hon fun k _ e => ?_
  rw [own_blk] at e
  exact e
 ·rcases hnb k e with e2 | e2
  ·rw [own_blk] at e2
   exact Or.inl e2
  ·exact Or.inr (Nat.le_trans hb.size e2)
theorem WPend.put {x : Wy} {v : Value} (h : WPend B w V l x v w1) (hp : WyAt B w pb vs l V vc) :
  ∃ A2 n2 c2, v = .slice A2 n2 c2 ∧ w1.cell? ⟨pb, 4, none⟩ = some (.slice V l.length vc) ∧ w1.frozen? ⟨pb, 4, none⟩ = false ∧ WyStep B w pb vs V (l ++ [x]) (w1.setCell ⟨pb, 4, none⟩ (.slice A2 n2 c2)) := by
 obtain ⟨A2, n2, c2, rfl, rfl, hrow, ho, hg⟩ := h
 have hbx := cells_only hp.box ho fun e => hp.nA pb e rfl
 have h4 := (List.getElem?_eq_some_iff.1 hp.at4).1
 have hnp : ∀ k, blk A2 = some k → k ≠ pb := fun k e e2 => by
  rcases hg k e with e3 | e3
  ·exact hp.nA k e3 e2
  ·have := hp.box.lt
   omega
 refine ⟨A2, _, c2, rfl, hbx.cell (j := 4) hp.at4, hbx.frozen (j := 4) h4, A2, c2, ⟨hbx.set_ 4 _, ?_, ?_, hnp⟩, ?_, hg⟩
 ·rw [List.getElem?_set_self h4]
 ·exact row_only hrow (Only.of_set w1 ⟨pb, 4, none⟩ _) fun k e => by
   rw [own_blk] at e
   exact hnp k e
 ·exact (ho.mono fun k _ e => Or.inr e).trans (Only.of_set w1 ⟨pb, 4, none⟩ _) fun k _ e => Or.inl e
theorem WyStep.first (h : WyAt B w pb vs l V vc) : WyStep B w pb vs V l w := by
 refine ⟨V, vc, ?_, Only.of_below (Below.refl _ _), fun k e => Or.inl e⟩
 have e : vs.set 4 (.slice V l.length vc) = vs := by
  have h4 := List.getElem?_eq_some_iff.1 h.at4
  rw [← h4.2, List.set_getElem_self]
 rw [e]
 exact h
end
end Go.Proofs.Ytccdpgbmkiapdaa.Ses
namespace Go.Proofs.Ytccdpgbmkiapdaa.Ses
set_option maxRecDepth 100000
open Go.ChangeShapes Go.WideShapes Go.ChangeAt Go.RowKit Go.Deep Go.Proofs.Ytccdpgbmkiapdaa.Mem Go.Proofs.Ytccdpgbmkiapdaa.Win
set_option maxHeartbeats 2000000 in
theorem anew_0 {w : World} {pb : Nat} {s0 s1 v4 v5 v6 v7 : Value} {e0 e1 : Int} (hc : Cells w pb 86 [s0, s1, .int .i64 e0, .int .i64 e1, v4, v5, v6, v7]) (h0 : 0 ≤ e0) (h1 : e0 < 1000000) :
  Calls Try.prog 59 #[.pointer (some ⟨pb, 0, none⟩), .int .i64 0] w fun e w' => ∃ sb F, e = .returned (.bool true) ∧ SAt w.heap.size F w' sb (newS 1 2 (e0 + 1)) ∧
   Cells w' pb 86 [.pointer (some ⟨sb, 0, none⟩), s1, .int .i64 (e0 + 1), .int .i64 e1, v4, v5, v6, v7] ∧ Only (fun k => k = pb) w w' ∧ ∀ k, F k → w.heap.size ≤ k := by
 have c2 : w.cell? ⟨pb, 2, none⟩ = _ := hc.cell (j := 2) rfl
 have f2 : w.frozen? ⟨pb, 2, none⟩ = false := hc.frozen (j := 2) (by simp)
 obtain ⟨w1, hw1⟩ : ∃ W, W = (w.setCell ⟨pb, 2, none⟩ (.int .i64 (e0 + 1))).drew := ⟨_, rfl⟩
 have hbd : Below (w.setCell ⟨pb, 2, none⟩ (.int .i64 (e0 + 1))).heap.size (w.setCell ⟨pb, 2, none⟩ (.int .i64 (e0 + 1))) w1 := by rw [hw1]; exact (Below.refl _ _).drew
 have hc1 : Cells w1 pb 86 [s0, s1, .int .i64 (e0 + 1), .int .i64 e1, v4, v5, v6, v7] := (hc.set_ 2 _).later hbd
 have ho1 : Only (fun k => k = pb) w w1 := (Only.of_set w ⟨pb, 2, none⟩ _).trans (S' := fun _ => False) (Only.of_below hbd) fun _ _ e => e.elim
 have HC1 := Lib.hid hc1
 have HO1 := Lib.hid ho1
 have d2 : w1.cell? ⟨pb, 2, none⟩ = _ := hc1.cell (j := 2) rfl
 have HNW := Lib.hid (New_good 1 2 (e0 + 1) (decide_eq_true (by omega)) w1)
 clear hc hc1 ho1 hbd
 go_enter Try.func59, Try.ntmps59
 go_upto_region 1 with (fail)
 go_region
 rw [← hw1]
 clear hw1 c2 f2
 go_wp2_with fail
 refine HNW.out.mono ?_
 rintro e w2 ⟨sb, F, rfl, hat, hb⟩
 have hc2 := HC1.out.later hb
 have hlt : pb < w1.heap.size := HC1.out.lt
 have x0 := hc2.cell (j := 0) rfl
 have y0 : w2.frozen? ⟨pb, 0, none⟩ = false := hc2.frozen (j := 0) (by simp)
 have hlow : ∀ k, F k → w1.heap.size ≤ k := SAt.low hat
 have HR : Hid (SAt w.heap.size F (w2.setCell ⟨pb, 0, none⟩ (.pointer (some ⟨sb, 0, none⟩))) sb (newS 1 2 (e0 + 1)) ∧ Cells (w2.setCell ⟨pb, 0, none⟩ (.pointer (some ⟨sb, 0, none⟩))) pb 86 [.pointer (some ⟨sb, 0, none⟩), s1, .int .i64 (e0 + 1), .int .i64 e1, v4, v5, v6, v7] ∧ Only (fun k => k = pb) w (w2.setCell ⟨pb, 0, none⟩ (.pointer (some ⟨sb, 0, none⟩))) ∧ ∀ k, F k → w.heap.size ≤ k) := Lib.hid ⟨SAt.up HO1.out.size (SAt.only hat (Only.of_set w2 ⟨pb, 0, none⟩ _) fun k hk e => by
   have := hlow k hk
   rw [e] at this
   exact absurd hlt (Nat.not_lt.2 this)), hc2.set_ 0 _, (HO1.out.trans (S' := fun _ => False) (Only.of_below hb) fun _ _ e => e.elim).trans (Only.of_set w2 ⟨pb, 0, none⟩ _) fun _ _ e => e, fun k hk => Nat.le_trans HO1.out.size (hlow k hk)⟩
 clear hat hb hc2 hlt hlow
 go_wp2_with fail
 go_returns
 exact ⟨sb, F, rfl, HR.out⟩
set_option maxHeartbeats 2000000 in
theorem anew_1 {w : World} {pb : Nat} {s0 s1 v4 v5 v6 v7 : Value} {e0 e1 : Int} (hc : Cells w pb 86 [s0, s1, .int .i64 e0, .int .i64 e1, v4, v5, v6, v7]) (h0 : 0 ≤ e1) (h1 : e1 < 1000000) :
  Calls Try.prog 59 #[.pointer (some ⟨pb, 0, none⟩), .int .i64 1] w fun e w' => ∃ sb F, e = .returned (.bool true) ∧ SAt w.heap.size F w' sb (newS 2 2 (e1 + 1)) ∧
   Cells w' pb 86 [s0, .pointer (some ⟨sb, 0, none⟩), .int .i64 e0, .int .i64 (e1 + 1), v4, v5, v6, v7] ∧ Only (fun k => k = pb) w w' ∧ ∀ k, F k → w.heap.size ≤ k := by
 have c2 : w.cell? ⟨pb, 3, none⟩ = _ := hc.cell (j := 3) rfl
 have f2 : w.frozen? ⟨pb, 3, none⟩ = false := hc.frozen (j := 3) (by simp)
 obtain ⟨w1, hw1⟩ : ∃ W, W = (w.setCell ⟨pb, 3, none⟩ (.int .i64 (e1 + 1))).drew := ⟨_, rfl⟩
 have hbd : Below (w.setCell ⟨pb, 3, none⟩ (.int .i64 (e1 + 1))).heap.size (w.setCell ⟨pb, 3, none⟩ (.int .i64 (e1 + 1))) w1 := by rw [hw1]; exact (Below.refl _ _).drew
 have hc1 : Cells w1 pb 86 [s0, s1, .int .i64 e0, .int .i64 (e1 + 1), v4, v5, v6, v7] := (hc.set_ 3 _).later hbd
 have ho1 : Only (fun k => k = pb) w w1 := (Only.of_set w ⟨pb, 3, none⟩ _).trans (S' := fun _ => False) (Only.of_below hbd) fun _ _ e => e.elim
 have HC1 := Lib.hid hc1
 have HO1 := Lib.hid ho1
 have d2 : w1.cell? ⟨pb, 3, none⟩ = _ := hc1.cell (j := 3) rfl
 have HNW := Lib.hid (New_good 2 2 (e1 + 1) (decide_eq_true (by omega)) w1)
 clear hc hc1 ho1 hbd
 go_enter Try.func59, Try.ntmps59
 go_upto_region 1 with (fail)
 go_region
 rw [← hw1]
 clear hw1 c2 f2
 go_wp2_with fail
 refine HNW.out.mono ?_
 rintro e w2 ⟨sb, F, rfl, hat, hb⟩
 have hc2 := HC1.out.later hb
 have hlt : pb < w1.heap.size := HC1.out.lt
 have x1 := hc2.cell (j := 1) rfl
 have y1 : w2.frozen? ⟨pb, 1, none⟩ = false := hc2.frozen (j := 1) (by simp)
 have hlow : ∀ k, F k → w1.heap.size ≤ k := SAt.low hat
 have HR : Hid (SAt w.heap.size F (w2.setCell ⟨pb, 1, none⟩ (.pointer (some ⟨sb, 0, none⟩))) sb (newS 2 2 (e1 + 1)) ∧ Cells (w2.setCell ⟨pb, 1, none⟩ (.pointer (some ⟨sb, 0, none⟩))) pb 86 [s0, .pointer (some ⟨sb, 0, none⟩), .int .i64 e0, .int .i64 (e1 + 1), v4, v5, v6, v7] ∧ Only (fun k => k = pb) w (w2.setCell ⟨pb, 1, none⟩ (.pointer (some ⟨sb, 0, none⟩))) ∧ ∀ k, F k → w.heap.size ≤ k) := Lib.hid ⟨SAt.up HO1.out.size (SAt.only hat (Only.of_set w2 ⟨pb, 1, none⟩ _) fun k hk e => by
   have := hlow k hk
   rw [e] at this
   exact absurd hlt (Nat.not_lt.2 this)), hc2.set_ 1 _, (HO1.out.trans (S' := fun _ => False) (Only.of_below hb) fun _ _ e => e.elim).trans (Only.of_set w2 ⟨pb, 1, none⟩ _) fun _ _ e => e, fun k hk => Nat.le_trans HO1.out.size (hlow k hk)⟩
 clear hat hb hc2 hlt hlow
 go_wp2_with fail
 go_returns
 exact ⟨sb, F, rfl, HR.out⟩
end Go.Proofs.Ytccdpgbmkiapdaa.Ses
