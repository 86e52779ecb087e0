/-
  Layer 8: a Prepared, a Commit, lists of them, cloned.
  Conditions: none.
-/
import Derived.Test.YtalhbblmnahcdaaGreatPa11
import Derived.Test.YtalhbblmnahcdaaGreatPa4
import Derived.Test.YtalhbblmnahcdaaGreatPa9
import Derived.Deep.CutBlock
namespace Go.Proofs.YtalhbblmnahcdaaGreat.Led
set_option maxRecDepth 100000
open Go.RowKit Go.Deep Go.Proofs.YtalhbblmnahcdaaGreat.Mem Go.Proofs.YtalhbblmnahcdaaGreat.Item Go.Proofs.YtalhbblmnahcdaaGreat.Rec
/-- A row of a later call is one of an earlier call, too. -/
theorem own_up {w : World} {B B' n sz : Nat} {eT : TypeId} {v : Value} {xs : List Value} (hb : B ≤ B') (h : w.ownsRow B' eT sz v n xs) : w.ownsRow B eT sz v n xs := by
 refine ⟨h.1, ?_⟩
 rcases h.2 with hx | ⟨g, cap, cur, h1, h2, h3⟩
 ·exact Or.inl hx
 ·exact Or.inr ⟨g, cap, cur, h1, Nat.le_trans hb h2, h3⟩
theorem own_stays {w w' : World} {B n sz : Nat} {eT : TypeId} {v : Value} {xs : List Value} (h : w.ownsRow B eT sz v n xs) (ho : Only (fun k => k < B) w w') : w'.ownsRow B eT sz v n xs := row_only h ho fun k hk => by have := (h.lt k hk).1; omega
/-- Two calls make two new things, which are put into two fields of a struct of the call's own. -/
structure twSt (g : Nat) (ty : TypeId) (vs : List Value) (i j : Nat) (R1 R2 : Value → World → Prop) (d2 d5 d7 d9 : Bool) (v2 v5 : Value) (w0 w : World) : Prop where
 low : Only (fun k => k = g) w0 w
 cel : Cells w g ty (cond d9 ((vs.set i v2).set j v5) (cond d7 (vs.set i v2) vs))
 r2 : d2 = true → R1 v2 w
 r5 : d5 = true → R2 v5 w
section
variable {g : Nat} {ty : TypeId} {vs : List Value} {i j : Nat} {R1 R2 : Value → World → Prop} {d2 d5 d7 d9 : Bool} {v2 v5 v' : Value} {w0 w w' : World}
theorem twSt.below (h : twSt g ty vs i j R1 R2 d2 d5 d7 d9 v2 v5 w0 w) {wa : World} (hb : Below g wa w0) (hg : g ≤ wa.heap.size) : Below g wa w := hb.trans (h.low.below (Nat.le_trans hg hb.size) fun k e => by rw [e]; exact Nat.le_refl _)
theorem twSt.call1 {R3 : Value → World → Prop} (h : twSt g ty vs i j R1 R2 false false false false v2 v5 w0 w) (hr : R1 v' w') (hb : Below w.heap.size w w') : twSt g ty vs i j R1 R3 true false false false v' v5 w0 w' :=
 ⟨h.low.trans (S' := fun _ => False) (Only.of_below hb) (fun _ _ e => e.elim), Cells.later h.cel hb, fun _ => hr, fun e => by cases e⟩
theorem twSt.call2 (h : twSt g ty vs i j R1 R2 true false false false v2 v5 w0 w) (hs : ∀ v a b, R1 v a → Only (fun k => k = g) a b → R1 v b) (hr : R2 v' w') (hb : Below w.heap.size w w') : twSt g ty vs i j R1 R2 true true false false v2 v' w0 w' :=
 ⟨h.low.trans (S' := fun _ => False) (Only.of_below hb) (fun _ _ e => e.elim), Cells.later h.cel hb, fun _ => hs _ _ _ (h.r2 rfl) (Only.of_below hb), fun _ => hr⟩
theorem twSt.put1 (h : twSt g ty vs i j R1 R2 true true false false v2 v5 w0 w) (hs : ∀ v a b, R1 v a → Only (fun k => k = g) a b → R1 v b) (ht : ∀ v a b, R2 v a → Only (fun k => k = g) a b → R2 v b) : twSt g ty vs i j R1 R2 true true true false v2 v5 w0 (w.setCell ⟨g, i, none⟩ v2) :=
 ⟨h.low.trans (Only.of_set w ⟨g, i, none⟩ v2) (fun _ _ e => e), Cells.set_ h.cel i v2, fun _ => hs _ _ _ (h.r2 rfl) (Only.of_set w ⟨g, i, none⟩ v2), fun _ => ht _ _ _ (h.r5 rfl) (Only.of_set w ⟨g, i, none⟩ v2)⟩
theorem twSt.put2 (h : twSt g ty vs i j R1 R2 true true true false v2 v5 w0 w) (hs : ∀ v a b, R1 v a → Only (fun k => k = g) a b → R1 v b) (ht : ∀ v a b, R2 v a → Only (fun k => k = g) a b → R2 v b) : twSt g ty vs i j R1 R2 true true true true v2 v5 w0 (w.setCell ⟨g, j, none⟩ v5) :=
 ⟨h.low.trans (Only.of_set w ⟨g, j, none⟩ v5) (fun _ _ e => e), Cells.set_ h.cel j v5, fun _ => hs _ _ _ (h.r2 rfl) (Only.of_set w ⟨g, j, none⟩ v5), fun _ => ht _ _ _ (h.r5 rfl) (Only.of_set w ⟨g, j, none⟩ v5)⟩
end
/-- Two lists lie in memory from block B on, and stay there whatever is written below it. -/
def Fresh (B : Nat) (w : World) (x : List It) (n : List Int) (y : Lay) : Prop := ∀ w', Only (fun k => k < B) w w' → Two w' x n y
theorem fresh_of {w : World} {B : Nat} {x : List It} {n : List Int} {v1 v2 : Value} (h1 : w.ownsRow B 72 5 v1 x.length (x.map It.vals).flatten) (h2 : w.ownsRow B 3 1 v2 n.length (n.map fun k => [Value.int .i64 k]).flatten) :
  ∃ y : Lay, v1 = .slice y.A x.length y.c ∧ v2 = .slice y.B n.length y.d ∧ Fresh B w x n y := by
 have k1 : w.ownsRow B 72 5 v1 (x.map It.vals).length (x.map It.vals).flatten := by rw [List.length_map]; exact h1
 have k2 : w.ownsRow B 3 1 v2 (n.map fun k => [Value.int .i64 k]).length (n.map fun k => [Value.int .i64 k]).flatten := by rw [List.length_map]; exact h2
 obtain ⟨A, c, e1, _, hA, _⟩ := own_sl k1 (fit_items x).len
 obtain ⟨B', d, e2, _, hB, _⟩ := own_sl k2 (fit_nums n).len
 rw [List.length_map] at e1 e2
 refine ⟨⟨A, c, B', d⟩, e1, e2, fun w' ho => ?_⟩
 obtain ⟨A1, c1, f1, g1, _, _⟩ := own_sl (own_stays k1 ho) (fit_items x).len
 obtain ⟨A2, c2, f2, g2, _, _⟩ := own_sl (own_stays k2 ho) (fit_nums n).len
 rw [e1] at f1
 rw [e2] at f2
 simp only [Value.slice.injEq] at f1 f2
 obtain ⟨rfl, _, _⟩ := f1
 obtain ⟨rfl, _, _⟩ := f2
 exact ⟨sl_items g1, sl_nums g2, hA, hB⟩
theorem clones {x : List It} {n : List Int} {y : Lay} {w : World} (ht : Two w x n y) (hl : x.length ≤ 100000 ∧ n.length ≤ 100000) :
  (∀ wi, Below w.heap.size w wi → Calls Tryz.prog 53 #[.slice y.A x.length y.c] wi fun e w' => (∃ v, e = .returned v ∧ w'.ownsRow wi.heap.size 72 5 v x.length (x.map It.vals).flatten) ∧ Below wi.heap.size wi w') ∧
  (∀ wi, Below w.heap.size w wi → Calls Tryz.prog 54 #[.slice y.B n.length y.d] wi fun e w' => (∃ v, e = .returned v ∧ w'.ownsRow wi.heap.size 3 1 v n.length (n.map fun k => [Value.int .i64 k]).flatten) ∧ Below wi.heap.size wi w') := by
 constructor
 ·intro wi hb
  have h := clone_item y.A (x.map It.vals) y.c wi (items_sl (ht.1.later hb)) (fit_items x) ht.2.2.1 (by rw [List.length_map]; exact hl.1)
  rw [List.length_map] at h
  exact h
 ·intro wi hb
  have h := clone_int y.B (n.map fun k => [Value.int .i64 k]) y.d wi (nums_sl (ht.2.1.later hb)) (fit_nums n) ht.2.2.2 (by rw [List.length_map]; exact hl.2)
  rw [List.length_map] at h
  exact h
/-- The two new lists, from a world on. -/
def R1 (w0 : World) (x : List It) : Value → World → Prop := fun v w => w.ownsRow w0.heap.size 72 5 v x.length (x.map It.vals).flatten
def R2 (w0 : World) (n : List Int) : Value → World → Prop := fun v w => w.ownsRow w0.heap.size 3 1 v n.length (n.map fun k => [Value.int .i64 k]).flatten
set_option maxHeartbeats 1000000 in
theorem clone_prep (p : Pr) (y : Lay) (w : World) (ht : Two w p.items p.nodes y) (hl : p.items.length ≤ 100000 ∧ p.nodes.length ≤ 100000) :
  Calls Tryz.prog 62 #[.agg (p.vals y).toArray] w fun e w' => (∃ z : Lay, e = .returned (.agg (p.vals z).toArray) ∧ Fresh w.heap.size w' p.items p.nodes z) ∧ Below w.heap.size w w' := by
 obtain ⟨wb, hwb⟩ : ∃ v, v = (w.alloc (.cells #[.int .i64 p.tid.node, .int .i64 p.tid.epoch, .int .i64 p.tid.seq, .slice y.A p.items.length y.c, .slice y.B p.nodes.length y.d] 86)).alloc (.cells #[.int .i64 0, .int .i64 0, .int .i64 0, .slice none 0 0, .slice none 0 0] 86) := ⟨_, rfl⟩
 have hb1 := below_alloc w (.cells #[.int .i64 p.tid.node, .int .i64 p.tid.epoch, .int .i64 p.tid.seq, .slice y.A p.items.length y.c, .slice y.B p.nodes.length y.d] 86)
 have hb2 : Below w.heap.size w wb := by rw [hwb]; exact hb1.alloc hb1.size _
 have hc : Cells wb w.heap.size 86 [.int .i64 p.tid.node, .int .i64 p.tid.epoch, .int .i64 p.tid.seq, .slice y.A p.items.length y.c, .slice y.B p.nodes.length y.d] := by rw [hwb]; exact (cells_new w 86 [.int .i64 p.tid.node, .int .i64 p.tid.epoch, .int .i64 p.tid.seq, .slice y.A p.items.length y.c, .slice y.B p.nodes.length y.d] _ rfl).later (below_alloc _ _)
 have hc2 : Cells wb (w.heap.size + 1) 86 [.int .i64 0, .int .i64 0, .int .i64 0, .slice none 0 0, .slice none 0 0] := by
  rw [hwb]
  have h := cells_new (w.alloc (.cells #[.int .i64 p.tid.node, .int .i64 p.tid.epoch, .int .i64 p.tid.seq, .slice y.A p.items.length y.c, .slice y.B p.nodes.length y.d] 86)) 86 [.int .i64 0, .int .i64 0, .int .i64 0, .slice none 0 0, .slice none 0 0] _ rfl
  rw [World.size_alloc] at h
  exact h
 have hlt : w.heap.size < wb.heap.size := hc.lt
 have HBW := Lib.hid hb2
 have HC2 := Lib.hid hc2
 have HCL := Lib.hid (clones ht hl)
 have HSZ : Hid (∀ wi, Only (fun k => k = w.heap.size) wb wi → wb.heap.size ≤ wi.heap.size) := Lib.hid fun wi h => h.size
 have HLT := Lib.hid hlt
 have HS1 : Hid (∀ v a b, R1 wb p.items v a → Only (fun k => k = w.heap.size) a b → R1 wb p.items v b) := Lib.hid fun v a b h ho => row_only h ho fun k hk e => by have := (h.lt k hk).1; omega
 have HS2 : Hid (∀ v a b, R2 wb p.nodes v a → Only (fun k => k = w.heap.size) a b → R2 wb p.nodes v b) := Lib.hid fun v a b h ho => row_only h ho fun k hk e => by have := (h.lt k hk).1; omega
 have HI : Hid (∀ V : Nat → Value, twSt w.heap.size 86 [.int .i64 p.tid.node, .int .i64 p.tid.epoch, .int .i64 p.tid.seq, .slice y.A p.items.length y.c, .slice y.B p.nodes.length y.d] 3 4 (R1 wb p.items) (R2 wb p.nodes) false false false false (V 2) (V 5) wb wb.drew) := Lib.hid fun V => ⟨Only.of_below (Below.refl _ _).drew, hc.later (Below.refl _ _).drew, fun e => (by cases e), fun e => (by cases e)⟩
 unfold Pr.vals
 clear ht hl hb1 hb2 hc hc2 hlt
 go_enter Tryz.func62, Tryz.ntmps62
 go_wp2_with fail
 rw [← hwb]
 refine Reg.region_inv (by kernel_rfl) (fun i => ([some (.pointer (some ⟨w.heap.size, 3, none⟩)), some (.slice y.A p.items.length y.c), none, some (.pointer (some ⟨w.heap.size, 4, none⟩)), some (.slice y.B p.nodes.length y.d), none, some (.pointer (some ⟨w.heap.size, 3, none⟩)), none, some (.pointer (some ⟨w.heap.size, 4, none⟩)), none] : List (Option Value)).getD i none) (fun D V W => twSt w.heap.size 86 [.int .i64 p.tid.node, .int .i64 p.tid.epoch, .int .i64 p.tid.seq, .slice y.A p.items.length y.c, .slice y.B p.nodes.length y.d] 3 4 (R1 wb p.items) (R2 wb p.nodes) (D 2) (D 5) (D 7) (D 9) (V 2) (V 5) wb W) (fun V => [(some 3, V 0), (some 4, V 1), (some 5, V 2), (some 6, V 3), (some 7, V 4), (some 8, V 5), (some 9, V 6), (none, V 7), (some 10, V 8), (none, V 9)]) (by kernel_rfl) (by kernel_rfl) (fun V => rfl) ?_ ?_ ?_
 ·intro V
  exact HI.out V
 ·intro i o ho
  have hi : i < 10 := (Array.getElem?_eq_some_iff.1 ho).1
  rcases i with _ | _ | _ | _ | _ | _ | _ | _ | _ | _ | i
  rotate_right
  ·omega
  all_goals obtain rfl := Option.some.inj ho
  all_goals intro D V ρ wi hE hI hDi hT hF hs hd hk
  ·have e1 : ρ (.tmp 1) = .pointer (some ⟨w.heap.size, 0, none⟩) := hs 1; clear hT hF hk
   exact Reg.Gives.value (v := .pointer (some ⟨w.heap.size, 3, none⟩)) (w' := wi) (by go_simp) ⟨fun x h => Option.some.inj h, hI⟩
  ·have e3 : ρ (.tmp 3) = .pointer (some ⟨w.heap.size, 3, none⟩) := (hd 0 3).trans (hk 0 _ rfl); have hD7 : D 7 = false := hF 1 7; have hD9 : D 9 = false := hF 1 9; clear hT hF; have hI0 := hI
   rw [hD7, hD9] at hI0
   have x0 := Cells.cell hI0.cel (j := 3) rfl
   exact Reg.Gives.value (v := .slice y.A p.items.length y.c) (w' := wi) (by go_simp) ⟨fun x h => Option.some.inj h, hI⟩
  ·have e4 : ρ (.tmp 4) = .slice y.A p.items.length y.c := (hd 1 4).trans (hk 1 _ rfl); have hf := hE.func; have hD2 : D 2 = false := hDi; have hD5 : D 5 = false := hF 1 5; have hD7 : D 7 = false := hF 1 7; have hD9 : D 9 = false := hF 1 9; clear hT hF
   rw [hD2, hD5, hD7, hD9] at hI
   refine Reg.Gives.call (f := 53) (args := #[.slice y.A p.items.length y.c]) (w' := wi) (by go_simp) ?_
   have hlow := hI.below HBW.out (Nat.le_refl _)
   refine (HCL.out.1 wi hlow).mono ?_
   rintro e w'' ⟨⟨v', rfl, hrow⟩, hb'⟩
   refine ⟨_, rfl, fun x h => (by cases h), ?_⟩
   show twSt w.heap.size 86 [.int .i64 p.tid.node, .int .i64 p.tid.epoch, .int .i64 p.tid.seq, .slice y.A p.items.length y.c, .slice y.B p.nodes.length y.d] 3 4 (R1 wb p.items) (R2 wb p.nodes) true (D 5) (D 7) (D 9) v' (V 5) wb w''
   rw [hD5, hD7, hD9]
   exact hI.call1 (own_up (HSZ.out wi hI.low) hrow) hb'
  ·have e1 : ρ (.tmp 1) = .pointer (some ⟨w.heap.size, 0, none⟩) := hs 1; clear hT hF hk
   exact Reg.Gives.value (v := .pointer (some ⟨w.heap.size, 4, none⟩)) (w' := wi) (by go_simp) ⟨fun x h => Option.some.inj h, hI⟩
  ·have e6 : ρ (.tmp 6) = .pointer (some ⟨w.heap.size, 4, none⟩) := (hd 3 6).trans (hk 3 _ rfl); have hD7 : D 7 = false := hF 1 7; have hD9 : D 9 = false := hF 1 9; clear hT hF; have hI0 := hI
   rw [hD7, hD9] at hI0
   have x0 := Cells.cell hI0.cel (j := 4) rfl
   exact Reg.Gives.value (v := .slice y.B p.nodes.length y.d) (w' := wi) (by go_simp) ⟨fun x h => Option.some.inj h, hI⟩
  ·have e7 : ρ (.tmp 7) = .slice y.B p.nodes.length y.d := (hd 4 7).trans (hk 4 _ rfl); have hf := hE.func; have hD2 : D 2 = true := hT 1 2; have hD5 : D 5 = false := hDi; have hD7 : D 7 = false := hF 1 7; have hD9 : D 9 = false := hF 1 9; clear hT hF
   rw [hD2, hD5, hD7, hD9] at hI
   refine Reg.Gives.call (f := 54) (args := #[.slice y.B p.nodes.length y.d]) (w' := wi) (by go_simp) ?_
   have hlow := hI.below HBW.out (Nat.le_refl _)
   refine (HCL.out.2 wi hlow).mono ?_
   rintro e w'' ⟨⟨v', rfl, hrow⟩, hb'⟩
   refine ⟨_, rfl, fun x h => (by cases h), ?_⟩
   show twSt w.heap.size 86 [.int .i64 p.tid.node, .int .i64 p.tid.epoch, .int .i64 p.tid.seq, .slice y.A p.items.length y.c, .slice y.B p.nodes.length y.d] 3 4 (R1 wb p.items) (R2 wb p.nodes) (D 2) true (D 7) (D 9) (V 2) v' wb w''
   rw [hD2, hD7, hD9]
   exact hI.call2 HS1.out (own_up (HSZ.out wi hI.low) hrow) hb'
  ·have e1 : ρ (.tmp 1) = .pointer (some ⟨w.heap.size, 0, none⟩) := hs 1; clear hT hF hk
   exact Reg.Gives.value (v := .pointer (some ⟨w.heap.size, 3, none⟩)) (w' := wi) (by go_simp) ⟨fun x h => Option.some.inj h, hI⟩
  ·have e9 : ρ (.tmp 9) = .pointer (some ⟨w.heap.size, 3, none⟩) := (hd 6 9).trans (hk 6 _ rfl); have e5 : ρ (.tmp 5) = V 2 := hd 2 5; have hD2 : D 2 = true := hT 1 2; have hD5 : D 5 = true := hT 1 5; have hD7 : D 7 = false := hDi; have hD9 : D 9 = false := hF 1 9; clear hT hF
   rw [hD2, hD5, hD7, hD9] at hI
   have x0 := Cells.cell hI.cel (j := 3) rfl
   have x1 := Cells.frozen hI.cel (j := 3) (by simp)
   obtain ⟨z, f1, f2, _⟩ := fresh_of (hI.r2 rfl) (hI.r5 rfl); have e5b := e5.trans f1; clear e5
   exact Reg.Gives.skip (w' := wi.setCell ⟨w.heap.size, 3, none⟩ (V 2)) (by rw [f1]; clear f1 f2; go_simp) ⟨fun x h => (by cases h), by show twSt w.heap.size 86 [.int .i64 p.tid.node, .int .i64 p.tid.epoch, .int .i64 p.tid.seq, .slice y.A p.items.length y.c, .slice y.B p.nodes.length y.d] 3 4 (R1 wb p.items) (R2 wb p.nodes) (D 2) (D 5) true (D 9) (V 2) (V 5) wb _; rw [hD2, hD5, hD9]; exact hI.put1 HS1.out HS2.out⟩
  ·have e1 : ρ (.tmp 1) = .pointer (some ⟨w.heap.size, 0, none⟩) := hs 1; clear hT hF hk
   exact Reg.Gives.value (v := .pointer (some ⟨w.heap.size, 4, none⟩)) (w' := wi) (by go_simp) ⟨fun x h => Option.some.inj h, hI⟩
  ·have e10 : ρ (.tmp 10) = .pointer (some ⟨w.heap.size, 4, none⟩) := (hd 8 10).trans (hk 8 _ rfl); have e8 : ρ (.tmp 8) = V 5 := hd 5 8; have hD2 : D 2 = true := hT 1 2; have hD5 : D 5 = true := hT 1 5; have hD7 : D 7 = true := hT 1 7; have hD9 : D 9 = false := hDi; clear hT hF
   rw [hD2, hD5, hD7, hD9] at hI
   have x0 := Cells.cell hI.cel (j := 4) rfl
   have x1 := Cells.frozen hI.cel (j := 4) (by simp)
   obtain ⟨z, f1, f2, _⟩ := fresh_of (hI.r2 rfl) (hI.r5 rfl); have e8b := e8.trans f2; clear e8
   exact Reg.Gives.skip (w' := wi.setCell ⟨w.heap.size, 4, none⟩ (V 5)) (by rw [f2]; clear f1 f2; go_simp) ⟨fun x h => (by cases h), by show twSt w.heap.size 86 [.int .i64 p.tid.node, .int .i64 p.tid.epoch, .int .i64 p.tid.seq, .slice y.A p.items.length y.c, .slice y.B p.nodes.length y.d] 3 4 (R1 wb p.items) (R2 wb p.nodes) (D 2) (D 5) (D 7) true (V 2) (V 5) wb _; rw [hD2, hD5, hD7]; exact hI.put2 HS1.out HS2.out⟩
 ·intro V w1 hk hI
  simp only [Reg.putsO, List.foldl_cons, List.foldl_nil, Act.put, List.setIfInBounds_toArray, List.set_cons_succ, List.set_cons_zero]
  replace hI : twSt w.heap.size 86 [.int .i64 p.tid.node, .int .i64 p.tid.epoch, .int .i64 p.tid.seq, .slice y.A p.items.length y.c, .slice y.B p.nodes.length y.d] 3 4 (R1 wb p.items) (R2 wb p.nodes) true true true true (V 2) (V 5) wb w1 := hI
  clear hk
  obtain ⟨z, e1, e2, hfr⟩ := fresh_of (hI.r2 rfl) (hI.r5 rfl)
  have HFR := Lib.hid hfr
  have HBZ := Lib.hid (hI.below HBW.out (Nat.le_refl _))
  have hcz := hI.cel
  rw [e1, e2] at hcz
  have HCZ : Hid (Cells w1 w.heap.size 86 [.int .i64 p.tid.node, .int .i64 p.tid.epoch, .int .i64 p.tid.seq, .slice z.A p.items.length z.c, .slice z.B p.nodes.length z.d]) := Lib.hid hcz
  have HCY : Hid (Cells w1 (w.heap.size + 1) 86 [.int .i64 0, .int .i64 0, .int .i64 0, .slice none 0 0, .slice none 0 0]) := Lib.hid (cells_only HC2.out hI.low (by omega))
  clear hI hfr e1 e2 hcz
  go_upto_region 2 with (fail)
  apply wp_region_lit
  refine wpList_load_cells rfl 86 _ rfl w.heap.size #[.int .i64 p.tid.node, .int .i64 p.tid.epoch, .int .i64 p.tid.seq, .slice z.A p.items.length z.c, .slice z.B p.nodes.length z.d] rfl rfl HCZ.out Tryz.underlying86 rfl (by kernel_rfl) ?_
  refine wpList_store_cells rfl 86 _ _ rfl (w.heap.size + 1) #[.int .i64 p.tid.node, .int .i64 p.tid.epoch, .int .i64 p.tid.seq, .slice z.A p.items.length z.c, .slice z.B p.nodes.length z.d] [.int .i64 p.tid.node, .int .i64 p.tid.epoch, .int .i64 p.tid.seq, .slice z.A p.items.length z.c, .slice z.B p.nodes.length z.d] rfl rfl rfl HCY.out rfl (by kernel_rfl) (by simp [Value.oneCell']) fun w9 hpt hov => ?_
  have HPT := Lib.hid hpt
  have HOV := Lib.hid hov
  clear hpt hov
  go_wp2_with fail
  refine bodyPost_ret (v := .agg #[.int .i64 p.tid.node, .int .i64 p.tid.epoch, .int .i64 p.tid.seq, .slice z.A p.items.length z.c, .slice z.B p.nodes.length z.d]) ?_ rfl ?_
  ·exact (ret_cell (p := 2) (ty := 86) (by rfl) _ HPT.out _ (by rfl) Tryz.underlying86 rfl (by kernel_rfl)).trans (by rfl)
  ·refine ⟨⟨z, rfl, fun w2 ho => HFR.out w2 ?_⟩, HBZ.out.trans (HOV.out.below HBZ.out.size fun k e => by rw [e]; exact Nat.le_succ _)⟩
   exact (HOV.out.mono (fun k _ e => by rw [e]; exact HC2.out.lt)).trans ho fun i _ e => Nat.lt_of_lt_of_le e (Nat.le_of_lt HLT.out)
set_option maxHeartbeats 1000000 in
theorem clone_com (p : Co) (y : Lay) (w : World) (ht : Two w p.items p.nodes y) (hl : p.items.length ≤ 100000 ∧ p.nodes.length ≤ 100000) :
  Calls Tryz.prog 64 #[.agg (p.vals y).toArray] w fun e w' => (∃ z : Lay, e = .returned (.agg (p.vals z).toArray) ∧ Fresh w.heap.size w' p.items p.nodes z) ∧ Below w.heap.size w w' := by
 obtain ⟨wb, hwb⟩ : ∃ v, v = (w.alloc (.cells #[.int .i64 p.tid.node, .int .i64 p.tid.epoch, .int .i64 p.tid.seq, .slice y.A p.items.length y.c, .slice y.B p.nodes.length y.d, .bool p.over] 88)).alloc (.cells #[.int .i64 0, .int .i64 0, .int .i64 0, .slice none 0 0, .slice none 0 0, .bool false] 88) := ⟨_, rfl⟩
 have hb1 := below_alloc w (.cells #[.int .i64 p.tid.node, .int .i64 p.tid.epoch, .int .i64 p.tid.seq, .slice y.A p.items.length y.c, .slice y.B p.nodes.length y.d, .bool p.over] 88)
 have hb2 : Below w.heap.size w wb := by rw [hwb]; exact hb1.alloc hb1.size _
 have hc : Cells wb w.heap.size 88 [.int .i64 p.tid.node, .int .i64 p.tid.epoch, .int .i64 p.tid.seq, .slice y.A p.items.length y.c, .slice y.B p.nodes.length y.d, .bool p.over] := by rw [hwb]; exact (cells_new w 88 [.int .i64 p.tid.node, .int .i64 p.tid.epoch, .int .i64 p.tid.seq, .slice y.A p.items.length y.c, .slice y.B p.nodes.length y.d, .bool p.over] _ rfl).later (below_alloc _ _)
 have hc2 : Cells wb (w.heap.size + 1) 88 [.int .i64 0, .int .i64 0, .int .i64 0, .slice none 0 0, .slice none 0 0, .bool false] := by
  rw [hwb]
  have h := cells_new (w.alloc (.cells #[.int .i64 p.tid.node, .int .i64 p.tid.epoch, .int .i64 p.tid.seq, .slice y.A p.items.length y.c, .slice y.B p.nodes.length y.d, .bool p.over] 88)) 88 [.int .i64 0, .int .i64 0, .int .i64 0, .slice none 0 0, .slice none 0 0, .bool false] _ rfl
  rw [World.size_alloc] at h
  exact h
 have hlt : w.heap.size < wb.heap.size := hc.lt
 have HBW := Lib.hid hb2
 have HC2 := Lib.hid hc2
 have HCL := Lib.hid (clones ht hl)
 have HSZ : Hid (∀ wi, Only (fun k => k = w.heap.size) wb wi → wb.heap.size ≤ wi.heap.size) := Lib.hid fun wi h => h.size
 have HLT := Lib.hid hlt
 have HS1 : Hid (∀ v a b, R1 wb p.items v a → Only (fun k => k = w.heap.size) a b → R1 wb p.items v b) := Lib.hid fun v a b h ho => row_only h ho fun k hk e => by have := (h.lt k hk).1; omega
 have HS2 : Hid (∀ v a b, R2 wb p.nodes v a → Only (fun k => k = w.heap.size) a b → R2 wb p.nodes v b) := Lib.hid fun v a b h ho => row_only h ho fun k hk e => by have := (h.lt k hk).1; omega
 have HI : Hid (∀ V : Nat → Value, twSt w.heap.size 88 [.int .i64 p.tid.node, .int .i64 p.tid.epoch, .int .i64 p.tid.seq, .slice y.A p.items.length y.c, .slice y.B p.nodes.length y.d, .bool p.over] 3 4 (R1 wb p.items) (R2 wb p.nodes) false false false false (V 2) (V 5) wb wb.drew) := Lib.hid fun V => ⟨Only.of_below (Below.refl _ _).drew, hc.later (Below.refl _ _).drew, fun e => (by cases e), fun e => (by cases e)⟩
 unfold Co.vals
 clear ht hl hb1 hb2 hc hc2 hlt
 go_enter Tryz.func64, Tryz.ntmps64
 go_wp2_with fail
 rw [← hwb]
 refine Reg.region_inv (by kernel_rfl) (fun i => ([some (.pointer (some ⟨w.heap.size, 3, none⟩)), some (.slice y.A p.items.length y.c), none, some (.pointer (some ⟨w.heap.size, 4, none⟩)), some (.slice y.B p.nodes.length y.d), none, some (.pointer (some ⟨w.heap.size, 3, none⟩)), none, some (.pointer (some ⟨w.heap.size, 4, none⟩)), none] : List (Option Value)).getD i none) (fun D V W => twSt w.heap.size 88 [.int .i64 p.tid.node, .int .i64 p.tid.epoch, .int .i64 p.tid.seq, .slice y.A p.items.length y.c, .slice y.B p.nodes.length y.d, .bool p.over] 3 4 (R1 wb p.items) (R2 wb p.nodes) (D 2) (D 5) (D 7) (D 9) (V 2) (V 5) wb W) (fun V => [(some 3, V 0), (some 4, V 1), (some 5, V 2), (some 6, V 3), (some 7, V 4), (some 8, V 5), (some 9, V 6), (none, V 7), (some 10, V 8), (none, V 9)]) (by kernel_rfl) (by kernel_rfl) (fun V => rfl) ?_ ?_ ?_
 ·intro V
  exact HI.out V
 ·intro i o ho
  have hi : i < 10 := (Array.getElem?_eq_some_iff.1 ho).1
  rcases i with _ | _ | _ | _ | _ | _ | _ | _ | _ | _ | i
  rotate_right
  ·omega
  all_goals obtain rfl := Option.some.inj ho
  all_goals intro D V ρ wi hE hI hDi hT hF hs hd hk
  ·have e1 : ρ (.tmp 1) = .pointer (some ⟨w.heap.size, 0, none⟩) := hs 1; clear hT hF hk
   exact Reg.Gives.value (v := .pointer (some ⟨w.heap.size, 3, none⟩)) (w' := wi) (by go_simp) ⟨fun x h => Option.some.inj h, hI⟩
  ·have e3 : ρ (.tmp 3) = .pointer (some ⟨w.heap.size, 3, none⟩) := (hd 0 3).trans (hk 0 _ rfl); have hD7 : D 7 = false := hF 1 7; have hD9 : D 9 = false := hF 1 9; clear hT hF; have hI0 := hI
   rw [hD7, hD9] at hI0
   have x0 := Cells.cell hI0.cel (j := 3) rfl
   exact Reg.Gives.value (v := .slice y.A p.items.length y.c) (w' := wi) (by go_simp) ⟨fun x h => Option.some.inj h, hI⟩
  ·have e4 : ρ (.tmp 4) = .slice y.A p.items.length y.c := (hd 1 4).trans (hk 1 _ rfl); have hf := hE.func; have hD2 : D 2 = false := hDi; have hD5 : D 5 = false := hF 1 5; have hD7 : D 7 = false := hF 1 7; have hD9 : D 9 = false := hF 1 9; clear hT hF
   rw [hD2, hD5, hD7, hD9] at hI
   refine Reg.Gives.call (f := 53) (args := #[.slice y.A p.items.length y.c]) (w' := wi) (by go_simp) ?_
   have hlow := hI.below HBW.out (Nat.le_refl _)
   refine (HCL.out.1 wi hlow).mono ?_
   rintro e w'' ⟨⟨v', rfl, hrow⟩, hb'⟩
   refine ⟨_, rfl, fun x h => (by cases h), ?_⟩
   show twSt w.heap.size 88 [.int .i64 p.tid.node, .int .i64 p.tid.epoch, .int .i64 p.tid.seq, .slice y.A p.items.length y.c, .slice y.B p.nodes.length y.d, .bool p.over] 3 4 (R1 wb p.items) (R2 wb p.nodes) true (D 5) (D 7) (D 9) v' (V 5) wb w''
   rw [hD5, hD7, hD9]
   exact hI.call1 (own_up (HSZ.out wi hI.low) hrow) hb'
  ·have e1 : ρ (.tmp 1) = .pointer (some ⟨w.heap.size, 0, none⟩) := hs 1; clear hT hF hk
   exact Reg.Gives.value (v := .pointer (some ⟨w.heap.size, 4, none⟩)) (w' := wi) (by go_simp) ⟨fun x h => Option.some.inj h, hI⟩
  ·have e6 : ρ (.tmp 6) = .pointer (some ⟨w.heap.size, 4, none⟩) := (hd 3 6).trans (hk 3 _ rfl); have hD7 : D 7 = false := hF 1 7; have hD9 : D 9 = false := hF 1 9; clear hT hF; have hI0 := hI
   rw [hD7, hD9] at hI0
   have x0 := Cells.cell hI0.cel (j := 4) rfl
   exact Reg.Gives.value (v := .slice y.B p.nodes.length y.d) (w' := wi) (by go_simp) ⟨fun x h => Option.some.inj h, hI⟩
  ·have e7 : ρ (.tmp 7) = .slice y.B p.nodes.length y.d := (hd 4 7).trans (hk 4 _ rfl); have hf := hE.func; have hD2 : D 2 = true := hT 1 2; have hD5 : D 5 = false := hDi; have hD7 : D 7 = false := hF 1 7; have hD9 : D 9 = false := hF 1 9; clear hT hF
   rw [hD2, hD5, hD7, hD9] at hI
   refine Reg.Gives.call (f := 54) (args := #[.slice y.B p.nodes.length y.d]) (w' := wi) (by go_simp) ?_
   have hlow := hI.below HBW.out (Nat.le_refl _)
   refine (HCL.out.2 wi hlow).mono ?_
   rintro e w'' ⟨⟨v', rfl, hrow⟩, hb'⟩
   refine ⟨_, rfl, fun x h => (by cases h), ?_⟩
   show twSt w.heap.size 88 [.int .i64 p.tid.node, .int .i64 p.tid.epoch, .int .i64 p.tid.seq, .slice y.A p.items.length y.c, .slice y.B p.nodes.length y.d, .bool p.over] 3 4 (R1 wb p.items) (R2 wb p.nodes) (D 2) true (D 7) (D 9) (V 2) v' wb w''
   rw [hD2, hD7, hD9]
   exact hI.call2 HS1.out (own_up (HSZ.out wi hI.low) hrow) hb'
  ·have e1 : ρ (.tmp 1) = .pointer (some ⟨w.heap.size, 0, none⟩) := hs 1; clear hT hF hk
   exact Reg.Gives.value (v := .pointer (some ⟨w.heap.size, 3, none⟩)) (w' := wi) (by go_simp) ⟨fun x h => Option.some.inj h, hI⟩
  ·have e9 : ρ (.tmp 9) = .pointer (some ⟨w.heap.size, 3, none⟩) := (hd 6 9).trans (hk 6 _ rfl); have e5 : ρ (.tmp 5) = V 2 := hd 2 5; have hD2 : D 2 = true := hT 1 2; have hD5 : D 5 = true := hT 1 5; have hD7 : D 7 = false := hDi; have hD9 : D 9 = false := hF 1 9; clear hT hF
   rw [hD2, hD5, hD7, hD9] at hI
   have x0 := Cells.cell hI.cel (j := 3) rfl
   have x1 := Cells.frozen hI.cel (j := 3) (by simp)
   obtain ⟨z, f1, f2, _⟩ := fresh_of (hI.r2 rfl) (hI.r5 rfl); have e5b := e5.trans f1; clear e5
   exact Reg.Gives.skip (w' := wi.setCell ⟨w.heap.size, 3, none⟩ (V 2)) (by rw [f1]; clear f1 f2; go_simp) ⟨fun x h => (by cases h), by show twSt w.heap.size 88 [.int .i64 p.tid.node, .int .i64 p.tid.epoch, .int .i64 p.tid.seq, .slice y.A p.items.length y.c, .slice y.B p.nodes.length y.d, .bool p.over] 3 4 (R1 wb p.items) (R2 wb p.nodes) (D 2) (D 5) true (D 9) (V 2) (V 5) wb _; rw [hD2, hD5, hD9]; exact hI.put1 HS1.out HS2.out⟩
  ·have e1 : ρ (.tmp 1) = .pointer (some ⟨w.heap.size, 0, none⟩) := hs 1; clear hT hF hk
   exact Reg.Gives.value (v := .pointer (some ⟨w.heap.size, 4, none⟩)) (w' := wi) (by go_simp) ⟨fun x h => Option.some.inj h, hI⟩
  ·have e10 : ρ (.tmp 10) = .pointer (some ⟨w.heap.size, 4, none⟩) := (hd 8 10).trans (hk 8 _ rfl); have e8 : ρ (.tmp 8) = V 5 := hd 5 8; have hD2 : D 2 = true := hT 1 2; have hD5 : D 5 = true := hT 1 5; have hD7 : D 7 = true := hT 1 7; have hD9 : D 9 = false := hDi; clear hT hF
   rw [hD2, hD5, hD7, hD9] at hI
   have x0 := Cells.cell hI.cel (j := 4) rfl
   have x1 := Cells.frozen hI.cel (j := 4) (by simp)
   obtain ⟨z, f1, f2, _⟩ := fresh_of (hI.r2 rfl) (hI.r5 rfl); have e8b := e8.trans f2; clear e8
   exact Reg.Gives.skip (w' := wi.setCell ⟨w.heap.size, 4, none⟩ (V 5)) (by rw [f2]; clear f1 f2; go_simp) ⟨fun x h => (by cases h), by show twSt w.heap.size 88 [.int .i64 p.tid.node, .int .i64 p.tid.epoch, .int .i64 p.tid.seq, .slice y.A p.items.length y.c, .slice y.B p.nodes.length y.d, .bool p.over] 3 4 (R1 wb p.items) (R2 wb p.nodes) (D 2) (D 5) (D 7) true (V 2) (V 5) wb _; rw [hD2, hD5, hD7]; exact hI.put2 HS1.out HS2.out⟩
 ·intro V w1 hk hI
  simp only [Reg.putsO, List.foldl_cons, List.foldl_nil, Act.put, List.setIfInBounds_toArray, List.set_cons_succ, List.set_cons_zero]
  replace hI : twSt w.heap.size 88 [.int .i64 p.tid.node, .int .i64 p.tid.epoch, .int .i64 p.tid.seq, .slice y.A p.items.length y.c, .slice y.B p.nodes.length y.d, .bool p.over] 3 4 (R1 wb p.items) (R2 wb p.nodes) true true true true (V 2) (V 5) wb w1 := hI
  clear hk
  obtain ⟨z, e1, e2, hfr⟩ := fresh_of (hI.r2 rfl) (hI.r5 rfl)
  have HFR := Lib.hid hfr
  have HBZ := Lib.hid (hI.below HBW.out (Nat.le_refl _))
  have hcz := hI.cel
  rw [e1, e2] at hcz
  have HCZ : Hid (Cells w1 w.heap.size 88 [.int .i64 p.tid.node, .int .i64 p.tid.epoch, .int .i64 p.tid.seq, .slice z.A p.items.length z.c, .slice z.B p.nodes.length z.d, .bool p.over]) := Lib.hid hcz
  have HCY : Hid (Cells w1 (w.heap.size + 1) 88 [.int .i64 0, .int .i64 0, .int .i64 0, .slice none 0 0, .slice none 0 0, .bool false]) := Lib.hid (cells_only HC2.out hI.low (by omega))
  clear hI hfr e1 e2 hcz
  go_upto_region 2 with (fail)
  apply wp_region_lit
  refine wpList_load_cells rfl 88 _ rfl w.heap.size #[.int .i64 p.tid.node, .int .i64 p.tid.epoch, .int .i64 p.tid.seq, .slice z.A p.items.length z.c, .slice z.B p.nodes.length z.d, .bool p.over] rfl rfl HCZ.out Tryz.underlying88 rfl (by kernel_rfl) ?_
  refine wpList_store_cells rfl 88 _ _ rfl (w.heap.size + 1) #[.int .i64 p.tid.node, .int .i64 p.tid.epoch, .int .i64 p.tid.seq, .slice z.A p.items.length z.c, .slice z.B p.nodes.length z.d, .bool p.over] [.int .i64 p.tid.node, .int .i64 p.tid.epoch, .int .i64 p.tid.seq, .slice z.A p.items.length z.c, .slice z.B p.nodes.length z.d, .bool p.over] rfl rfl rfl HCY.out rfl (by kernel_rfl) (by simp [Value.oneCell']) fun w9 hpt hov => ?_
  have HPT := Lib.hid hpt
  have HOV := Lib.hid hov
  clear hpt hov
  go_wp2_with fail
  refine bodyPost_ret (v := .agg #[.int .i64 p.tid.node, .int .i64 p.tid.epoch, .int .i64 p.tid.seq, .slice z.A p.items.length z.c, .slice z.B p.nodes.length z.d, .bool p.over]) ?_ rfl ?_
  ·exact (ret_cell (p := 2) (ty := 88) (by rfl) _ HPT.out _ (by rfl) Tryz.underlying88 rfl (by kernel_rfl)).trans (by rfl)
  ·refine ⟨⟨z, rfl, fun w2 ho => HFR.out w2 ?_⟩, HBZ.out.trans (HOV.out.below HBZ.out.size fun k e => by rw [e]; exact Nat.le_succ _)⟩
   exact (HOV.out.mono (fun k _ e => by rw [e]; exact HC2.out.lt)).trans ho fun i _ e => Nat.lt_of_lt_of_le e (Nat.le_of_lt HLT.out)
end Go.Proofs.YtalhbblmnahcdaaGreat.Led
