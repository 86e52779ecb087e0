/- Part 7 of the proof. Conditions: none. -/
import Derived.Test.YtdkchpiinelmiaaGreatZ6
import Derived.Deep.CutBlock
namespace Go.Proofs.YtdkchpiinelmiaaGreat.Led
set_option maxRecDepth 100000
open Go.RowKit Go.Deep Mem fN Rec
theorem cS {w : World} {B B' n sz : Nat} {eT : TypeId} {v : Value} {xs : List Value} (hb : B <= B') (h : w.ownsRow B' eT sz v n xs) : w.ownsRow B eT sz v n xs := by
 refine ⟨h.1, ?_⟩; rcases h.2 with hx | ⟨g, cap, cur, h1, h2, h3⟩
 ·exact Or.inl hx
 exact Or.inr ⟨g, cap, cur, h1, Nat.le_trans hb h2, h3⟩
theorem uV {w w' : World} {B n sz : Nat} {eT : TypeId} {v : Value} {xs : List Value} (h : w.ownsRow B eT sz v n xs) (ho : Only (fun k => k < B) w w') : w'.ownsRow B eT sz v n xs := aF h ho fun k hk => by have := (h.lt k hk).1; omega
structure dM (g : Nat) (ty : TypeId) (vs : List Value) (i j : Nat) (R1 R2 : Value -> World -> Prop) (d2 d5 d7 d9 : Bool) (v2 v5 : Value) (w0 w : World) : Prop where
 low : Only (fun k => k = g) w0 w
 br : Cells w g ty (cond d9 ((vs.set i v2).set j v5) (cond d7 (vs.set i v2) vs))
 r2 : d2 = true -> R1 v2 w
 r5 : d5 = true -> R2 v5 w
section
variable {g : Nat} {ty : TypeId} {vs : List Value} {i j : Nat} {R1 R2 : Value -> World -> Prop} {d2 d5 d7 d9 : Bool} {v2 v5 v' : Value} {w0 w w' : World}
theorem dM.below (h : dM g ty vs i j R1 R2 d2 d5 d7 d9 v2 v5 w0 w) {wa : World} (hb : Below g wa w0) (hg : g <= wa.heap.size) : Below g wa w := hb.trans (h.low.below (Nat.le_trans hg hb.size) fun k e => by rw [e]; exact Nat.le_refl _)
theorem dM.Bq {R3 : Value -> World -> Prop} (h : dM g ty vs i j R1 R2 false false false false v2 v5 w0 w) (hr : R1 v' w') (hb : Below w.heap.size w w') : dM g ty vs i j R1 R3 true false false false v' v5 w0 w' :=
 ⟨h.low.trans (S' := fun _ => False) (Only.of_below hb) (fun _ _ e => e.elim), Cells.later h.br hb, fun _ => hr, fun e => by cases e⟩
theorem dM.call2 (h : dM g ty vs i j R1 R2 true false false false v2 v5 w0 w) (hs : ∀ v a b, R1 v a -> Only (fun k => k = g) a b -> R1 v b) (hr : R2 v' w') (hb : Below w.heap.size w w') : dM g ty vs i j R1 R2 true true false false v2 v' w0 w' :=
 ⟨h.low.trans (S' := fun _ => False) (Only.of_below hb) (fun _ _ e => e.elim), Cells.later h.br hb, fun _ => hs _ _ _ (h.r2 rfl) (Only.of_below hb), fun _ => hr⟩
theorem dM.ey (h : dM g ty vs i j R1 R2 true true false false v2 v5 w0 w) (hs : ∀ v a b, R1 v a -> Only (fun k => k = g) a b -> R1 v b) (ht : ∀ v a b, R2 v a -> Only (fun k => k = g) a b -> R2 v b) : dM g ty vs i j R1 R2 true true true false v2 v5 w0 (w.setCell ⟨g, i, none⟩ v2) :=
 ⟨h.low.trans (Only.b_ w ⟨g, i, none⟩ v2) (fun _ _ e => e), Cells.fB h.br i v2, fun _ => hs _ _ _ (h.r2 rfl) (Only.b_ w ⟨g, i, none⟩ v2), fun _ => ht _ _ _ (h.r5 rfl) (Only.b_ w ⟨g, i, none⟩ v2)⟩
theorem dM.DY (h : dM g ty vs i j R1 R2 true true true false v2 v5 w0 w) (hs : ∀ v a b, R1 v a -> Only (fun k => k = g) a b -> R1 v b) (ht : ∀ v a b, R2 v a -> Only (fun k => k = g) a b -> R2 v b) : dM g ty vs i j R1 R2 true true true true v2 v5 w0 (w.setCell ⟨g, j, none⟩ v5) :=
 ⟨h.low.trans (Only.b_ w ⟨g, j, none⟩ v5) (fun _ _ e => e), Cells.fB h.br j v5, fun _ => hs _ _ _ (h.r2 rfl) (Only.b_ w ⟨g, j, none⟩ v5), fun _ => ht _ _ _ (h.r5 rfl) (Only.b_ w ⟨g, j, none⟩ v5)⟩
end
def qZ (B : Nat) (w : World) (x : List It) (n : List Int) (y : Lay) : Prop := ∀ w', Only (fun k => k < B) w w' -> Two w' x n y
theorem jF {w : World} {B : Nat} {x : List It} {n : List Int} {v1 v2 : Value} (h1 : w.ownsRow B 64 5 v1 x.length (x.map It.vals).flatten) (h2 : w.ownsRow B 3 1 v2 n.length (n.map fun k => [Value.int .i64 k]).flatten) :
  ∃ y : Lay, v1 = .slice y.A x.length y.c /\ v2 = .slice y.B n.length y.d /\ qZ B w x n y := by
 have k1 : w.ownsRow B 64 5 v1 (x.map It.vals).length (x.map It.vals).flatten := by rw [List.length_map]; exact h1
 have k2 : w.ownsRow B 3 1 v2 (n.map fun k => [Value.int .i64 k]).length (n.map fun k => [Value.int .i64 k]).flatten := by rw [List.length_map]; exact h2
 obtain ⟨A, c, e1, _, hA, _⟩ := f_ k1 (qP x).len; obtain ⟨B', d, e2, _, hB, _⟩ := f_ k2 (sU n).len; rw [List.length_map] at e1 e2; refine ⟨⟨A, c, B', d⟩, e1, e2, fun w' ho => ?_⟩; obtain ⟨A1, c1, f1, g1, _, _⟩ := f_ (uV k1 ho) (qP x).len; obtain ⟨A2, c2, f2, g2, _, _⟩ := f_ (uV k2 ho) (sU n).len; rw [e1] at f1; rw [e2] at f2; simp only [Value.slice.injEq] at f1 f2; obtain ⟨rfl, _, _⟩ := f1; obtain ⟨rfl, _, _⟩ := f2; exact ⟨xE g1, Bx g2, hA, hB⟩
theorem clones {x : List It} {n : List Int} {y : Lay} {w : World} (ht : Two w x n y) (hl : x.length <= 100000 /\ n.length <= 100000) :
  (∀ wi, Below w.heap.size w wi -> Calls Tryz.prog 87 #[.slice y.A x.length y.c] wi fun e w' => (∃ v, e = .returned v /\ w'.ownsRow wi.heap.size 64 5 v x.length (x.map It.vals).flatten) /\ Below wi.heap.size wi w') /\
  (∀ wi, Below w.heap.size w wi -> Calls Tryz.prog 88 #[.slice y.B n.length y.d] wi fun e w' => (∃ v, e = .returned v /\ w'.ownsRow wi.heap.size 3 1 v n.length (n.map fun k => [Value.int .i64 k]).flatten) /\ Below wi.heap.size wi w') := by
 constructor
 ·intro wi hb
  have h := AZ y.A (x.map It.vals) y.c wi (xO (ht.1.later hb)) (qP x) ht.2.2.1 (by rw [List.length_map]; exact hl.1); rw [List.length_map] at h; exact h
 intro wi hb
 have h := E9 y.B (n.map fun k => [Value.int .i64 k]) y.d wi (J9 (ht.2.1.later hb)) (sU n) ht.2.2.2 (by rw [List.length_map]; exact hl.2); rw [List.length_map] at h; exact h
def R1 (w0 : World) (x : List It) : Value -> World -> Prop := fun v w => w.ownsRow w0.heap.size 64 5 v x.length (x.map It.vals).flatten
def R2 (w0 : World) (n : List Int) : Value -> World -> Prop := fun v w => w.ownsRow w0.heap.size 3 1 v n.length (n.map fun k => [Value.int .i64 k]).flatten
set_option maxHeartbeats 1000000 in
theorem tJ (p : Pr) (y : Lay) (w : World) (ht : Two w p.items p.nodes y) (hl : p.items.length <= 100000 /\ p.nodes.length <= 100000) :
  Calls Tryz.prog 53 #[.agg (p.vals y).toArray] w fun e w' => (∃ z : Lay, e = .returned (.agg (p.vals z).toArray) /\ qZ w.heap.size w' p.items p.nodes z) /\ Below w.heap.size w w' := by
 obtain ⟨wb, hwb⟩ := aj ((w.alloc (.cells #[iv p.tid.node, iv p.tid.epoch, iv p.tid.seq, .slice y.A p.items.length y.c, .slice y.B p.nodes.length y.d] 78)).alloc (.cells #[iv 0, iv 0, iv 0, .slice none 0 0, .slice none 0 0] 78)); have hb1 := av w (.cells #[iv p.tid.node, iv p.tid.epoch, iv p.tid.seq, .slice y.A p.items.length y.c, .slice y.B p.nodes.length y.d] 78); have hb2 : Below w.heap.size w wb := by rw [hwb]; exact hb1.alloc hb1.size _
 have hc : Cells wb w.heap.size 78 [iv p.tid.node, iv p.tid.epoch, iv p.tid.seq, .slice y.A p.items.length y.c, .slice y.B p.nodes.length y.d] := by rw [hwb]; exact (aB w 78 [iv p.tid.node, iv p.tid.epoch, iv p.tid.seq, .slice y.A p.items.length y.c, .slice y.B p.nodes.length y.d] _ rfl).later (av _ _)
 have hc2 : Cells wb (w.heap.size + 1) 78 [iv 0, iv 0, iv 0, .slice none 0 0, .slice none 0 0] := by
  rw [hwb]; have h := aB (w.alloc (.cells #[iv p.tid.node, iv p.tid.epoch, iv p.tid.seq, .slice y.A p.items.length y.c, .slice y.B p.nodes.length y.d] 78)) 78 [iv 0, iv 0, iv 0, .slice none 0 0, .slice none 0 0] _ rfl; rw [World.size_alloc] at h; exact h
 have hlt : w.heap.size < wb.heap.size := hc.lt; have rR := ak hb2; have l7 := ak hc2; have FE := ak (clones ht hl); have Us : Hid (∀ wi, Only (fun k => k = w.heap.size) wb wi -> wb.heap.size <= wi.heap.size) := ak fun wi h => h.size
 have mU := ak hlt; have zE : Hid (∀ v a b, R1 wb p.items v a -> Only (fun k => k = w.heap.size) a b -> R1 wb p.items v b) := ak fun v a b h ho => aF h ho fun k hk e => by have := (h.lt k hk).1; omega
 have Bo : Hid (∀ v a b, R2 wb p.nodes v a -> Only (fun k => k = w.heap.size) a b -> R2 wb p.nodes v b) := ak fun v a b h ho => aF h ho fun k hk e => by have := (h.lt k hk).1; omega
 have HI : Hid (∀ V : Nat -> Value, dM w.heap.size 78 [iv p.tid.node, iv p.tid.epoch, iv p.tid.seq, .slice y.A p.items.length y.c, .slice y.B p.nodes.length y.d] 3 4 (R1 wb p.items) (R2 wb p.nodes) false false false false (V 2) (V 5) wb wb.drew) := ak fun V => ⟨Only.of_below (Below.refl _ _).drew, hc.later (Below.refl _ _).drew, fun e => (by cases e), fun e => (by cases e)⟩
 unfold Pr.vals; clear ht hl hb1 hb2 hc hc2 hlt
 go_enter Tryz.func53, Tryz.ntmps53
 go_wp2_with fail
 rw [<- hwb]; refine N.bk (by kernel_rfl) (fun i => ([some (.pointer (some ⟨w.heap.size, 3, none⟩)), some (.slice y.A p.items.length y.c), none, some (.pointer (some ⟨w.heap.size, 4, none⟩)), some (.slice y.B p.nodes.length y.d), none, some (.pointer (some ⟨w.heap.size, 3, none⟩)), none, some (.pointer (some ⟨w.heap.size, 4, none⟩)), none] : List (Option Value)).getD i none) (fun D V W => dM w.heap.size 78 [iv p.tid.node, iv p.tid.epoch, iv p.tid.seq, .slice y.A p.items.length y.c, .slice y.B p.nodes.length y.d] 3 4 (R1 wb p.items) (R2 wb p.nodes) (D 2) (D 5) (D 7) (D 9) (V 2) (V 5) wb W) (fun V => [(some 3, V 0), (some 4, V 1), (some 5, V 2), (some 6, V 3), (some 7, V 4), (some 8, V 5), (some 9, V 6), (none, V 7), (some 10, V 8), (none, V 9)]) (by kernel_rfl) (by kernel_rfl) (fun V => rfl) ?_ ?_ ?_
 ·intro V
  exact HI.o V
 ·intro i o ho
  have hi : i < 10 := (Array.getElem?_eq_some_iff.1 ho).1; rcases i with _ | _ | _ | _ | _ | _ | _ | _ | _ | _ | i
  rotate_right
  ·omega
  all_goals obtain rfl := Option.some.inj ho
  all_goals intro D V ρ wi hE hI cP hT hF hs hd hk
  all_goals (have e1 : ρ (.tmp 1) = (au w.heap.size) := hs 1; have hf := hE.func)
  ·clear hT hF hk
   exact N.gi _ ⟨fun _ => N.oi, hI⟩
  ·have e3 := (hd 0 3).trans (hk 0 _ rfl); have dN : D 7 = false := hF 1 7; have d_ : D 9 = false := hF 1 9; clear hT hF; have gX := hI
   rw [dN, d_] at gX; have x0 := Cells.cell gX.br (j := 3) rfl; exact N.gi _ ⟨fun _ => N.oi, hI⟩
  ·have e4 := (hd 1 4).trans (hk 1 _ rfl); have jc : D 2 = false := cP; have dg : D 5 = false := hF 1 5; have dN : D 7 = false := hF 1 7; have d_ : D 9 = false := hF 1 9; clear hT hF
   rw [jc, dg, dN, d_] at hI; refine N.Gives.call (f := 87) (args := #[.slice y.A p.items.length y.c]) (w' := wi) (by go_simp) ?_; have fO := hI.below rR.o (Nat.le_refl _); refine (FE.o.1 wi fO).mono ?_; rintro e w'' ⟨⟨v', rfl, hrow⟩, hb'⟩; refine ⟨_, rfl, fun x h => (by cases h), ?_⟩; show dM w.heap.size 78 [iv p.tid.node, iv p.tid.epoch, iv p.tid.seq, .slice y.A p.items.length y.c, .slice y.B p.nodes.length y.d] 3 4 (R1 wb p.items) (R2 wb p.nodes) true (D 5) (D 7) (D 9) v' (V 5) wb w''
   rw [dg, dN, d_]; exact hI.Bq (cS (Us.o wi hI.low) hrow) hb'
  ·clear hT hF hk
   exact N.gi _ ⟨fun _ => N.oi, hI⟩
  ·have e6 := (hd 3 6).trans (hk 3 _ rfl); have dN : D 7 = false := hF 1 7; have d_ : D 9 = false := hF 1 9; clear hT hF; have gX := hI
   rw [dN, d_] at gX; have x0 := Cells.cell gX.br (j := 4) rfl; exact N.gi _ ⟨fun _ => N.oi, hI⟩
  ·have e7 := (hd 4 7).trans (hk 4 _ rfl); have jc : D 2 = true := hT 1 2; have dg : D 5 = false := cP; have dN : D 7 = false := hF 1 7; have d_ : D 9 = false := hF 1 9; clear hT hF
   rw [jc, dg, dN, d_] at hI; refine N.Gives.call (f := 88) (args := #[.slice y.B p.nodes.length y.d]) (w' := wi) (by go_simp) ?_; have fO := hI.below rR.o (Nat.le_refl _); refine (FE.o.2 wi fO).mono ?_; rintro e w'' ⟨⟨v', rfl, hrow⟩, hb'⟩; refine ⟨_, rfl, fun x h => (by cases h), ?_⟩; show dM w.heap.size 78 [iv p.tid.node, iv p.tid.epoch, iv p.tid.seq, .slice y.A p.items.length y.c, .slice y.B p.nodes.length y.d] 3 4 (R1 wb p.items) (R2 wb p.nodes) (D 2) true (D 7) (D 9) (V 2) v' wb w''
   rw [jc, dN, d_]; exact hI.call2 zE.o (cS (Us.o wi hI.low) hrow) hb'
  ·clear hT hF hk
   exact N.gi _ ⟨fun _ => N.oi, hI⟩
  ·have e9 := (hd 6 9).trans (hk 6 _ rfl); have e5 : ρ (.tmp 5) = V 2 := hd 2 5; have jc : D 2 = true := hT 1 2; have dg : D 5 = true := hT 1 5; have dN : D 7 = false := cP; have d_ : D 9 = false := hF 1 9; clear hT hF
   rw [jc, dg, dN, d_] at hI; have x0 := Cells.cell hI.br (j := 3) rfl; have x1 := Cells.frozen hI.br (j := 3) (by simp); obtain ⟨z, f1, f2, _⟩ := jF (hI.r2 rfl) (hI.r5 rfl); have e5b := e5.trans f1; clear e5; exact N.Gives.skip (w' := wi.setCell ⟨w.heap.size, 3, none⟩ (V 2)) (by rw [f1]; clear f1 f2; go_simp) ⟨fun x h => (by cases h), by show dM w.heap.size 78 [iv p.tid.node, iv p.tid.epoch, iv p.tid.seq, .slice y.A p.items.length y.c, .slice y.B p.nodes.length y.d] 3 4 (R1 wb p.items) (R2 wb p.nodes) (D 2) (D 5) true (D 9) (V 2) (V 5) wb _; rw [jc, dg, d_]; exact hI.ey zE.o Bo.o⟩
  ·clear hT hF hk
   exact N.gi _ ⟨fun _ => N.oi, hI⟩
  have e10 := (hd 8 10).trans (hk 8 _ rfl); have e8 : ρ (.tmp 8) = V 5 := hd 5 8; have jc : D 2 = true := hT 1 2; have dg : D 5 = true := hT 1 5; have dN : D 7 = true := hT 1 7; have d_ : D 9 = false := cP; clear hT hF
  rw [jc, dg, dN, d_] at hI; have x0 := Cells.cell hI.br (j := 4) rfl; have x1 := Cells.frozen hI.br (j := 4) (by simp); obtain ⟨z, f1, f2, _⟩ := jF (hI.r2 rfl) (hI.r5 rfl); have e8b := e8.trans f2; clear e8; exact N.Gives.skip (w' := wi.setCell ⟨w.heap.size, 4, none⟩ (V 5)) (by rw [f2]; clear f1 f2; go_simp) ⟨fun x h => (by cases h), by show dM w.heap.size 78 [iv p.tid.node, iv p.tid.epoch, iv p.tid.seq, .slice y.A p.items.length y.c, .slice y.B p.nodes.length y.d] 3 4 (R1 wb p.items) (R2 wb p.nodes) (D 2) (D 5) (D 7) true (V 2) (V 5) wb _; rw [jc, dg, dN]; exact hI.DY zE.o Bo.o⟩
 intro V w1 hk hI
 simp only [N.aP, List.foldl_cons, List.foldl_nil, Act.put, List.setIfInBounds_toArray, List.set_cons_succ, List.set_cons_zero]; replace hI : dM w.heap.size 78 [iv p.tid.node, iv p.tid.epoch, iv p.tid.seq, .slice y.A p.items.length y.c, .slice y.B p.nodes.length y.d] 3 4 (R1 wb p.items) (R2 wb p.nodes) true true true true (V 2) (V 5) wb w1 := hI; clear hk; obtain ⟨z, e1, e2, hfr⟩ := jF (hI.r2 rfl) (hI.r5 rfl); have FD := ak hfr; have KI := ak (hI.below rR.o (Nat.le_refl _)); have hcz := hI.br; rw [e1, e2] at hcz; have Vu : Hid (Cells w1 w.heap.size 78 [iv p.tid.node, iv p.tid.epoch, iv p.tid.seq, .slice z.A p.items.length z.c, .slice z.B p.nodes.length z.d]) := ak hcz; have Vv : Hid (Cells w1 (w.heap.size + 1) 78 [iv 0, iv 0, iv 0, .slice none 0 0, .slice none 0 0]) := ak (aJ l7.o hI.low (by omega)); clear hI hfr e1 e2 hcz
 go_upto_region 2 with (fail)
 apply wp_region_lit
 refine aD rfl 78 _ rfl w.heap.size #[iv p.tid.node, iv p.tid.epoch, iv p.tid.seq, .slice z.A p.items.length z.c, .slice z.B p.nodes.length z.d] rfl rfl Vu.o Tryz.underlying78 rfl (by kernel_rfl) ?_; refine aA rfl 78 _ _ rfl (w.heap.size + 1) #[iv p.tid.node, iv p.tid.epoch, iv p.tid.seq, .slice z.A p.items.length z.c, .slice z.B p.nodes.length z.d] [iv p.tid.node, iv p.tid.epoch, iv p.tid.seq, .slice z.A p.items.length z.c, .slice z.B p.nodes.length z.d] rfl rfl rfl Vv.o rfl (by kernel_rfl) (by simp [Value.oneCell']) fun w9 hpt hov => ?_
 have bU := ak hpt; have cj := ak hov; clear hpt hov
 go_wp2_with fail
 refine bodyPost_ret (v := .agg #[iv p.tid.node, iv p.tid.epoch, iv p.tid.seq, .slice z.A p.items.length z.c, .slice z.B p.nodes.length z.d]) ?_ rfl ?_
 ·exact (g_ (p := 2) (ty := 78) (by rfl) _ bU.o _ (by rfl) Tryz.underlying78 rfl (by kernel_rfl)).trans (by rfl)
 refine ⟨⟨z, rfl, fun w2 ho => FD.o w2 ?_⟩, KI.o.trans (cj.o.below KI.o.size fun k e => by rw [e]; exact Nat.le_succ _)⟩
 exact (cj.o.mono (fun k _ e => by rw [e]; exact l7.o.lt)).trans ho fun i _ e => Nat.lt_of_lt_of_le e (Nat.le_of_lt mU.o)
set_option maxHeartbeats 1000000 in
theorem vo (p : Co) (y : Lay) (w : World) (ht : Two w p.items p.nodes y) (hl : p.items.length <= 100000 /\ p.nodes.length <= 100000) :
  Calls Tryz.prog 55 #[.agg (p.vals y).toArray] w fun e w' => (∃ z : Lay, e = .returned (.agg (p.vals z).toArray) /\ qZ w.heap.size w' p.items p.nodes z) /\ Below w.heap.size w w' := by
 obtain ⟨wb, hwb⟩ := aj ((w.alloc (.cells #[iv p.tid.node, iv p.tid.epoch, iv p.tid.seq, .slice y.A p.items.length y.c, .slice y.B p.nodes.length y.d, .bool p.over] 80)).alloc (.cells #[iv 0, iv 0, iv 0, .slice none 0 0, .slice none 0 0, .bool false] 80)); have hb1 := av w (.cells #[iv p.tid.node, iv p.tid.epoch, iv p.tid.seq, .slice y.A p.items.length y.c, .slice y.B p.nodes.length y.d, .bool p.over] 80); have hb2 : Below w.heap.size w wb := by rw [hwb]; exact hb1.alloc hb1.size _
 have hc : Cells wb w.heap.size 80 [iv p.tid.node, iv p.tid.epoch, iv p.tid.seq, .slice y.A p.items.length y.c, .slice y.B p.nodes.length y.d, .bool p.over] := by rw [hwb]; exact (aB w 80 [iv p.tid.node, iv p.tid.epoch, iv p.tid.seq, .slice y.A p.items.length y.c, .slice y.B p.nodes.length y.d, .bool p.over] _ rfl).later (av _ _)
 have hc2 : Cells wb (w.heap.size + 1) 80 [iv 0, iv 0, iv 0, .slice none 0 0, .slice none 0 0, .bool false] := by
  rw [hwb]; have h := aB (w.alloc (.cells #[iv p.tid.node, iv p.tid.epoch, iv p.tid.seq, .slice y.A p.items.length y.c, .slice y.B p.nodes.length y.d, .bool p.over] 80)) 80 [iv 0, iv 0, iv 0, .slice none 0 0, .slice none 0 0, .bool false] _ rfl; rw [World.size_alloc] at h; exact h
 have hlt : w.heap.size < wb.heap.size := hc.lt; have rR := ak hb2; have l7 := ak hc2; have FE := ak (clones ht hl); have Us : Hid (∀ wi, Only (fun k => k = w.heap.size) wb wi -> wb.heap.size <= wi.heap.size) := ak fun wi h => h.size
 have mU := ak hlt; have zE : Hid (∀ v a b, R1 wb p.items v a -> Only (fun k => k = w.heap.size) a b -> R1 wb p.items v b) := ak fun v a b h ho => aF h ho fun k hk e => by have := (h.lt k hk).1; omega
 have Bo : Hid (∀ v a b, R2 wb p.nodes v a -> Only (fun k => k = w.heap.size) a b -> R2 wb p.nodes v b) := ak fun v a b h ho => aF h ho fun k hk e => by have := (h.lt k hk).1; omega
 have HI : Hid (∀ V : Nat -> Value, dM w.heap.size 80 [iv p.tid.node, iv p.tid.epoch, iv p.tid.seq, .slice y.A p.items.length y.c, .slice y.B p.nodes.length y.d, .bool p.over] 3 4 (R1 wb p.items) (R2 wb p.nodes) false false false false (V 2) (V 5) wb wb.drew) := ak fun V => ⟨Only.of_below (Below.refl _ _).drew, hc.later (Below.refl _ _).drew, fun e => (by cases e), fun e => (by cases e)⟩
 unfold Co.vals; clear ht hl hb1 hb2 hc hc2 hlt
 go_enter Tryz.func55, Tryz.ntmps55
 go_wp2_with fail
 rw [<- hwb]; refine N.bk (by kernel_rfl) (fun i => ([some (.pointer (some ⟨w.heap.size, 3, none⟩)), some (.slice y.A p.items.length y.c), none, some (.pointer (some ⟨w.heap.size, 4, none⟩)), some (.slice y.B p.nodes.length y.d), none, some (.pointer (some ⟨w.heap.size, 3, none⟩)), none, some (.pointer (some ⟨w.heap.size, 4, none⟩)), none] : List (Option Value)).getD i none) (fun D V W => dM w.heap.size 80 [iv p.tid.node, iv p.tid.epoch, iv p.tid.seq, .slice y.A p.items.length y.c, .slice y.B p.nodes.length y.d, .bool p.over] 3 4 (R1 wb p.items) (R2 wb p.nodes) (D 2) (D 5) (D 7) (D 9) (V 2) (V 5) wb W) (fun V => [(some 3, V 0), (some 4, V 1), (some 5, V 2), (some 6, V 3), (some 7, V 4), (some 8, V 5), (some 9, V 6), (none, V 7), (some 10, V 8), (none, V 9)]) (by kernel_rfl) (by kernel_rfl) (fun V => rfl) ?_ ?_ ?_
 ·intro V
  exact HI.o V
 ·intro i o ho
  have hi : i < 10 := (Array.getElem?_eq_some_iff.1 ho).1; rcases i with _ | _ | _ | _ | _ | _ | _ | _ | _ | _ | i
  rotate_right
  ·omega
  all_goals obtain rfl := Option.some.inj ho
  all_goals intro D V ρ wi hE hI cP hT hF hs hd hk
  all_goals (have e1 : ρ (.tmp 1) = (au w.heap.size) := hs 1; have hf := hE.func)
  ·clear hT hF hk
   exact N.gi _ ⟨fun _ => N.oi, hI⟩
  ·have e3 := (hd 0 3).trans (hk 0 _ rfl); have dN : D 7 = false := hF 1 7; have d_ : D 9 = false := hF 1 9; clear hT hF; have gX := hI
   rw [dN, d_] at gX; have x0 := Cells.cell gX.br (j := 3) rfl; exact N.gi _ ⟨fun _ => N.oi, hI⟩
  ·have e4 := (hd 1 4).trans (hk 1 _ rfl); have jc : D 2 = false := cP; have dg : D 5 = false := hF 1 5; have dN : D 7 = false := hF 1 7; have d_ : D 9 = false := hF 1 9; clear hT hF
   rw [jc, dg, dN, d_] at hI; refine N.Gives.call (f := 87) (args := #[.slice y.A p.items.length y.c]) (w' := wi) (by go_simp) ?_; have fO := hI.below rR.o (Nat.le_refl _); refine (FE.o.1 wi fO).mono ?_; rintro e w'' ⟨⟨v', rfl, hrow⟩, hb'⟩; refine ⟨_, rfl, fun x h => (by cases h), ?_⟩; show dM w.heap.size 80 [iv p.tid.node, iv p.tid.epoch, iv p.tid.seq, .slice y.A p.items.length y.c, .slice y.B p.nodes.length y.d, .bool p.over] 3 4 (R1 wb p.items) (R2 wb p.nodes) true (D 5) (D 7) (D 9) v' (V 5) wb w''
   rw [dg, dN, d_]; exact hI.Bq (cS (Us.o wi hI.low) hrow) hb'
  ·clear hT hF hk
   exact N.gi _ ⟨fun _ => N.oi, hI⟩
  ·have e6 := (hd 3 6).trans (hk 3 _ rfl); have dN : D 7 = false := hF 1 7; have d_ : D 9 = false := hF 1 9; clear hT hF; have gX := hI
   rw [dN, d_] at gX; have x0 := Cells.cell gX.br (j := 4) rfl; exact N.gi _ ⟨fun _ => N.oi, hI⟩
  ·have e7 := (hd 4 7).trans (hk 4 _ rfl); have jc : D 2 = true := hT 1 2; have dg : D 5 = false := cP; have dN : D 7 = false := hF 1 7; have d_ : D 9 = false := hF 1 9; clear hT hF
   rw [jc, dg, dN, d_] at hI; refine N.Gives.call (f := 88) (args := #[.slice y.B p.nodes.length y.d]) (w' := wi) (by go_simp) ?_; have fO := hI.below rR.o (Nat.le_refl _); refine (FE.o.2 wi fO).mono ?_; rintro e w'' ⟨⟨v', rfl, hrow⟩, hb'⟩; refine ⟨_, rfl, fun x h => (by cases h), ?_⟩; show dM w.heap.size 80 [iv p.tid.node, iv p.tid.epoch, iv p.tid.seq, .slice y.A p.items.length y.c, .slice y.B p.nodes.length y.d, .bool p.over] 3 4 (R1 wb p.items) (R2 wb p.nodes) (D 2) true (D 7) (D 9) (V 2) v' wb w''
   rw [jc, dN, d_]; exact hI.call2 zE.o (cS (Us.o wi hI.low) hrow) hb'
  ·clear hT hF hk
   exact N.gi _ ⟨fun _ => N.oi, hI⟩
  ·have e9 := (hd 6 9).trans (hk 6 _ rfl); have e5 : ρ (.tmp 5) = V 2 := hd 2 5; have jc : D 2 = true := hT 1 2; have dg : D 5 = true := hT 1 5; have dN : D 7 = false := cP; have d_ : D 9 = false := hF 1 9; clear hT hF
   rw [jc, dg, dN, d_] at hI; have x0 := Cells.cell hI.br (j := 3) rfl; have x1 := Cells.frozen hI.br (j := 3) (by simp); obtain ⟨z, f1, f2, _⟩ := jF (hI.r2 rfl) (hI.r5 rfl); have e5b := e5.trans f1; clear e5; exact N.Gives.skip (w' := wi.setCell ⟨w.heap.size, 3, none⟩ (V 2)) (by rw [f1]; clear f1 f2; go_simp) ⟨fun x h => (by cases h), by show dM w.heap.size 80 [iv p.tid.node, iv p.tid.epoch, iv p.tid.seq, .slice y.A p.items.length y.c, .slice y.B p.nodes.length y.d, .bool p.over] 3 4 (R1 wb p.items) (R2 wb p.nodes) (D 2) (D 5) true (D 9) (V 2) (V 5) wb _; rw [jc, dg, d_]; exact hI.ey zE.o Bo.o⟩
  ·clear hT hF hk
   exact N.gi _ ⟨fun _ => N.oi, hI⟩
  have e10 := (hd 8 10).trans (hk 8 _ rfl); have e8 : ρ (.tmp 8) = V 5 := hd 5 8; have jc : D 2 = true := hT 1 2; have dg : D 5 = true := hT 1 5; have dN : D 7 = true := hT 1 7; have d_ : D 9 = false := cP; clear hT hF
  rw [jc, dg, dN, d_] at hI; have x0 := Cells.cell hI.br (j := 4) rfl; have x1 := Cells.frozen hI.br (j := 4) (by simp); obtain ⟨z, f1, f2, _⟩ := jF (hI.r2 rfl) (hI.r5 rfl); have e8b := e8.trans f2; clear e8; exact N.Gives.skip (w' := wi.setCell ⟨w.heap.size, 4, none⟩ (V 5)) (by rw [f2]; clear f1 f2; go_simp) ⟨fun x h => (by cases h), by show dM w.heap.size 80 [iv p.tid.node, iv p.tid.epoch, iv p.tid.seq, .slice y.A p.items.length y.c, .slice y.B p.nodes.length y.d, .bool p.over] 3 4 (R1 wb p.items) (R2 wb p.nodes) (D 2) (D 5) (D 7) true (V 2) (V 5) wb _; rw [jc, dg, dN]; exact hI.DY zE.o Bo.o⟩
 intro V w1 hk hI
 simp only [N.aP, List.foldl_cons, List.foldl_nil, Act.put, List.setIfInBounds_toArray, List.set_cons_succ, List.set_cons_zero]; replace hI : dM w.heap.size 80 [iv p.tid.node, iv p.tid.epoch, iv p.tid.seq, .slice y.A p.items.length y.c, .slice y.B p.nodes.length y.d, .bool p.over] 3 4 (R1 wb p.items) (R2 wb p.nodes) true true true true (V 2) (V 5) wb w1 := hI; clear hk; obtain ⟨z, e1, e2, hfr⟩ := jF (hI.r2 rfl) (hI.r5 rfl); have FD := ak hfr; have KI := ak (hI.below rR.o (Nat.le_refl _)); have hcz := hI.br; rw [e1, e2] at hcz; have Vu : Hid (Cells w1 w.heap.size 80 [iv p.tid.node, iv p.tid.epoch, iv p.tid.seq, .slice z.A p.items.length z.c, .slice z.B p.nodes.length z.d, .bool p.over]) := ak hcz; have Vv : Hid (Cells w1 (w.heap.size + 1) 80 [iv 0, iv 0, iv 0, .slice none 0 0, .slice none 0 0, .bool false]) := ak (aJ l7.o hI.low (by omega)); clear hI hfr e1 e2 hcz
 go_upto_region 2 with (fail)
 apply wp_region_lit
 refine aD rfl 80 _ rfl w.heap.size #[iv p.tid.node, iv p.tid.epoch, iv p.tid.seq, .slice z.A p.items.length z.c, .slice z.B p.nodes.length z.d, .bool p.over] rfl rfl Vu.o Tryz.underlying80 rfl (by kernel_rfl) ?_; refine aA rfl 80 _ _ rfl (w.heap.size + 1) #[iv p.tid.node, iv p.tid.epoch, iv p.tid.seq, .slice z.A p.items.length z.c, .slice z.B p.nodes.length z.d, .bool p.over] [iv p.tid.node, iv p.tid.epoch, iv p.tid.seq, .slice z.A p.items.length z.c, .slice z.B p.nodes.length z.d, .bool p.over] rfl rfl rfl Vv.o rfl (by kernel_rfl) (by simp [Value.oneCell']) fun w9 hpt hov => ?_
 have bU := ak hpt; have cj := ak hov; clear hpt hov
 go_wp2_with fail
 refine bodyPost_ret (v := .agg #[iv p.tid.node, iv p.tid.epoch, iv p.tid.seq, .slice z.A p.items.length z.c, .slice z.B p.nodes.length z.d, .bool p.over]) ?_ rfl ?_
 ·exact (g_ (p := 2) (ty := 80) (by rfl) _ bU.o _ (by rfl) Tryz.underlying80 rfl (by kernel_rfl)).trans (by rfl)
 refine ⟨⟨z, rfl, fun w2 ho => FD.o w2 ?_⟩, KI.o.trans (cj.o.below KI.o.size fun k e => by rw [e]; exact Nat.le_succ _)⟩
 exact (cj.o.mono (fun k _ e => by rw [e]; exact l7.o.lt)).trans ho fun i _ e => Nat.lt_of_lt_of_le e (Nat.le_of_lt mU.o)
