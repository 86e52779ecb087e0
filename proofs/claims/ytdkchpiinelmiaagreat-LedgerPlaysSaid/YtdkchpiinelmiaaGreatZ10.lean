/- Part 10 of the proof. Conditions: none. -/
import Derived.Test.YtdkchpiinelmiaaGreatZ9
namespace Go.Proofs.YtdkchpiinelmiaaGreat.Led
set_option maxRecDepth 100000
open Go.RowKit Go.Deep Mem fN Rec
def RP (s : St) (B : Nat) : Value -> World -> Prop := fun v w => w.ownsRow B 66 5 v s.places.length (s.places.map Pl.vals).flatten
def RD (s : St) (B : Nat) (v2 : Value) : Value -> World -> Prop := fun v w => ∃ B', B <= B' /\ w.ownsRow B' 79 4 v s.dec.length (s.dec.map De.vals).flatten /\ ∀ k, v2.ownBlock = some k -> k < B'
def RQ (s : St) (B : Nat) : Value -> World -> Prop := bX B s.ay
def RC (s : St) (B : Nat) (v2 : Value) : Value -> World -> Prop := fun v w => ∃ B', B <= B' /\ cZ B' s.com v w /\ (∀ k, v2.ownBlock = some k -> k < B') /\ ∃ zs : List Lay, zs.length = s.ay.length /\ w.ownsRow B 78 5 v2 s.ay.length (List.zipWith Pr.vals s.ay zs).flatten /\
 ∀ k (h : k < s.ay.length) (h' : k < zs.length), Fr (fun j => (some j = v2.ownBlock \/ j < B) \/ B' <= j) w s.ay[k].items s.ay[k].nodes zs[k]
theorem bD {w : World} {B n sz : Nat} {eT : TypeId} {v : Value} {xs : List Value} (h : w.ownsRow B eT sz v n xs) : ∃ A c, v = .slice A n c := by
 rcases h.2 with ⟨h1, h2⟩ | ⟨g, cap, cur, h1, _⟩
 ·exact ⟨none, 0, by rw [h1, h2]⟩
 exact ⟨_, _, h1⟩
theorem G7 {s : St} {B : Nat} {v : Value} {w : World} (h : RP s B v w) : ∃ A n c, v = .slice A n c := by obtain ⟨A, c, e⟩ := bD h; exact ⟨A, _, c, e⟩
theorem G_ {s : St} {B : Nat} {v2 v : Value} {w : World} (h : RD s B v2 v w) : ∃ A n c, v = .slice A n c := by obtain ⟨B', _, h, _⟩ := h; obtain ⟨A, c, e⟩ := bD h; exact ⟨A, _, c, e⟩
theorem tR {s : St} {B : Nat} {v : Value} {w : World} (h : RQ s B v w) : ∃ A n c, v = .slice A n c := by obtain ⟨zs, _, h, _⟩ := h; obtain ⟨A, c, e⟩ := bD h; exact ⟨A, _, c, e⟩
theorem uL {s : St} {B : Nat} {v2 v : Value} {w : World} (h : RC s B v2 v w) : ∃ A n c, v = .slice A n c := by obtain ⟨B', _, ⟨zs, _, h, _⟩, _⟩ := h; obtain ⟨A, c, e⟩ := bD h; exact ⟨A, _, c, e⟩
theorem bX.low {B g : Nat} {l : List Pr} {v : Value} {a b : World} (h : bX B l v a) (ho : Only (fun k => k = g) a b) (hg : g < B) : bX B l v b := by
 obtain ⟨zs, hz, hrow, hin⟩ := h; refine ⟨zs, hz, aF hrow ho fun k hk e => ?_, fun k h1 h2 => (hin k h1 h2).next (ho.mono fun j _ e => Or.inr (by omega)) fun _ e => Or.inl e⟩; have := (hrow.lt k hk).1
 omega
theorem cZ.low {B g : Nat} {l : List Co} {v : Value} {a b : World} (h : cZ B l v a) (ho : Only (fun k => k = g) a b) (hg : g < B) : cZ B l v b := by
 obtain ⟨zs, hz, hrow, hin⟩ := h; refine ⟨zs, hz, aF hrow ho fun k hk e => ?_, fun k h1 h2 => (hin k h1 h2).next (ho.mono fun j _ e => Or.inr (by omega)) fun _ e => Or.inl e⟩; have := (hrow.lt k hk).1
 omega
theorem RC.low {s : St} {B g : Nat} {v2 v : Value} {a b : World} (h : RC s B v2 v a) (ho : Only (fun k => k = g) a b) (hg : g < B) : RC s B v2 v b := by
 obtain ⟨B', h1, h2, h3, zs, h4, h5, h6⟩ := h; refine ⟨B', h1, h2.low ho (by omega), h3, zs, h4, aF h5 ho fun k hk e => ?_, fun k i1 i2 => (h6 k i1 i2).next (ho.mono fun j _ e => Or.inl (Or.inr (by omega))) fun _ e => Or.inl e⟩; have := (h5.lt k hk).1
 omega
theorem RC.make {s : St} {B : Nat} {v2 v : Value} {a b : World} (h : RQ s B v2 a) (hB : B <= a.heap.size) (hc : cZ a.heap.size s.com v b) (hb : Below a.heap.size a b) : RC s B v2 v b := by
 obtain ⟨zs, h4, h5, h6⟩ := h; exact ⟨a.heap.size, hB, hc, fun k hk => (h5.lt k hk).2, zs, h4, aF h5 (Only.of_below (S := fun _ => False) hb) fun _ _ e => e, fun k i1 i2 => ((h6 k i1 i2).next (Only.refl _ _) fun j e => e).later hb⟩
theorem bX.up {B B' : Nat} {l : List Pr} {v : Value} {w : World} (h : bX B' l v w) (hb : B <= B') : bX B l v w := by
 obtain ⟨zs, hz, hrow, hin⟩ := h; exact ⟨zs, hz, cS hb hrow, fun k h1 h2 => (hin k h1 h2).next (Only.refl _ _) fun j e => Or.inl (e.imp_right fun h => by omega)⟩
theorem Lists.weak {S S' : Nat -> Prop} {B B' : Nat} {w : World} {s : St} {y : Sy} (h : Lists S B w s y) (hB : B' <= B) (hS : ∀ k, S' k -> S k) : Lists S' B' w s y :=
 ⟨cS hB h.rowP, cS hB h.jk, cS hB h.jv, cS hB h.jw, h.ps, h.cs, fun k h1 h2 => (h.pin k h1 h2).next (Only.refl _ _) fun j e => Or.inl (e.imp_left (hS j)), fun k h1 h2 => (h.cin k h1 h2).next (Only.refl _ _) fun j e => Or.inl (e.imp_left (hS j)), h.PQ, h.PD, h.PC, h.QD, h.QC, h.DC⟩
structure Small (s : St) : Prop where
 places : s.places.length <= 100000
 ay : s.ay.length <= 100000
 dec : s.dec.length <= 100000
 com : s.com.length <= 100000
 pin : ∀ p ∈ s.ay, p.items.length <= 100000 /\ p.nodes.length <= 100000
 cin : ∀ p ∈ s.com, p.items.length <= 100000 /\ p.nodes.length <= 100000
theorem iK {s : St} {y : Sy} {w : World} (h : cL w s y) (hs : Small s) (B : Nat) :
  (∀ wi, B <= wi.heap.size -> Below w.heap.size w wi -> Calls Tryz.prog 50 #[.slice y.P s.places.length y.p] wi fun e w' => (∃ v, e = .returned v /\ RP s B v w') /\ Below wi.heap.size wi w') /\
  (∀ wi, B <= wi.heap.size -> Below w.heap.size w wi -> Calls Tryz.prog 51 #[.slice y.D s.dec.length y.d] wi fun e w' => (∃ v, e = .returned v /\ w'.ownsRow wi.heap.size 79 4 v s.dec.length (s.dec.map De.vals).flatten) /\ Below wi.heap.size wi w') /\
  (∀ wi, B <= wi.heap.size -> Below w.heap.size w wi -> Calls Tryz.prog 52 #[.slice y.Q s.ay.length y.q, .func (.func 53) #[] #[]] wi fun e w' => (∃ v, e = .returned v /\ RQ s B v w') /\ Below wi.heap.size wi w') /\
  (∀ wi, B <= wi.heap.size -> Below w.heap.size w wi -> Calls Tryz.prog 54 #[.slice y.C s.com.length y.c, .func (.func 55) #[] #[]] wi fun e w' => (∃ v, e = .returned v /\ cZ wi.heap.size s.com v w') /\ Below wi.heap.size wi w') := by
 refine ⟨fun wi hB hb => ?_, fun wi hB hb => ?_, fun wi hB hb => ?_, fun wi hB hb => ?_⟩
 ·have h1 := ze y.P (s.places.map Pl.vals) y.p wi (h.places.later hb) (aU _) h.JA (by rw [List.length_map]; exact hs.places)
  rw [List.length_map] at h1; refine h1.mono ?_; rintro e w' ⟨⟨v, rfl, hr⟩, hb'⟩; exact ⟨⟨v, rfl, cS hB hr⟩, hb'⟩
 ·have h1 := E_ y.D (s.dec.map De.vals) y.d wi (h.dec.later hb) (fG _) h.JB (by rw [List.length_map]; exact hs.dec)
  rw [List.length_map] at h1; refine h1.mono ?_; rintro e w' ⟨⟨v, rfl, hr⟩, hb'⟩; exact ⟨⟨v, rfl, hr⟩, hb'⟩
 ·refine (yY y.Q s.ay y.ps y.q wi (h.ay.later hb) h.ps hs.ay (fun k h1 h2 => (h.pin k h1 h2).later hb) hs.pin).mono ?_
  rintro e w' ⟨⟨v, rfl, hr⟩, hb'⟩; exact ⟨⟨v, rfl, bX.up hr hB⟩, hb'⟩
 refine (AX y.C s.com y.cs y.c wi (h.com.later hb) h.cs hs.com (fun k h1 h2 => (h.cin k h1 h2).later hb) hs.cin).mono ?_
 rintro e w' ⟨⟨v, rfl, hr⟩, hb'⟩; exact ⟨⟨v, rfl, hr⟩, hb'⟩
set_option maxHeartbeats 4000000 in
theorem za (s : St) (y : Sy) (w : World) (h : cL w s y) (hs : Small s) :
  Calls Tryz.prog 29 #[s.val y] w fun e w' => (∃ z : Sy, e = .returned (s.val z) /\ Lists (fun k => k < w.heap.size) w.heap.size w' s z) /\ Below w.heap.size w w' := by
 obtain ⟨wb, hwb⟩ := aj ((w.alloc (.cells #[iv s.node, iv s.nodes, iv s.cells, iv s.epoch, .slice y.P s.places.length y.p, .slice y.Q s.ay.length y.q, .slice y.D s.dec.length y.d, .slice y.C s.com.length y.c] 32)).alloc (.cells #[iv 0, iv 0, iv 0, iv 0, .slice none 0 0, .slice none 0 0, .slice none 0 0, .slice none 0 0] 32)); have hb1 := av w (.cells #[iv s.node, iv s.nodes, iv s.cells, iv s.epoch, .slice y.P s.places.length y.p, .slice y.Q s.ay.length y.q, .slice y.D s.dec.length y.d, .slice y.C s.com.length y.c] 32); have hb2 : Below w.heap.size w wb := by rw [hwb]; exact hb1.alloc hb1.size _
 have hc : Cells wb w.heap.size 32 (s.vl y) := by rw [hwb]; exact (aB w 32 (s.vl y) _ rfl).later (av _ _)
 have hc2 : Cells wb (w.heap.size + 1) 32 ZL := by
  rw [hwb]; have h := aB (w.alloc (.cells #[iv s.node, iv s.nodes, iv s.cells, iv s.epoch, .slice y.P s.places.length y.p, .slice y.Q s.ay.length y.q, .slice y.D s.dec.length y.d, .slice y.C s.com.length y.c] 32)) 32 ZL _ rfl; rw [World.size_alloc] at h; exact h
 have hlt : w.heap.size < wb.heap.size := hc.lt; have rR := ak hb2; have l7 := ak hc2; have mU := ak hlt; have Wx : Hid (w.heap.size + 1 < wb.heap.size) := ak hc2.lt; have FE : Hid ((∀ wi, Only (fun k => k = w.heap.size) wb wi -> Calls Tryz.prog 50 #[.slice y.P s.places.length y.p] wi fun e w' => (∃ v, e = .returned v /\ RP s wb.heap.size v w') /\ Below wi.heap.size wi w') /\
   (∀ wi, Only (fun k => k = w.heap.size) wb wi -> Calls Tryz.prog 51 #[.slice y.D s.dec.length y.d] wi fun e w' => (∃ v, e = .returned v /\ w'.ownsRow wi.heap.size 79 4 v s.dec.length (s.dec.map De.vals).flatten) /\ Below wi.heap.size wi w')) :=
  ak ⟨fun wi ho => (iK h hs wb.heap.size).1 wi ho.size (hb2.trans (ho.below hb2.size fun k e => by rw [e]; exact Nat.le_refl _)), fun wi ho => (iK h hs wb.heap.size).2.1 wi ho.size (hb2.trans (ho.below hb2.size fun k e => by rw [e]; exact Nat.le_refl _))⟩
 have HCM : Hid (∀ w1, Only (fun k => k = w.heap.size) wb w1 -> (∀ wi, Only (fun k => k = w.heap.size) w1 wi -> Calls Tryz.prog 52 #[.slice y.Q s.ay.length y.q, .func (.func 53) #[] #[]] wi fun e w' => (∃ v, e = .returned v /\ RQ s w1.heap.size v w') /\ Below wi.heap.size wi w') /\
   (∀ wi, Only (fun k => k = w.heap.size) w1 wi -> Calls Tryz.prog 54 #[.slice y.C s.com.length y.c, .func (.func 55) #[] #[]] wi fun e w' => (∃ v, e = .returned v /\ cZ wi.heap.size s.com v w') /\ Below wi.heap.size wi w')) :=
  ak fun w1 h1 => ⟨fun wi ho => (iK h hs w1.heap.size).2.2.1 wi ho.size (hb2.trans ((h1.trans ho fun _ _ e => e).below hb2.size fun k e => by rw [e]; exact Nat.le_refl _)), fun wi ho => (iK h hs w1.heap.size).2.2.2 wi ho.size (hb2.trans ((h1.trans ho fun _ _ e => e).below hb2.size fun k e => by rw [e]; exact Nat.le_refl _))⟩
 have zE : Hid (∀ v a b, RP s wb.heap.size v a -> Only (fun k => k = w.heap.size) a b -> RP s wb.heap.size v b) := ak fun v a b h ho => aF h ho fun k hk e => by have := (h.lt k hk).1; omega
 have Bo : Hid (∀ v2 v a b, RD s wb.heap.size v2 v a -> Only (fun k => k = w.heap.size) a b -> RD s wb.heap.size v2 v b) := ak fun v2 v a b h ho => by
  obtain ⟨B', h1, h2, h3⟩ := h; exact ⟨B', h1, aF h2 ho fun k hk e => by have := (h2.lt k hk).1; omega, h3⟩
 have HI : Hid (∀ V : Nat -> Value, dM w.heap.size 32 (s.vl y) 4 6 (RP s wb.heap.size) (RD s wb.heap.size (V 2)) false false false false (V 2) (V 5) wb wb.drew) := ak fun V => ⟨Only.of_below (Below.refl _ _).drew, hc.later (Below.refl _ _).drew, fun e => (by cases e), fun e => (by cases e)⟩
 unfold St.val; clear h hs hb1 hb2 hc hc2 hlt
 go_enter Tryz.func29, Tryz.ntmps29
 go_wp2_with fail
 rw [<- hwb]; clear hwb; refine N.bk (by kernel_rfl) (fun i => ([some (.pointer (some ⟨w.heap.size, 4, none⟩)), some (.slice y.P s.places.length y.p), none, some (.pointer (some ⟨w.heap.size, 6, none⟩)), some (.slice y.D s.dec.length y.d), none, some (.pointer (some ⟨w.heap.size, 4, none⟩)), none, some (.pointer (some ⟨w.heap.size, 6, none⟩)), none] : List (Option Value)).getD i none) (fun D V W => dM w.heap.size 32 (s.vl y) 4 6 (RP s wb.heap.size) (RD s wb.heap.size (V 2)) (D 2) (D 5) (D 7) (D 9) (V 2) (V 5) wb W) (fun V => [(some 3, V 0), (some 4, V 1), (some 5, V 2), (some 6, V 3), (some 7, V 4), (some 8, V 5), (some 9, V 6), (none, V 7), (some 10, V 8), (none, V 9)]) (by kernel_rfl) (by kernel_rfl) (fun V => rfl) ?_ ?_ ?_
 ·intro V
  exact HI.o V
 ·intro i o ho
  have hi : i < 10 := (Array.getElem?_eq_some_iff.1 ho).1; rcases i with _ | _ | _ | _ | _ | _ | _ | _ | _ | _ | i
  rotate_right
  ·omega
  all_goals obtain rfl := Option.some.inj ho
  all_goals intro D V ρ wi hE hI cP hT hF hs hd hk
  all_goals (have e1 : ρ (.tmp 1) = (au w.heap.size) := hs 1; have hf := hE.func)
  ·clear hT hF hk
   exact N.gi _ ⟨fun _ => N.oi, hI⟩
  ·have e3 := (hd 0 3).trans (hk 0 _ rfl); have dN : D 7 = false := hF 1 7; have d_ : D 9 = false := hF 1 9; clear hT hF; have gX := hI
   rw [dN, d_] at gX; have x0 := Cells.cell gX.br (j := 4) rfl; exact N.gi _ ⟨fun _ => N.oi, hI⟩
  ·have e4 := (hd 1 4).trans (hk 1 _ rfl); have jc : D 2 = false := cP; have dg : D 5 = false := hF 1 5; have dN : D 7 = false := hF 1 7; have d_ : D 9 = false := hF 1 9; clear hT hF
   rw [jc, dg, dN, d_] at hI; refine N.Gives.call (f := 50) (args := #[.slice y.P s.places.length y.p]) (w' := wi) (by go_simp) ?_; refine (FE.o.1 wi hI.low).mono ?_; rintro e w'' ⟨⟨v', rfl, hrow⟩, hb'⟩; refine ⟨_, rfl, fun x h => (by cases h), ?_⟩; show dM w.heap.size 32 (s.vl y) 4 6 (RP s wb.heap.size) (RD s wb.heap.size v') true (D 5) (D 7) (D 9) v' (V 5) wb w''
   rw [dg, dN, d_]; exact hI.Bq hrow hb'
  ·clear hT hF hk
   exact N.gi _ ⟨fun _ => N.oi, hI⟩
  ·have e6 := (hd 3 6).trans (hk 3 _ rfl); have dN : D 7 = false := hF 1 7; have d_ : D 9 = false := hF 1 9; clear hT hF; have gX := hI
   rw [dN, d_] at gX; have x0 := Cells.cell gX.br (j := 6) rfl; exact N.gi _ ⟨fun _ => N.oi, hI⟩
  ·have e7 := (hd 4 7).trans (hk 4 _ rfl); have jc : D 2 = true := hT 1 2; have dg : D 5 = false := cP; have dN : D 7 = false := hF 1 7; have d_ : D 9 = false := hF 1 9; clear hT hF
   rw [jc, dg, dN, d_] at hI; refine N.Gives.call (f := 51) (args := #[.slice y.D s.dec.length y.d]) (w' := wi) (by go_simp) ?_; refine (FE.o.2 wi hI.low).mono ?_; rintro e w'' ⟨⟨v', rfl, hrow⟩, hb'⟩; refine ⟨_, rfl, fun x h => (by cases h), ?_⟩; show dM w.heap.size 32 (s.vl y) 4 6 (RP s wb.heap.size) (RD s wb.heap.size (V 2)) (D 2) true (D 7) (D 9) (V 2) v' wb w''
   rw [jc, dN, d_]; exact hI.call2 zE.o ⟨wi.heap.size, hI.low.size, hrow, fun k hk => (World.ownsRow.lt (hI.r2 rfl) k hk).2⟩ hb'
  ·clear hT hF hk
   exact N.gi _ ⟨fun _ => N.oi, hI⟩
  ·have e9 := (hd 6 9).trans (hk 6 _ rfl); have e5 : ρ (.tmp 5) = V 2 := hd 2 5; have jc : D 2 = true := hT 1 2; have dg : D 5 = true := hT 1 5; have dN : D 7 = false := cP; have d_ : D 9 = false := hF 1 9; clear hT hF
   rw [jc, dg, dN, d_] at hI; have x0 := Cells.cell hI.br (j := 4) rfl; have x1 := Cells.frozen hI.br (j := 4) (by simp); obtain ⟨A9, n9, c9, f1⟩ := G7 (hI.r2 rfl); have e5b := e5.trans f1; clear e5; exact N.Gives.skip (w' := wi.setCell ⟨w.heap.size, 4, none⟩ (V 2)) (by rw [f1]; clear f1; go_simp) ⟨fun x h => (by cases h), by show dM w.heap.size 32 (s.vl y) 4 6 (RP s wb.heap.size) (RD s wb.heap.size (V 2)) (D 2) (D 5) true (D 9) (V 2) (V 5) wb _; rw [jc, dg, d_]; exact hI.ey zE.o (Bo.o (V 2))⟩
  ·clear hT hF hk
   exact N.gi _ ⟨fun _ => N.oi, hI⟩
  have e10 := (hd 8 10).trans (hk 8 _ rfl); have e8 : ρ (.tmp 8) = V 5 := hd 5 8; have jc : D 2 = true := hT 1 2; have dg : D 5 = true := hT 1 5; have dN : D 7 = true := hT 1 7; have d_ : D 9 = false := cP; clear hT hF
  rw [jc, dg, dN, d_] at hI; have x0 := Cells.cell hI.br (j := 6) rfl; have x1 := Cells.frozen hI.br (j := 6) (by simp); obtain ⟨A9, n9, c9, f1⟩ := G_ (hI.r5 rfl); have e8b := e8.trans f1; clear e8; exact N.Gives.skip (w' := wi.setCell ⟨w.heap.size, 6, none⟩ (V 5)) (by rw [f1]; clear f1; go_simp) ⟨fun x h => (by cases h), by show dM w.heap.size 32 (s.vl y) 4 6 (RP s wb.heap.size) (RD s wb.heap.size (V 2)) (D 2) (D 5) (D 7) true (V 2) (V 5) wb _; rw [jc, dg, dN]; exact hI.DY zE.o (Bo.o (V 2))⟩
 intro V wc hk hI
 simp only [N.aP, List.foldl_cons, List.foldl_nil, Act.put, List.setIfInBounds_toArray, List.set_cons_succ, List.set_cons_zero]; replace hI : dM w.heap.size 32 (s.vl y) 4 6 (RP s wb.heap.size) (RD s wb.heap.size (V 2)) true true true true (V 2) (V 5) wb wc := hI; clear hk; obtain ⟨P, p, e1⟩ := bD (hI.r2 rfl); obtain ⟨BD, Zo, SJ, VP⟩ := hI.r5 rfl; obtain ⟨D, d, e2⟩ := bD SJ; have YF := ak (hI.r2 rfl); have Xy := ak (hI.r5 rfl); have cV := hI.br; obtain ⟨va, UK⟩ := ah (V 2); obtain ⟨vb, hvb⟩ := ah (V 5); rw [UK] at YF e1; rw [hvb] at Xy e2; rw [UK, hvb] at cV; rw [UK] at Xy; have HPD : Hid (∀ k, blk P = some k -> blk D ≠ some k) := ak fun k e e' => by
  have h1 := VP k (by rw [UK, e1, aK]; exact e); have h2 := (SJ.lt k (by rw [hvb, e2, aK]; exact e')).1
  omega
 have wX := ak (hI.below rR.o (Nat.le_refl _)); have HLC := ak hI.low; have HEA := ak e1; have HEB := ak e2; have WG := ak (HCM.o wc hI.low); have Wy := ak (Nat.lt_of_lt_of_le mU.o hI.low.size); have YD : Hid (∀ v a b, RQ s wc.heap.size v a -> Only (fun k => k = w.heap.size) a b -> RQ s wc.heap.size v b) := ak fun v a b h ho => bX.low h ho Wy.o
 have HS4 : Hid (∀ v2 v a b, RC s wc.heap.size v2 v a -> Only (fun k => k = w.heap.size) a b -> RC s wc.heap.size v2 v b) := ak fun v2 v a b h ho => RC.low h ho Wy.o
 have HI2 : Hid (∀ V : Nat -> Value, dM w.heap.size 32 [iv s.node, iv s.nodes, iv s.cells, iv s.epoch, va, .slice y.Q s.ay.length y.q, vb, .slice y.C s.com.length y.c] 5 7 (RQ s wc.heap.size) (RC s wc.heap.size (V 2)) false false false false (V 2) (V 5) wc wc.drew) := ak fun V => ⟨Only.of_below (Below.refl _ _).drew, Cells.later cV (Below.refl _ _).drew, fun e => (by cases e), fun e => (by cases e)⟩
 clear hI cV e1 e2 FE HI HCM UK hvb Zo VP SJ
 go_upto_region 2 with (fail)
 refine N.bk (by kernel_rfl) (fun i => ([some (.pointer (some ⟨w.heap.size, 5, none⟩)), some (.slice y.Q s.ay.length y.q), none, some (.pointer (some ⟨w.heap.size, 7, none⟩)), some (.slice y.C s.com.length y.c), none, some (.pointer (some ⟨w.heap.size, 5, none⟩)), none, some (.pointer (some ⟨w.heap.size, 7, none⟩)), none] : List (Option Value)).getD i none) (fun D V W => dM w.heap.size 32 [iv s.node, iv s.nodes, iv s.cells, iv s.epoch, va, .slice y.Q s.ay.length y.q, vb, .slice y.C s.com.length y.c] 5 7 (RQ s wc.heap.size) (RC s wc.heap.size (V 2)) (D 2) (D 5) (D 7) (D 9) (V 2) (V 5) wc W) (fun V => [(some 11, V 0), (some 12, V 1), (some 13, V 2), (some 14, V 3), (some 15, V 4), (some 16, V 5), (some 17, V 6), (none, V 7), (some 18, V 8), (none, V 9)]) (by kernel_rfl) (by kernel_rfl) (fun V => rfl) ?_ ?_ ?_
 ·intro V
  exact HI2.o V
 ·intro i o ho
  have hi : i < 10 := (Array.getElem?_eq_some_iff.1 ho).1; rcases i with _ | _ | _ | _ | _ | _ | _ | _ | _ | _ | i
  rotate_right
  ·omega
  all_goals obtain rfl := Option.some.inj ho
  all_goals intro D V ρ wi hE hI cP hT hF hs hd hk
  all_goals (have e1 : ρ (.tmp 1) = (au w.heap.size) := hs 1; have hf := hE.func)
  ·clear hT hF hk
   exact N.gi _ ⟨fun _ => N.oi, hI⟩
  ·have e11 := (hd 0 11).trans (hk 0 _ rfl); have dN : D 7 = false := hF 1 7; have d_ : D 9 = false := hF 1 9; clear hT hF; have gX := hI
   rw [dN, d_] at gX; have x0 := Cells.cell gX.br (j := 5) rfl; exact N.gi _ ⟨fun _ => N.oi, hI⟩
  ·have e12 := (hd 1 12).trans (hk 1 _ rfl); have jc : D 2 = false := cP; have dg : D 5 = false := hF 1 5; have dN : D 7 = false := hF 1 7; have d_ : D 9 = false := hF 1 9; clear hT hF
   rw [jc, dg, dN, d_] at hI; refine N.Gives.call (f := 52) (args := #[.slice y.Q s.ay.length y.q, .func (.func 53) #[] #[]]) (w' := wi) (by go_simp) ?_; refine (WG.o.1 wi hI.low).mono ?_; rintro e w'' ⟨⟨v', rfl, hrow⟩, hb'⟩; refine ⟨_, rfl, fun x h => (by cases h), ?_⟩; show dM w.heap.size 32 [iv s.node, iv s.nodes, iv s.cells, iv s.epoch, va, .slice y.Q s.ay.length y.q, vb, .slice y.C s.com.length y.c] 5 7 (RQ s wc.heap.size) (RC s wc.heap.size v') true (D 5) (D 7) (D 9) v' (V 5) wc w''
   rw [dg, dN, d_]; exact hI.Bq hrow hb'
  ·clear hT hF hk
   exact N.gi _ ⟨fun _ => N.oi, hI⟩
  ·have mZ := (hd 3 14).trans (hk 3 _ rfl); have dN : D 7 = false := hF 1 7; have d_ : D 9 = false := hF 1 9; clear hT hF; have gX := hI
   rw [dN, d_] at gX; have x0 := Cells.cell gX.br (j := 7) rfl; exact N.gi _ ⟨fun _ => N.oi, hI⟩
  ·have mY := (hd 4 15).trans (hk 4 _ rfl); have jc : D 2 = true := hT 1 2; have dg : D 5 = false := cP; have dN : D 7 = false := hF 1 7; have d_ : D 9 = false := hF 1 9; clear hT hF
   rw [jc, dg, dN, d_] at hI; refine N.Gives.call (f := 54) (args := #[.slice y.C s.com.length y.c, .func (.func 55) #[] #[]]) (w' := wi) (by go_simp) ?_; refine (WG.o.2 wi hI.low).mono ?_; rintro e w'' ⟨⟨v', rfl, hrow⟩, hb'⟩; refine ⟨_, rfl, fun x h => (by cases h), ?_⟩; show dM w.heap.size 32 [iv s.node, iv s.nodes, iv s.cells, iv s.epoch, va, .slice y.Q s.ay.length y.q, vb, .slice y.C s.com.length y.c] 5 7 (RQ s wc.heap.size) (RC s wc.heap.size (V 2)) (D 2) true (D 7) (D 9) (V 2) v' wc w''
   rw [jc, dN, d_]; exact hI.call2 YD.o (RC.make (hI.r2 rfl) hI.low.size hrow hb') hb'
  ·clear hT hF hk
   exact N.gi _ ⟨fun _ => N.oi, hI⟩
  ·have e17 := (hd 6 17).trans (hk 6 _ rfl); have l5 : ρ (.tmp 13) = V 2 := hd 2 13; have jc : D 2 = true := hT 1 2; have dg : D 5 = true := hT 1 5; have dN : D 7 = false := cP; have d_ : D 9 = false := hF 1 9; clear hT hF
   rw [jc, dg, dN, d_] at hI; have x0 := Cells.cell hI.br (j := 5) rfl; have x1 := Cells.frozen hI.br (j := 5) (by simp); obtain ⟨A9, n9, c9, f1⟩ := tR (hI.r2 rfl); have afF := l5.trans f1; clear l5; exact N.Gives.skip (w' := wi.setCell ⟨w.heap.size, 5, none⟩ (V 2)) (by rw [f1]; clear f1; go_simp) ⟨fun x h => (by cases h), by show dM w.heap.size 32 [iv s.node, iv s.nodes, iv s.cells, iv s.epoch, va, .slice y.Q s.ay.length y.q, vb, .slice y.C s.com.length y.c] 5 7 (RQ s wc.heap.size) (RC s wc.heap.size (V 2)) (D 2) (D 5) true (D 9) (V 2) (V 5) wc _; rw [jc, dg, d_]; exact hI.ey YD.o (HS4.o (V 2))⟩
  ·clear hT hF hk
   exact N.gi _ ⟨fun _ => N.oi, hI⟩
  have e18 := (hd 8 18).trans (hk 8 _ rfl); have e16 : ρ (.tmp 16) = V 5 := hd 5 16; have jc : D 2 = true := hT 1 2; have dg : D 5 = true := hT 1 5; have dN : D 7 = true := hT 1 7; have d_ : D 9 = false := cP; clear hT hF
  rw [jc, dg, dN, d_] at hI; have x0 := Cells.cell hI.br (j := 7) rfl; have x1 := Cells.frozen hI.br (j := 7) (by simp); obtain ⟨A9, n9, c9, f1⟩ := uL (hI.r5 rfl); have afs := e16.trans f1; clear e16; exact N.Gives.skip (w' := wi.setCell ⟨w.heap.size, 7, none⟩ (V 5)) (by rw [f1]; clear f1; go_simp) ⟨fun x h => (by cases h), by show dM w.heap.size 32 [iv s.node, iv s.nodes, iv s.cells, iv s.epoch, va, .slice y.Q s.ay.length y.q, vb, .slice y.C s.com.length y.c] 5 7 (RQ s wc.heap.size) (RC s wc.heap.size (V 2)) (D 2) (D 5) (D 7) true (V 2) (V 5) wc _; rw [jc, dg, dN]; exact hI.DY YD.o (HS4.o (V 2))⟩
 intro V wd hk hI
 simp only [N.aP, List.foldl_cons, List.foldl_nil, Act.put, List.setIfInBounds_toArray, List.set_cons_succ, List.set_cons_zero]; replace hI : dM w.heap.size 32 [iv s.node, iv s.nodes, iv s.cells, iv s.epoch, va, .slice y.Q s.ay.length y.q, vb, .slice y.C s.com.length y.c] 5 7 (RQ s wc.heap.size) (RC s wc.heap.size (V 2)) true true true true (V 2) (V 5) wc wd := hI; clear hk; obtain ⟨B', hB', ⟨zc, hzc, hrc, hic⟩, hv2, zq, hzq, UM, hiq⟩ := hI.r5 rfl; obtain ⟨Q, q, e3⟩ := bD UM; obtain ⟨C, c, e4⟩ := bD hrc; have cV := hI.br; have Xe := zE.o _ _ _ YF.o hI.low; obtain ⟨BD', Zp, hrd, _⟩ := Bo.o _ _ _ _ Xy.o hI.low; have DB : ∀ k, blk P = some k -> wb.heap.size <= k /\ k < wc.heap.size := fun k hk => YF.o.lt k (by rw [HEA.o, aK]; exact hk)
 have UU : ∀ k, blk D = some k -> wb.heap.size <= k /\ k < wc.heap.size := fun k hk => by
  obtain ⟨B9, h9, h8, _⟩ := Xy.o; have := h8.lt k (by rw [HEB.o, aK]; exact hk)
  omega
 have Kv : ∀ k, blk Q = some k -> wc.heap.size <= k /\ k < B' := fun k hk => ⟨(UM.lt k (by rw [e3, aK]; exact hk)).1, hv2 k (by rw [e3, aK]; exact hk)⟩
 have hlc : ∀ k, blk C = some k -> B' <= k := fun k hk => (hrc.lt k (by rw [e4, aK]; exact hk)).1
 unfold RP at Xe; rw [HEA.o] at Xe cV; rw [HEB.o] at hrd cV; rw [e3] at UM cV; rw [e4] at hrc cV; have hw1 := rR.o.size; have hw2 := wX.o.size; have hw3 := HLC.o.size; have hlists : Lists (fun k => k < wb.heap.size) wb.heap.size wd s ⟨P, p, Q, q, D, d, C, c, zq, zc⟩ := by
  refine ⟨Xe, cS (by omega) UM, cS Zp hrd, cS (by omega) hrc, hzq, hzc, fun k h1 h2 => (hiq k h1 h2).next (Only.refl _ _) fun j e => Or.inl ?_, fun k h1 h2 => (hic k h1 h2).next (Only.refl _ _) fun j e => Or.inl ?_, ?_, ?_, ?_, ?_, ?_, ?_⟩
  ·rw [e3, aK]
   rcases e with e | e | e | e | e
   ·exact Or.inl (Or.inr (by omega))
   ·exact Or.inl (Or.inr (DB j e.symm).2)
   ·exact Or.inl (Or.inl e)
   ·exact Or.inl (Or.inr (UU j e.symm).2)
   exact Or.inr (hlc j e.symm)
  ·rw [e4, aK]
   rcases e with e | e | e | e | e
   ·exact Or.inr (by omega)
   ·exact Or.inr (by have := (DB j e.symm).2; omega)
   ·exact Or.inr (Kv j e.symm).2
   ·exact Or.inr (by have := (UU j e.symm).2; omega)
   exact Or.inl e
  ·intro k e e'; have := (DB k e).2; have := (Kv k e').1; omega
  ·intro k e e'; exact HPD.o k e e'
  ·intro k e e'; have := (DB k e).2; have := hlc k e'; omega
  ·intro k e e'; have := (UU k e').2; have := (Kv k e).1; omega
  ·intro k e e'; have := (Kv k e).2; have := hlc k e'; omega
  intro k e e'; have := (UU k e).2; have := hlc k e'; omega
 have G0 := ak hlists; have KI := ak (wX.o.trans (hI.below (Below.refl w.heap.size wc) hw2)); have Vu : Hid (Cells wd w.heap.size 32 [iv s.node, iv s.nodes, iv s.cells, iv s.epoch, .slice P s.places.length p, .slice Q s.ay.length q, .slice D s.dec.length d, .slice C s.com.length c]) := ak cV; have Vv : Hid (Cells wd (w.heap.size + 1) 32 ZL) := ak (aJ l7.o (HLC.o.trans hI.low fun _ _ e => e) (by omega)); clear hI hlists cV Xe hrd UM hrc hiq hic DB UU Kv hlc e3 e4 hv2
 go_upto_region 3 with (fail)
 apply wp_region_lit
 refine aD rfl 32 _ rfl w.heap.size #[iv s.node, iv s.nodes, iv s.cells, iv s.epoch, .slice P s.places.length p, .slice Q s.ay.length q, .slice D s.dec.length d, .slice C s.com.length c] rfl rfl Vu.o Tryz.underlying32 rfl (by kernel_rfl) ?_; refine aA rfl 32 _ _ rfl (w.heap.size + 1) #[iv s.node, iv s.nodes, iv s.cells, iv s.epoch, .slice P s.places.length p, .slice Q s.ay.length q, .slice D s.dec.length d, .slice C s.com.length c] [iv s.node, iv s.nodes, iv s.cells, iv s.epoch, .slice P s.places.length p, .slice Q s.ay.length q, .slice D s.dec.length d, .slice C s.com.length c] rfl rfl rfl Vv.o rfl (by kernel_rfl) (by simp [Value.oneCell']) fun w9 hpt hov => ?_
 have bU := ak hpt; have cj := ak hov; clear hpt hov
 go_wp2_with fail
 refine bodyPost_ret (v := .agg #[iv s.node, iv s.nodes, iv s.cells, iv s.epoch, .slice P s.places.length p, .slice Q s.ay.length q, .slice D s.dec.length d, .slice C s.com.length c]) ?_ rfl ?_
 ·exact (g_ (p := 2) (ty := 32) (by rfl) _ bU.o _ (by rfl) Tryz.underlying32 rfl (by kernel_rfl)).trans (by rfl)
 refine ⟨⟨⟨P, p, Q, q, D, d, C, c, zq, zc⟩, rfl, ?_⟩, KI.o.trans (cj.o.below KI.o.size fun k e => by rw [e]; exact Nat.le_succ _)⟩
 have h9 := G0.o.only cj.o (fun k _ e => by have := l7.o.lt; have := Wx.o; omega) (fun k hk e => by have := (G0.o.lt hk).1; have := Wx.o; omega)
 exact h9.weak rR.o.size fun k hk => Nat.lt_of_lt_of_le hk rR.o.size
