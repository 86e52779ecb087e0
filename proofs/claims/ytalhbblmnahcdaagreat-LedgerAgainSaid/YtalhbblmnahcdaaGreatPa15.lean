/-
  Layer 8: a state cloned.
  Conditions: none.
-/
import Derived.Test.YtalhbblmnahcdaaGreatPa14
namespace Go.Proofs.YtalhbblmnahcdaaGreat.Led
set_option maxRecDepth 100000
open Go.RowKit Go.Deep Go.Proofs.YtalhbblmnahcdaaGreat.Mem Go.Proofs.YtalhbblmnahcdaaGreat.Item Go.Proofs.YtalhbblmnahcdaaGreat.Rec
def RP (s : St) (B : Nat) : Value → World → Prop := fun v w => w.ownsRow B 74 5 v s.places.length (s.places.map Pl.vals).flatten
def RD (s : St) (B : Nat) (v2 : Value) : Value → World → Prop := fun v w => ∃ B', B ≤ B' ∧ w.ownsRow B' 87 4 v s.dec.length (s.dec.map De.vals).flatten ∧ ∀ k, v2.ownBlock = some k → k < B'
def RQ (s : St) (B : Nat) : Value → World → Prop := Cop_prep B s.prep
/-- Clones of commits, made behind those of what is prepared. -/
def RC (s : St) (B : Nat) (v2 : Value) : Value → World → Prop := fun v w => ∃ B', B ≤ B' ∧ Cop_com B' s.com v w ∧ (∀ k, v2.ownBlock = some k → k < B') ∧ ∃ zs : List Lay, zs.length = s.prep.length ∧ w.ownsRow B 86 5 v2 s.prep.length (List.zipWith Pr.vals s.prep zs).flatten ∧
 ∀ k (h : k < s.prep.length) (h' : k < zs.length), Fr (fun j => (some j = v2.ownBlock ∨ j < B) ∨ B' ≤ j) w s.prep[k].items s.prep[k].nodes zs[k]
theorem row_slice {w : World} {B n sz : Nat} {eT : TypeId} {v : Value} {xs : List Value} (h : w.ownsRow B eT sz v n xs) : ∃ A c, v = .slice A n c := by
 rcases h.2 with ⟨h1, h2⟩ | ⟨g, cap, cur, h1, _⟩
 ·exact ⟨none, 0, by rw [h1, h2]⟩
 ·exact ⟨_, _, h1⟩
theorem rp_slice {s : St} {B : Nat} {v : Value} {w : World} (h : RP s B v w) : ∃ A n c, v = .slice A n c := by obtain ⟨A, c, e⟩ := row_slice h; exact ⟨A, _, c, e⟩
theorem rd_slice {s : St} {B : Nat} {v2 v : Value} {w : World} (h : RD s B v2 v w) : ∃ A n c, v = .slice A n c := by obtain ⟨B', _, h, _⟩ := h; obtain ⟨A, c, e⟩ := row_slice h; exact ⟨A, _, c, e⟩
theorem cop_prep_slice {s : St} {B : Nat} {v : Value} {w : World} (h : RQ s B v w) : ∃ A n c, v = .slice A n c := by obtain ⟨zs, _, h, _⟩ := h; obtain ⟨A, c, e⟩ := row_slice h; exact ⟨A, _, c, e⟩
theorem cop_com_slice {s : St} {B : Nat} {v2 v : Value} {w : World} (h : RC s B v2 v w) : ∃ A n c, v = .slice A n c := by obtain ⟨B', _, ⟨zs, _, h, _⟩, _⟩ := h; obtain ⟨A, c, e⟩ := row_slice h; exact ⟨A, _, c, e⟩
theorem Cop_prep.low {B g : Nat} {l : List Pr} {v : Value} {a b : World} (h : Cop_prep B l v a) (ho : Only (fun k => k = g) a b) (hg : g < B) : Cop_prep B l v b := by
 obtain ⟨zs, hz, hrow, hin⟩ := h
 refine ⟨zs, hz, row_only hrow ho fun k hk e => ?_, fun k h1 h2 => (hin k h1 h2).next (ho.mono fun j _ e => Or.inr (by omega)) fun _ e => Or.inl e⟩
 have := (hrow.lt k hk).1
 omega
theorem Cop_com.low {B g : Nat} {l : List Co} {v : Value} {a b : World} (h : Cop_com B l v a) (ho : Only (fun k => k = g) a b) (hg : g < B) : Cop_com B l v b := by
 obtain ⟨zs, hz, hrow, hin⟩ := h
 refine ⟨zs, hz, row_only hrow ho fun k hk e => ?_, fun k h1 h2 => (hin k h1 h2).next (ho.mono fun j _ e => Or.inr (by omega)) fun _ e => Or.inl e⟩
 have := (hrow.lt k hk).1
 omega
theorem RC.low {s : St} {B g : Nat} {v2 v : Value} {a b : World} (h : RC s B v2 v a) (ho : Only (fun k => k = g) a b) (hg : g < B) : RC s B v2 v b := by
 obtain ⟨B', h1, h2, h3, zs, h4, h5, h6⟩ := h
 refine ⟨B', h1, h2.low ho (by omega), h3, zs, h4, row_only h5 ho fun k hk e => ?_, fun k i1 i2 => (h6 k i1 i2).next (ho.mono fun j _ e => Or.inl (Or.inr (by omega))) fun _ e => Or.inl e⟩
 have := (h5.lt k hk).1
 omega
theorem RC.make {s : St} {B : Nat} {v2 v : Value} {a b : World} (h : RQ s B v2 a) (hB : B ≤ a.heap.size) (hc : Cop_com a.heap.size s.com v b) (hb : Below a.heap.size a b) : RC s B v2 v b := by
 obtain ⟨zs, h4, h5, h6⟩ := h
 exact ⟨a.heap.size, hB, hc, fun k hk => (h5.lt k hk).2, zs, h4, row_only h5 (Only.of_below (S := fun _ => False) hb) fun _ _ e => e, fun k i1 i2 => ((h6 k i1 i2).next (Only.refl _ _) fun j e => e).later hb⟩
theorem Cop_prep.up {B B' : Nat} {l : List Pr} {v : Value} {w : World} (h : Cop_prep B' l v w) (hb : B ≤ B') : Cop_prep B l v w := by
 obtain ⟨zs, hz, hrow, hin⟩ := h
 exact ⟨zs, hz, own_up hb hrow, fun k h1 h2 => (hin k h1 h2).next (Only.refl _ _) fun j e => Or.inl (e.imp_right fun h => by omega)⟩
theorem Cop_com.up {B B' : Nat} {l : List Co} {v : Value} {w : World} (h : Cop_com B' l v w) (hb : B ≤ B') : Cop_com B l v w := by
 obtain ⟨zs, hz, hrow, hin⟩ := h
 exact ⟨zs, hz, own_up hb hrow, fun k h1 h2 => (hin k h1 h2).next (Only.refl _ _) fun j e => Or.inl (e.imp_right fun h => by omega)⟩
theorem Lists.weak {S S' : Nat → Prop} {B B' : Nat} {w : World} {s : St} {y : Sy} (h : Lists S B w s y) (hB : B' ≤ B) (hS : ∀ k, S' k → S k) : Lists S' B' w s y :=
 ⟨own_up hB h.rowP, own_up hB h.rowQ, own_up hB h.rowD, own_up hB h.rowC, h.ps, h.cs, fun k h1 h2 => (h.pin k h1 h2).next (Only.refl _ _) fun j e => Or.inl (e.imp_left (hS j)), fun k h1 h2 => (h.cin k h1 h2).next (Only.refl _ _) fun j e => Or.inl (e.imp_left (hS j)), h.PQ, h.PD, h.PC, h.QD, h.QC, h.DC⟩
/-- How large a state's lists may be. -/
structure Small (s : St) : Prop where
 places : s.places.length ≤ 100000
 prep : s.prep.length ≤ 100000
 dec : s.dec.length ≤ 100000
 com : s.com.length ≤ 100000
 pin : ∀ p ∈ s.prep, p.items.length ≤ 100000 ∧ p.nodes.length ≤ 100000
 cin : ∀ p ∈ s.com, p.items.length ≤ 100000 ∧ p.nodes.length ≤ 100000
theorem state_clones {s : St} {y : Sy} {w : World} (h : Sees w s y) (hs : Small s) (B : Nat) :
  (∀ wi, B ≤ wi.heap.size → Below w.heap.size w wi → Calls Tryz.prog 59 #[.slice y.P s.places.length y.p] wi fun e w' => (∃ v, e = .returned v ∧ RP s B v w') ∧ Below wi.heap.size wi w') ∧
  (∀ wi, B ≤ wi.heap.size → Below w.heap.size w wi → Calls Tryz.prog 60 #[.slice y.D s.dec.length y.d] wi fun e w' => (∃ v, e = .returned v ∧ w'.ownsRow wi.heap.size 87 4 v s.dec.length (s.dec.map De.vals).flatten) ∧ Below wi.heap.size wi w') ∧
  (∀ wi, B ≤ wi.heap.size → Below w.heap.size w wi → Calls Tryz.prog 61 #[.slice y.Q s.prep.length y.q, .func (.func 62) #[] #[]] wi fun e w' => (∃ v, e = .returned v ∧ RQ s B v w') ∧ Below wi.heap.size wi w') ∧
  (∀ wi, B ≤ wi.heap.size → Below w.heap.size w wi → Calls Tryz.prog 63 #[.slice y.C s.com.length y.c, .func (.func 64) #[] #[]] wi fun e w' => (∃ v, e = .returned v ∧ Cop_com wi.heap.size s.com v w') ∧ Below wi.heap.size wi w') := by
 refine ⟨fun wi hB hb => ?_, fun wi hB hb => ?_, fun wi hB hb => ?_, fun wi hB hb => ?_⟩
 ·have h1 := clone_place y.P (s.places.map Pl.vals) y.p wi (h.places.later hb) (fit_places _) h.capP (by rw [List.length_map]; exact hs.places)
  rw [List.length_map] at h1
  refine h1.mono ?_
  rintro e w' ⟨⟨v, rfl, hr⟩, hb'⟩
  exact ⟨⟨v, rfl, own_up hB hr⟩, hb'⟩
 ·have h1 := clone_dec y.D (s.dec.map De.vals) y.d wi (h.dec.later hb) (fit_dec _) h.capD (by rw [List.length_map]; exact hs.dec)
  rw [List.length_map] at h1
  refine h1.mono ?_
  rintro e w' ⟨⟨v, rfl, hr⟩, hb'⟩
  exact ⟨⟨v, rfl, hr⟩, hb'⟩
 ·refine (copies_prep y.Q s.prep y.ps y.q wi (h.prep.later hb) h.ps hs.prep (fun k h1 h2 => (h.pin k h1 h2).later hb) hs.pin).mono ?_
  rintro e w' ⟨⟨v, rfl, hr⟩, hb'⟩
  exact ⟨⟨v, rfl, Cop_prep.up hr hB⟩, hb'⟩
 ·refine (copies_com y.C s.com y.cs y.c wi (h.com.later hb) h.cs hs.com (fun k h1 h2 => (h.cin k h1 h2).later hb) hs.cin).mono ?_
  rintro e w' ⟨⟨v, rfl, hr⟩, hb'⟩
  exact ⟨⟨v, rfl, hr⟩, hb'⟩
set_option maxHeartbeats 4000000 in
theorem clone_state (s : St) (y : Sy) (w : World) (h : Sees w s y) (hs : Small s) :
  Calls Tryz.prog 35 #[s.val y] w fun e w' => (∃ z : Sy, e = .returned (s.val z) ∧ Lists (fun k => k < w.heap.size) w.heap.size w' s z) ∧ Below w.heap.size w w' := by
 obtain ⟨wb, hwb⟩ : ∃ v, v = (w.alloc (.cells #[.int .i64 s.node, .int .i64 s.nodes, .int .i64 s.cells, .int .i64 s.epoch, .slice y.P s.places.length y.p, .slice y.Q s.prep.length y.q, .slice y.D s.dec.length y.d, .slice y.C s.com.length y.c] 32)).alloc (.cells #[.int .i64 0, .int .i64 0, .int .i64 0, .int .i64 0, .slice none 0 0, .slice none 0 0, .slice none 0 0, .slice none 0 0] 32) := ⟨_, rfl⟩
 have hb1 := below_alloc w (.cells #[.int .i64 s.node, .int .i64 s.nodes, .int .i64 s.cells, .int .i64 s.epoch, .slice y.P s.places.length y.p, .slice y.Q s.prep.length y.q, .slice y.D s.dec.length y.d, .slice y.C s.com.length y.c] 32)
 have hb2 : Below w.heap.size w wb := by rw [hwb]; exact hb1.alloc hb1.size _
 have hc : Cells wb w.heap.size 32 [.int .i64 s.node, .int .i64 s.nodes, .int .i64 s.cells, .int .i64 s.epoch, .slice y.P s.places.length y.p, .slice y.Q s.prep.length y.q, .slice y.D s.dec.length y.d, .slice y.C s.com.length y.c] := by rw [hwb]; exact (cells_new w 32 [.int .i64 s.node, .int .i64 s.nodes, .int .i64 s.cells, .int .i64 s.epoch, .slice y.P s.places.length y.p, .slice y.Q s.prep.length y.q, .slice y.D s.dec.length y.d, .slice y.C s.com.length y.c] _ rfl).later (below_alloc _ _)
 have hc2 : Cells wb (w.heap.size + 1) 32 [.int .i64 0, .int .i64 0, .int .i64 0, .int .i64 0, .slice none 0 0, .slice none 0 0, .slice none 0 0, .slice none 0 0] := by
  rw [hwb]
  have h := cells_new (w.alloc (.cells #[.int .i64 s.node, .int .i64 s.nodes, .int .i64 s.cells, .int .i64 s.epoch, .slice y.P s.places.length y.p, .slice y.Q s.prep.length y.q, .slice y.D s.dec.length y.d, .slice y.C s.com.length y.c] 32)) 32 [.int .i64 0, .int .i64 0, .int .i64 0, .int .i64 0, .slice none 0 0, .slice none 0 0, .slice none 0 0, .slice none 0 0] _ rfl
  rw [World.size_alloc] at h
  exact h
 have hlt : w.heap.size < wb.heap.size := hc.lt
 have HBW := Lib.hid hb2
 have HC2 := Lib.hid hc2
 have HLT := Lib.hid hlt
 have HLT9 : Hid (w.heap.size + 1 < wb.heap.size) := Lib.hid hc2.lt
 have HCL : Hid ((∀ wi, Only (fun k => k = w.heap.size) wb wi → Calls Tryz.prog 59 #[.slice y.P s.places.length y.p] wi fun e w' => (∃ v, e = .returned v ∧ RP s wb.heap.size v w') ∧ Below wi.heap.size wi w') ∧
   (∀ wi, Only (fun k => k = w.heap.size) wb wi → Calls Tryz.prog 60 #[.slice y.D s.dec.length y.d] wi fun e w' => (∃ v, e = .returned v ∧ w'.ownsRow wi.heap.size 87 4 v s.dec.length (s.dec.map De.vals).flatten) ∧ Below wi.heap.size wi w')) :=
  Lib.hid ⟨fun wi ho => (state_clones h hs wb.heap.size).1 wi ho.size (hb2.trans (ho.below hb2.size fun k e => by rw [e]; exact Nat.le_refl _)), fun wi ho => (state_clones h hs wb.heap.size).2.1 wi ho.size (hb2.trans (ho.below hb2.size fun k e => by rw [e]; exact Nat.le_refl _))⟩
 have HCM : Hid (∀ w1, Only (fun k => k = w.heap.size) wb w1 → (∀ wi, Only (fun k => k = w.heap.size) w1 wi → Calls Tryz.prog 61 #[.slice y.Q s.prep.length y.q, .func (.func 62) #[] #[]] wi fun e w' => (∃ v, e = .returned v ∧ RQ s w1.heap.size v w') ∧ Below wi.heap.size wi w') ∧
   (∀ wi, Only (fun k => k = w.heap.size) w1 wi → Calls Tryz.prog 63 #[.slice y.C s.com.length y.c, .func (.func 64) #[] #[]] wi fun e w' => (∃ v, e = .returned v ∧ Cop_com wi.heap.size s.com v w') ∧ Below wi.heap.size wi w')) :=
  Lib.hid fun w1 h1 => ⟨fun wi ho => (state_clones h hs w1.heap.size).2.2.1 wi ho.size (hb2.trans ((h1.trans ho fun _ _ e => e).below hb2.size fun k e => by rw [e]; exact Nat.le_refl _)), fun wi ho => (state_clones h hs w1.heap.size).2.2.2 wi ho.size (hb2.trans ((h1.trans ho fun _ _ e => e).below hb2.size fun k e => by rw [e]; exact Nat.le_refl _))⟩
 have HS1 : Hid (∀ v a b, RP s wb.heap.size v a → Only (fun k => k = w.heap.size) a b → RP s wb.heap.size v b) := Lib.hid fun v a b h ho => row_only h ho fun k hk e => by have := (h.lt k hk).1; omega
 have HS2 : Hid (∀ v2 v a b, RD s wb.heap.size v2 v a → Only (fun k => k = w.heap.size) a b → RD s wb.heap.size v2 v b) := Lib.hid fun v2 v a b h ho => by
  obtain ⟨B', h1, h2, h3⟩ := h
  exact ⟨B', h1, row_only h2 ho fun k hk e => by have := (h2.lt k hk).1; omega, h3⟩
 have HI : Hid (∀ V : Nat → Value, twSt w.heap.size 32 [.int .i64 s.node, .int .i64 s.nodes, .int .i64 s.cells, .int .i64 s.epoch, .slice y.P s.places.length y.p, .slice y.Q s.prep.length y.q, .slice y.D s.dec.length y.d, .slice y.C s.com.length y.c] 4 6 (RP s wb.heap.size) (RD s wb.heap.size (V 2)) false false false false (V 2) (V 5) wb wb.drew) := Lib.hid fun V => ⟨Only.of_below (Below.refl _ _).drew, hc.later (Below.refl _ _).drew, fun e => (by cases e), fun e => (by cases e)⟩
 unfold St.val
 clear h hs hb1 hb2 hc hc2 hlt
 go_enter Tryz.func35, Tryz.ntmps35
 go_wp2_with fail
 rw [← hwb]
 clear hwb
 refine Reg.region_inv (by kernel_rfl) (fun i => ([some (.pointer (some ⟨w.heap.size, 4, none⟩)), some (.slice y.P s.places.length y.p), none, some (.pointer (some ⟨w.heap.size, 6, none⟩)), some (.slice y.D s.dec.length y.d), none, some (.pointer (some ⟨w.heap.size, 4, none⟩)), none, some (.pointer (some ⟨w.heap.size, 6, none⟩)), none] : List (Option Value)).getD i none) (fun D V W => twSt w.heap.size 32 [.int .i64 s.node, .int .i64 s.nodes, .int .i64 s.cells, .int .i64 s.epoch, .slice y.P s.places.length y.p, .slice y.Q s.prep.length y.q, .slice y.D s.dec.length y.d, .slice y.C s.com.length y.c] 4 6 (RP s wb.heap.size) (RD s wb.heap.size (V 2)) (D 2) (D 5) (D 7) (D 9) (V 2) (V 5) wb W) (fun V => [(some 3, V 0), (some 4, V 1), (some 5, V 2), (some 6, V 3), (some 7, V 4), (some 8, V 5), (some 9, V 6), (none, V 7), (some 10, V 8), (none, V 9)]) (by kernel_rfl) (by kernel_rfl) (fun V => rfl) ?_ ?_ ?_
 ·intro V
  exact HI.out V
 ·intro i o ho
  have hi : i < 10 := (Array.getElem?_eq_some_iff.1 ho).1
  rcases i with _ | _ | _ | _ | _ | _ | _ | _ | _ | _ | i
  rotate_right
  ·omega
  all_goals obtain rfl := Option.some.inj ho
  all_goals intro D V ρ wi hE hI hDi hT hF hs hd hk
  ·have e1 : ρ (.tmp 1) = .pointer (some ⟨w.heap.size, 0, none⟩) := hs 1; clear hT hF hk
   exact Reg.Gives.value (v := .pointer (some ⟨w.heap.size, 4, none⟩)) (w' := wi) (by go_simp) ⟨fun x h => Option.some.inj h, hI⟩
  ·have e3 : ρ (.tmp 3) = .pointer (some ⟨w.heap.size, 4, none⟩) := (hd 0 3).trans (hk 0 _ rfl); have hD7 : D 7 = false := hF 1 7; have hD9 : D 9 = false := hF 1 9; clear hT hF; have hI0 := hI
   rw [hD7, hD9] at hI0
   have x0 := Cells.cell hI0.cel (j := 4) rfl
   exact Reg.Gives.value (v := .slice y.P s.places.length y.p) (w' := wi) (by go_simp) ⟨fun x h => Option.some.inj h, hI⟩
  ·have e4 : ρ (.tmp 4) = .slice y.P s.places.length y.p := (hd 1 4).trans (hk 1 _ rfl); have hf := hE.func; have hD2 : D 2 = false := hDi; have hD5 : D 5 = false := hF 1 5; have hD7 : D 7 = false := hF 1 7; have hD9 : D 9 = false := hF 1 9; clear hT hF
   rw [hD2, hD5, hD7, hD9] at hI
   refine Reg.Gives.call (f := 59) (args := #[.slice y.P s.places.length y.p]) (w' := wi) (by go_simp) ?_
   refine (HCL.out.1 wi hI.low).mono ?_
   rintro e w'' ⟨⟨v', rfl, hrow⟩, hb'⟩
   refine ⟨_, rfl, fun x h => (by cases h), ?_⟩
   show twSt w.heap.size 32 [.int .i64 s.node, .int .i64 s.nodes, .int .i64 s.cells, .int .i64 s.epoch, .slice y.P s.places.length y.p, .slice y.Q s.prep.length y.q, .slice y.D s.dec.length y.d, .slice y.C s.com.length y.c] 4 6 (RP s wb.heap.size) (RD s wb.heap.size v') true (D 5) (D 7) (D 9) v' (V 5) wb w''
   rw [hD5, hD7, hD9]
   exact hI.call1 hrow hb'
  ·have e1 : ρ (.tmp 1) = .pointer (some ⟨w.heap.size, 0, none⟩) := hs 1; clear hT hF hk
   exact Reg.Gives.value (v := .pointer (some ⟨w.heap.size, 6, none⟩)) (w' := wi) (by go_simp) ⟨fun x h => Option.some.inj h, hI⟩
  ·have e6 : ρ (.tmp 6) = .pointer (some ⟨w.heap.size, 6, none⟩) := (hd 3 6).trans (hk 3 _ rfl); have hD7 : D 7 = false := hF 1 7; have hD9 : D 9 = false := hF 1 9; clear hT hF; have hI0 := hI
   rw [hD7, hD9] at hI0
   have x0 := Cells.cell hI0.cel (j := 6) rfl
   exact Reg.Gives.value (v := .slice y.D s.dec.length y.d) (w' := wi) (by go_simp) ⟨fun x h => Option.some.inj h, hI⟩
  ·have e7 : ρ (.tmp 7) = .slice y.D s.dec.length y.d := (hd 4 7).trans (hk 4 _ rfl); have hf := hE.func; have hD2 : D 2 = true := hT 1 2; have hD5 : D 5 = false := hDi; have hD7 : D 7 = false := hF 1 7; have hD9 : D 9 = false := hF 1 9; clear hT hF
   rw [hD2, hD5, hD7, hD9] at hI
   refine Reg.Gives.call (f := 60) (args := #[.slice y.D s.dec.length y.d]) (w' := wi) (by go_simp) ?_
   refine (HCL.out.2 wi hI.low).mono ?_
   rintro e w'' ⟨⟨v', rfl, hrow⟩, hb'⟩
   refine ⟨_, rfl, fun x h => (by cases h), ?_⟩
   show twSt w.heap.size 32 [.int .i64 s.node, .int .i64 s.nodes, .int .i64 s.cells, .int .i64 s.epoch, .slice y.P s.places.length y.p, .slice y.Q s.prep.length y.q, .slice y.D s.dec.length y.d, .slice y.C s.com.length y.c] 4 6 (RP s wb.heap.size) (RD s wb.heap.size (V 2)) (D 2) true (D 7) (D 9) (V 2) v' wb w''
   rw [hD2, hD7, hD9]
   exact hI.call2 HS1.out ⟨wi.heap.size, hI.low.size, hrow, fun k hk => (World.ownsRow.lt (hI.r2 rfl) k hk).2⟩ hb'
  ·have e1 : ρ (.tmp 1) = .pointer (some ⟨w.heap.size, 0, none⟩) := hs 1; clear hT hF hk
   exact Reg.Gives.value (v := .pointer (some ⟨w.heap.size, 4, none⟩)) (w' := wi) (by go_simp) ⟨fun x h => Option.some.inj h, hI⟩
  ·have e9 : ρ (.tmp 9) = .pointer (some ⟨w.heap.size, 4, none⟩) := (hd 6 9).trans (hk 6 _ rfl); have e5 : ρ (.tmp 5) = V 2 := hd 2 5; have hD2 : D 2 = true := hT 1 2; have hD5 : D 5 = true := hT 1 5; have hD7 : D 7 = false := hDi; have hD9 : D 9 = false := hF 1 9; clear hT hF
   rw [hD2, hD5, hD7, hD9] at hI
   have x0 := Cells.cell hI.cel (j := 4) rfl
   have x1 := Cells.frozen hI.cel (j := 4) (by simp)
   obtain ⟨A9, n9, c9, f1⟩ := rp_slice (hI.r2 rfl); have e5b := e5.trans f1; clear e5
   exact Reg.Gives.skip (w' := wi.setCell ⟨w.heap.size, 4, none⟩ (V 2)) (by rw [f1]; clear f1; go_simp) ⟨fun x h => (by cases h), by show twSt w.heap.size 32 [.int .i64 s.node, .int .i64 s.nodes, .int .i64 s.cells, .int .i64 s.epoch, .slice y.P s.places.length y.p, .slice y.Q s.prep.length y.q, .slice y.D s.dec.length y.d, .slice y.C s.com.length y.c] 4 6 (RP s wb.heap.size) (RD s wb.heap.size (V 2)) (D 2) (D 5) true (D 9) (V 2) (V 5) wb _; rw [hD2, hD5, hD9]; exact hI.put1 HS1.out (HS2.out (V 2))⟩
  ·have e1 : ρ (.tmp 1) = .pointer (some ⟨w.heap.size, 0, none⟩) := hs 1; clear hT hF hk
   exact Reg.Gives.value (v := .pointer (some ⟨w.heap.size, 6, none⟩)) (w' := wi) (by go_simp) ⟨fun x h => Option.some.inj h, hI⟩
  ·have e10 : ρ (.tmp 10) = .pointer (some ⟨w.heap.size, 6, none⟩) := (hd 8 10).trans (hk 8 _ rfl); have e8 : ρ (.tmp 8) = V 5 := hd 5 8; have hD2 : D 2 = true := hT 1 2; have hD5 : D 5 = true := hT 1 5; have hD7 : D 7 = true := hT 1 7; have hD9 : D 9 = false := hDi; clear hT hF
   rw [hD2, hD5, hD7, hD9] at hI
   have x0 := Cells.cell hI.cel (j := 6) rfl
   have x1 := Cells.frozen hI.cel (j := 6) (by simp)
   obtain ⟨A9, n9, c9, f1⟩ := rd_slice (hI.r5 rfl); have e8b := e8.trans f1; clear e8
   exact Reg.Gives.skip (w' := wi.setCell ⟨w.heap.size, 6, none⟩ (V 5)) (by rw [f1]; clear f1; go_simp) ⟨fun x h => (by cases h), by show twSt w.heap.size 32 [.int .i64 s.node, .int .i64 s.nodes, .int .i64 s.cells, .int .i64 s.epoch, .slice y.P s.places.length y.p, .slice y.Q s.prep.length y.q, .slice y.D s.dec.length y.d, .slice y.C s.com.length y.c] 4 6 (RP s wb.heap.size) (RD s wb.heap.size (V 2)) (D 2) (D 5) (D 7) true (V 2) (V 5) wb _; rw [hD2, hD5, hD7]; exact hI.put2 HS1.out (HS2.out (V 2))⟩
 ·intro V wc hk hI
  simp only [Reg.putsO, List.foldl_cons, List.foldl_nil, Act.put, List.setIfInBounds_toArray, List.set_cons_succ, List.set_cons_zero]
  replace hI : twSt w.heap.size 32 [.int .i64 s.node, .int .i64 s.nodes, .int .i64 s.cells, .int .i64 s.epoch, .slice y.P s.places.length y.p, .slice y.Q s.prep.length y.q, .slice y.D s.dec.length y.d, .slice y.C s.com.length y.c] 4 6 (RP s wb.heap.size) (RD s wb.heap.size (V 2)) true true true true (V 2) (V 5) wb wc := hI
  clear hk
  obtain ⟨P, p, e1⟩ := row_slice (hI.r2 rfl)
  obtain ⟨BD, hBD1, hrd0, hBD2⟩ := hI.r5 rfl
  obtain ⟨D, d, e2⟩ := row_slice hrd0
  have HRP := Lib.hid (hI.r2 rfl)
  have HRD := Lib.hid (hI.r5 rfl)
  have hcel := hI.cel
  obtain ⟨va, hva⟩ : ∃ x, V 2 = x := ⟨_, rfl⟩
  obtain ⟨vb, hvb⟩ : ∃ x, V 5 = x := ⟨_, rfl⟩
  rw [hva] at HRP e1
  rw [hvb] at HRD e2
  rw [hva, hvb] at hcel
  rw [hva] at HRD
  have HPD : Hid (∀ k, blk P = some k → blk D ≠ some k) := Lib.hid fun k e e' => by
   have h1 := hBD2 k (by rw [hva, e1, own_blk]; exact e)
   have h2 := (hrd0.lt k (by rw [hvb, e2, own_blk]; exact e')).1
   omega
  have HBC := Lib.hid (hI.below HBW.out (Nat.le_refl _))
  have HLC := Lib.hid hI.low
  have HEA := Lib.hid e1
  have HEB := Lib.hid e2
  have HCL2 := Lib.hid (HCM.out wc hI.low)
  have HLT2 := Lib.hid (Nat.lt_of_lt_of_le HLT.out hI.low.size)
  have HS3 : Hid (∀ v a b, RQ s wc.heap.size v a → Only (fun k => k = w.heap.size) a b → RQ s wc.heap.size v b) := Lib.hid fun v a b h ho => Cop_prep.low h ho HLT2.out
  have HS4 : Hid (∀ v2 v a b, RC s wc.heap.size v2 v a → Only (fun k => k = w.heap.size) a b → RC s wc.heap.size v2 v b) := Lib.hid fun v2 v a b h ho => RC.low h ho HLT2.out
  have HI2 : Hid (∀ V : Nat → Value, twSt w.heap.size 32 [.int .i64 s.node, .int .i64 s.nodes, .int .i64 s.cells, .int .i64 s.epoch, va, .slice y.Q s.prep.length y.q, vb, .slice y.C s.com.length y.c] 5 7 (RQ s wc.heap.size) (RC s wc.heap.size (V 2)) false false false false (V 2) (V 5) wc wc.drew) := Lib.hid fun V => ⟨Only.of_below (Below.refl _ _).drew, Cells.later hcel (Below.refl _ _).drew, fun e => (by cases e), fun e => (by cases e)⟩
  clear hI hcel e1 e2 HCL HI HCM hva hvb hBD1 hBD2 hrd0
  go_upto_region 2 with (fail)
  refine Reg.region_inv (by kernel_rfl) (fun i => ([some (.pointer (some ⟨w.heap.size, 5, none⟩)), some (.slice y.Q s.prep.length y.q), none, some (.pointer (some ⟨w.heap.size, 7, none⟩)), some (.slice y.C s.com.length y.c), none, some (.pointer (some ⟨w.heap.size, 5, none⟩)), none, some (.pointer (some ⟨w.heap.size, 7, none⟩)), none] : List (Option Value)).getD i none) (fun D V W => twSt w.heap.size 32 [.int .i64 s.node, .int .i64 s.nodes, .int .i64 s.cells, .int .i64 s.epoch, va, .slice y.Q s.prep.length y.q, vb, .slice y.C s.com.length y.c] 5 7 (RQ s wc.heap.size) (RC s wc.heap.size (V 2)) (D 2) (D 5) (D 7) (D 9) (V 2) (V 5) wc W) (fun V => [(some 11, V 0), (some 12, V 1), (some 13, V 2), (some 14, V 3), (some 15, V 4), (some 16, V 5), (some 17, V 6), (none, V 7), (some 18, V 8), (none, V 9)]) (by kernel_rfl) (by kernel_rfl) (fun V => rfl) ?_ ?_ ?_
  ·intro V
   exact HI2.out V
  ·intro i o ho
   have hi : i < 10 := (Array.getElem?_eq_some_iff.1 ho).1
   rcases i with _ | _ | _ | _ | _ | _ | _ | _ | _ | _ | i
   rotate_right
   ·omega
   all_goals obtain rfl := Option.some.inj ho
   all_goals intro D V ρ wi hE hI hDi hT hF hs hd hk
   ·have e1 : ρ (.tmp 1) = .pointer (some ⟨w.heap.size, 0, none⟩) := hs 1; clear hT hF hk
    exact Reg.Gives.value (v := .pointer (some ⟨w.heap.size, 5, none⟩)) (w' := wi) (by go_simp) ⟨fun x h => Option.some.inj h, hI⟩
   ·have e11 : ρ (.tmp 11) = .pointer (some ⟨w.heap.size, 5, none⟩) := (hd 0 11).trans (hk 0 _ rfl); have hD7 : D 7 = false := hF 1 7; have hD9 : D 9 = false := hF 1 9; clear hT hF; have hI0 := hI
    rw [hD7, hD9] at hI0
    have x0 := Cells.cell hI0.cel (j := 5) rfl
    exact Reg.Gives.value (v := .slice y.Q s.prep.length y.q) (w' := wi) (by go_simp) ⟨fun x h => Option.some.inj h, hI⟩
   ·have e12 : ρ (.tmp 12) = .slice y.Q s.prep.length y.q := (hd 1 12).trans (hk 1 _ rfl); have hf := hE.func; have hD2 : D 2 = false := hDi; have hD5 : D 5 = false := hF 1 5; have hD7 : D 7 = false := hF 1 7; have hD9 : D 9 = false := hF 1 9; clear hT hF
    rw [hD2, hD5, hD7, hD9] at hI
    refine Reg.Gives.call (f := 61) (args := #[.slice y.Q s.prep.length y.q, .func (.func 62) #[] #[]]) (w' := wi) (by go_simp) ?_
    refine (HCL2.out.1 wi hI.low).mono ?_
    rintro e w'' ⟨⟨v', rfl, hrow⟩, hb'⟩
    refine ⟨_, rfl, fun x h => (by cases h), ?_⟩
    show twSt w.heap.size 32 [.int .i64 s.node, .int .i64 s.nodes, .int .i64 s.cells, .int .i64 s.epoch, va, .slice y.Q s.prep.length y.q, vb, .slice y.C s.com.length y.c] 5 7 (RQ s wc.heap.size) (RC s wc.heap.size v') true (D 5) (D 7) (D 9) v' (V 5) wc w''
    rw [hD5, hD7, hD9]
    exact hI.call1 hrow hb'
   ·have e1 : ρ (.tmp 1) = .pointer (some ⟨w.heap.size, 0, none⟩) := hs 1; clear hT hF hk
    exact Reg.Gives.value (v := .pointer (some ⟨w.heap.size, 7, none⟩)) (w' := wi) (by go_simp) ⟨fun x h => Option.some.inj h, hI⟩
   ·have e14 : ρ (.tmp 14) = .pointer (some ⟨w.heap.size, 7, none⟩) := (hd 3 14).trans (hk 3 _ rfl); have hD7 : D 7 = false := hF 1 7; have hD9 : D 9 = false := hF 1 9; clear hT hF; have hI0 := hI
    rw [hD7, hD9] at hI0
    have x0 := Cells.cell hI0.cel (j := 7) rfl
    exact Reg.Gives.value (v := .slice y.C s.com.length y.c) (w' := wi) (by go_simp) ⟨fun x h => Option.some.inj h, hI⟩
   ·have e15 : ρ (.tmp 15) = .slice y.C s.com.length y.c := (hd 4 15).trans (hk 4 _ rfl); have hf := hE.func; have hD2 : D 2 = true := hT 1 2; have hD5 : D 5 = false := hDi; have hD7 : D 7 = false := hF 1 7; have hD9 : D 9 = false := hF 1 9; clear hT hF
    rw [hD2, hD5, hD7, hD9] at hI
    refine Reg.Gives.call (f := 63) (args := #[.slice y.C s.com.length y.c, .func (.func 64) #[] #[]]) (w' := wi) (by go_simp) ?_
    refine (HCL2.out.2 wi hI.low).mono ?_
    rintro e w'' ⟨⟨v', rfl, hrow⟩, hb'⟩
    refine ⟨_, rfl, fun x h => (by cases h), ?_⟩
    show twSt w.heap.size 32 [.int .i64 s.node, .int .i64 s.nodes, .int .i64 s.cells, .int .i64 s.epoch, va, .slice y.Q s.prep.length y.q, vb, .slice y.C s.com.length y.c] 5 7 (RQ s wc.heap.size) (RC s wc.heap.size (V 2)) (D 2) true (D 7) (D 9) (V 2) v' wc w''
    rw [hD2, hD7, hD9]
    exact hI.call2 HS3.out (RC.make (hI.r2 rfl) hI.low.size hrow hb') hb'
   ·have e1 : ρ (.tmp 1) = .pointer (some ⟨w.heap.size, 0, none⟩) := hs 1; clear hT hF hk
    exact Reg.Gives.value (v := .pointer (some ⟨w.heap.size, 5, none⟩)) (w' := wi) (by go_simp) ⟨fun x h => Option.some.inj h, hI⟩
   ·have e17 : ρ (.tmp 17) = .pointer (some ⟨w.heap.size, 5, none⟩) := (hd 6 17).trans (hk 6 _ rfl); have e13 : ρ (.tmp 13) = V 2 := hd 2 13; have hD2 : D 2 = true := hT 1 2; have hD5 : D 5 = true := hT 1 5; have hD7 : D 7 = false := hDi; have hD9 : D 9 = false := hF 1 9; clear hT hF
    rw [hD2, hD5, hD7, hD9] at hI
    have x0 := Cells.cell hI.cel (j := 5) rfl
    have x1 := Cells.frozen hI.cel (j := 5) (by simp)
    obtain ⟨A9, n9, c9, f1⟩ := cop_prep_slice (hI.r2 rfl); have e13b := e13.trans f1; clear e13
    exact Reg.Gives.skip (w' := wi.setCell ⟨w.heap.size, 5, none⟩ (V 2)) (by rw [f1]; clear f1; go_simp) ⟨fun x h => (by cases h), by show twSt w.heap.size 32 [.int .i64 s.node, .int .i64 s.nodes, .int .i64 s.cells, .int .i64 s.epoch, va, .slice y.Q s.prep.length y.q, vb, .slice y.C s.com.length y.c] 5 7 (RQ s wc.heap.size) (RC s wc.heap.size (V 2)) (D 2) (D 5) true (D 9) (V 2) (V 5) wc _; rw [hD2, hD5, hD9]; exact hI.put1 HS3.out (HS4.out (V 2))⟩
   ·have e1 : ρ (.tmp 1) = .pointer (some ⟨w.heap.size, 0, none⟩) := hs 1; clear hT hF hk
    exact Reg.Gives.value (v := .pointer (some ⟨w.heap.size, 7, none⟩)) (w' := wi) (by go_simp) ⟨fun x h => Option.some.inj h, hI⟩
   ·have e18 : ρ (.tmp 18) = .pointer (some ⟨w.heap.size, 7, none⟩) := (hd 8 18).trans (hk 8 _ rfl); have e16 : ρ (.tmp 16) = V 5 := hd 5 16; have hD2 : D 2 = true := hT 1 2; have hD5 : D 5 = true := hT 1 5; have hD7 : D 7 = true := hT 1 7; have hD9 : D 9 = false := hDi; clear hT hF
    rw [hD2, hD5, hD7, hD9] at hI
    have x0 := Cells.cell hI.cel (j := 7) rfl
    have x1 := Cells.frozen hI.cel (j := 7) (by simp)
    obtain ⟨A9, n9, c9, f1⟩ := cop_com_slice (hI.r5 rfl); have e16b := e16.trans f1; clear e16
    exact Reg.Gives.skip (w' := wi.setCell ⟨w.heap.size, 7, none⟩ (V 5)) (by rw [f1]; clear f1; go_simp) ⟨fun x h => (by cases h), by show twSt w.heap.size 32 [.int .i64 s.node, .int .i64 s.nodes, .int .i64 s.cells, .int .i64 s.epoch, va, .slice y.Q s.prep.length y.q, vb, .slice y.C s.com.length y.c] 5 7 (RQ s wc.heap.size) (RC s wc.heap.size (V 2)) (D 2) (D 5) (D 7) true (V 2) (V 5) wc _; rw [hD2, hD5, hD7]; exact hI.put2 HS3.out (HS4.out (V 2))⟩
  ·intro V wd hk hI
   simp only [Reg.putsO, List.foldl_cons, List.foldl_nil, Act.put, List.setIfInBounds_toArray, List.set_cons_succ, List.set_cons_zero]
   replace hI : twSt w.heap.size 32 [.int .i64 s.node, .int .i64 s.nodes, .int .i64 s.cells, .int .i64 s.epoch, va, .slice y.Q s.prep.length y.q, vb, .slice y.C s.com.length y.c] 5 7 (RQ s wc.heap.size) (RC s wc.heap.size (V 2)) true true true true (V 2) (V 5) wc wd := hI
   clear hk
   obtain ⟨B', hB', ⟨zc, hzc, hrc, hic⟩, hv2, zq, hzq, hrq, hiq⟩ := hI.r5 rfl
   obtain ⟨Q, q, e3⟩ := row_slice hrq
   obtain ⟨C, c, e4⟩ := row_slice hrc
   have hcel := hI.cel
   have hrp := HS1.out _ _ _ HRP.out hI.low
   obtain ⟨BD', hBD', hrd, _⟩ := HS2.out _ _ _ _ HRD.out hI.low
   have hlp : ∀ k, blk P = some k → wb.heap.size ≤ k ∧ k < wc.heap.size := fun k hk => HRP.out.lt k (by rw [HEA.out, own_blk]; exact hk)
   have hld : ∀ k, blk D = some k → wb.heap.size ≤ k ∧ k < wc.heap.size := fun k hk => by
    obtain ⟨B9, h9, h8, _⟩ := HRD.out
    have := h8.lt k (by rw [HEB.out, own_blk]; exact hk)
    omega
   have hlq : ∀ k, blk Q = some k → wc.heap.size ≤ k ∧ k < B' := fun k hk => ⟨(hrq.lt k (by rw [e3, own_blk]; exact hk)).1, hv2 k (by rw [e3, own_blk]; exact hk)⟩
   have hlc : ∀ k, blk C = some k → B' ≤ k := fun k hk => (hrc.lt k (by rw [e4, own_blk]; exact hk)).1
   unfold RP at hrp
   rw [HEA.out] at hrp hcel
   rw [HEB.out] at hrd hcel
   rw [e3] at hrq hcel
   rw [e4] at hrc hcel
   have hw1 := HBW.out.size
   have hw2 := HBC.out.size
   have hw3 := HLC.out.size
   have hlists : Lists (fun k => k < wb.heap.size) wb.heap.size wd s ⟨P, p, Q, q, D, d, C, c, zq, zc⟩ := by
    refine ⟨hrp, own_up (by omega) hrq, own_up hBD' hrd, own_up (by omega) hrc, hzq, hzc, fun k h1 h2 => (hiq k h1 h2).next (Only.refl _ _) fun j e => Or.inl ?_, fun k h1 h2 => (hic k h1 h2).next (Only.refl _ _) fun j e => Or.inl ?_, ?_, ?_, ?_, ?_, ?_, ?_⟩
    ·rw [e3, own_blk]
     rcases e with e | e | e | e | e
     ·exact Or.inl (Or.inr (by omega))
     ·exact Or.inl (Or.inr (hlp j e.symm).2)
     ·exact Or.inl (Or.inl e)
     ·exact Or.inl (Or.inr (hld j e.symm).2)
     ·exact Or.inr (hlc j e.symm)
    ·rw [e4, own_blk]
     rcases e with e | e | e | e | e
     ·exact Or.inr (by omega)
     ·exact Or.inr (by have := (hlp j e.symm).2; omega)
     ·exact Or.inr (hlq j e.symm).2
     ·exact Or.inr (by have := (hld j e.symm).2; omega)
     ·exact Or.inl e
    ·intro k e e'; have := (hlp k e).2; have := (hlq k e').1; omega
    ·intro k e e'; exact HPD.out k e e'
    ·intro k e e'; have := (hlp k e).2; have := hlc k e'; omega
    ·intro k e e'; have := (hld k e').2; have := (hlq k e).1; omega
    ·intro k e e'; have := (hlq k e).2; have := hlc k e'; omega
    ·intro k e e'; have := (hld k e).2; have := hlc k e'; omega
   have HLISTS := Lib.hid hlists
   have HBZ := Lib.hid (HBC.out.trans (hI.below (Below.refl w.heap.size wc) hw2))
   have HCZ : Hid (Cells wd w.heap.size 32 [.int .i64 s.node, .int .i64 s.nodes, .int .i64 s.cells, .int .i64 s.epoch, .slice P s.places.length p, .slice Q s.prep.length q, .slice D s.dec.length d, .slice C s.com.length c]) := Lib.hid hcel
   have HCY : Hid (Cells wd (w.heap.size + 1) 32 [.int .i64 0, .int .i64 0, .int .i64 0, .int .i64 0, .slice none 0 0, .slice none 0 0, .slice none 0 0, .slice none 0 0]) := Lib.hid (cells_only HC2.out (HLC.out.trans hI.low fun _ _ e => e) (by omega))
   clear hI hlists hcel hrp hrd hrq hrc hiq hic hlp hld hlq hlc e3 e4 hv2
   go_upto_region 3 with (fail)
   apply wp_region_lit
   refine wpList_load_cells rfl 32 _ rfl w.heap.size #[.int .i64 s.node, .int .i64 s.nodes, .int .i64 s.cells, .int .i64 s.epoch, .slice P s.places.length p, .slice Q s.prep.length q, .slice D s.dec.length d, .slice C s.com.length c] rfl rfl HCZ.out Tryz.underlying32 rfl (by kernel_rfl) ?_
   refine wpList_store_cells rfl 32 _ _ rfl (w.heap.size + 1) #[.int .i64 s.node, .int .i64 s.nodes, .int .i64 s.cells, .int .i64 s.epoch, .slice P s.places.length p, .slice Q s.prep.length q, .slice D s.dec.length d, .slice C s.com.length c] [.int .i64 s.node, .int .i64 s.nodes, .int .i64 s.cells, .int .i64 s.epoch, .slice P s.places.length p, .slice Q s.prep.length q, .slice D s.dec.length d, .slice C s.com.length c] rfl rfl rfl HCY.out rfl (by kernel_rfl) (by simp [Value.oneCell']) fun w9 hpt hov => ?_
   have HPT := Lib.hid hpt
   have HOV := Lib.hid hov
   clear hpt hov
   go_wp2_with fail
   refine bodyPost_ret (v := .agg #[.int .i64 s.node, .int .i64 s.nodes, .int .i64 s.cells, .int .i64 s.epoch, .slice P s.places.length p, .slice Q s.prep.length q, .slice D s.dec.length d, .slice C s.com.length c]) ?_ rfl ?_
   ·exact (ret_cell (p := 2) (ty := 32) (by rfl) _ HPT.out _ (by rfl) Tryz.underlying32 rfl (by kernel_rfl)).trans (by rfl)
   ·refine ⟨⟨⟨P, p, Q, q, D, d, C, c, zq, zc⟩, rfl, ?_⟩, HBZ.out.trans (HOV.out.below HBZ.out.size fun k e => by rw [e]; exact Nat.le_succ _)⟩
    have h9 := HLISTS.out.only HOV.out (fun k _ e => by have := HC2.out.lt; have := HLT9.out; omega) (fun k hk e => by have := (HLISTS.out.lt hk).1; have := HLT9.out; omega)
    exact h9.weak HBW.out.size fun k hk => Nat.lt_of_lt_of_le hk HBW.out.size
end Go.Proofs.YtalhbblmnahcdaaGreat.Led
