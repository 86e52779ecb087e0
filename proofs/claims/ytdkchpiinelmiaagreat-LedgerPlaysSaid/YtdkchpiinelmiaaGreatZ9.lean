/- Part 9 of the proof. Conditions: none. -/
import Derived.Test.YtdkchpiinelmiaaGreatZ8
namespace Go.Proofs.YtdkchpiinelmiaaGreat.Led
set_option maxRecDepth 100000
open Go.RowKit Go.Deep Mem fN Rec
def blk (A : Option Addr) : Option Nat := A.map (·.block)
theorem aK (A : Option Addr) (n c : Nat) : (Value.slice A n c).ownBlock = blk A := by cases A <;> rfl
def rowsOf (y : Sy) (k : Nat) : Prop := some k = blk y.P \/ some k = blk y.Q \/ some k = blk y.D \/ some k = blk y.C
def iw (b : Nat) (y : Sy) (k : Nat) : Prop := k = b \/ rowsOf y k
def um (a b : Option Nat) : Prop := ∀ k, a = some k -> b ≠ some k
structure Lists (S : Nat -> Prop) (B : Nat) (w : World) (s : St) (y : Sy) : Prop where
 rowP : w.ownsRow B 66 5 (.slice y.P s.places.length y.p) s.places.length (s.places.map Pl.vals).flatten
 jk : w.ownsRow B 78 5 (.slice y.Q s.ay.length y.q) s.ay.length (List.zipWith Pr.vals s.ay y.ps).flatten
 jv : w.ownsRow B 79 4 (.slice y.D s.dec.length y.d) s.dec.length (s.dec.map De.vals).flatten
 jw : w.ownsRow B 80 6 (.slice y.C s.com.length y.c) s.com.length (List.zipWith Co.vals s.com y.cs).flatten
 ps : y.ps.length = s.ay.length
 cs : y.cs.length = s.com.length
 pin : ∀ k (h : k < s.ay.length) (h' : k < y.ps.length), Fr (fun j => S j \/ rowsOf y j) w s.ay[k].items s.ay[k].nodes y.ps[k]
 cin : ∀ k (h : k < s.com.length) (h' : k < y.cs.length), Fr (fun j => S j \/ rowsOf y j) w s.com[k].items s.com[k].nodes y.cs[k]
 PQ : um (blk y.P) (blk y.Q)
 PD : um (blk y.P) (blk y.D)
 PC : um (blk y.P) (blk y.C)
 QD : um (blk y.Q) (blk y.D)
 QC : um (blk y.Q) (blk y.C)
 DC : um (blk y.D) (blk y.C)
theorem grown {X A : Option Addr} {n j : Nat} (hnew : ∀ j, blk A = some j -> blk X = some j \/ n <= j) (e : some j = blk A) : some j = blk X \/ n <= j := (hnew j e.symm).imp_left Eq.symm
theorem gV {w : World} {B sz c : Nat} {eT : TypeId} {A : Option Addr} {vs : List (List Value)} (h : w.ownsRow B eT sz (.slice A vs.length c) vs.length vs.flatten) (hf : ∀ v ∈ vs, v.length = sz) : Sl w A sz vs /\ (A = none -> c = 0) := by
 obtain ⟨A', c', e, h1, h2, _⟩ := f_ h hf; simp only [Value.slice.injEq] at e; obtain ⟨rfl, _, rfl⟩ := e; exact ⟨h1, h2⟩
theorem cY {α γ : Type} (f : α -> Lay -> γ) {l : List α} {ys : List Lay} (h : ys.length = l.length) : (List.zipWith f l ys).length = l.length := by rw [List.length_zipWith, h]; exact Nat.min_self _
theorem Lists.sees {S : Nat -> Prop} {B : Nat} {w : World} {s : St} {y : Sy} (h : Lists S B w s y) : cL w s y := by
 have hP := gV (vs := s.places.map Pl.vals) (by rw [List.length_map]; exact h.rowP) (aU _).len; have hQ := gV (vs := List.zipWith Pr.vals s.ay y.ps) (by rw [cY _ h.ps]; exact h.jk) (h_ _ _).len; have hD := gV (vs := s.dec.map De.vals) (by rw [List.length_map]; exact h.jv) (fG _).len; have hC := gV (vs := List.zipWith Co.vals s.com y.cs) (by rw [cY _ h.cs]; exact h.jw) (iI _ _).len; exact ⟨hP.1, hQ.1, hD.1, hC.1, h.ps, h.cs, fun k h1 h2 => (h.pin k h1 h2).two, fun k h1 h2 => (h.cin k h1 h2).two, hP.2, hQ.2, hD.2, hC.2⟩
theorem Lists.lt {S : Nat -> Prop} {B : Nat} {w : World} {s : St} {y : Sy} (h : Lists S B w s y) {k : Nat} (hk : rowsOf y k) : B <= k /\ k < w.heap.size := by
 rcases hk with e | e | e | e
 ·exact h.rowP.lt k (by rw [aK]; exact e.symm)
 ·exact h.jk.lt k (by rw [aK]; exact e.symm)
 ·exact h.jv.lt k (by rw [aK]; exact e.symm)
 exact h.jw.lt k (by rw [aK]; exact e.symm)
theorem Lists.only {S T : Nat -> Prop} {B : Nat} {w w' : World} {s : St} {y : Sy} (h : Lists S B w s y) (ho : Only T w w') (hT : ∀ k, k < w.heap.size -> T k -> S k) (hd : ∀ k, rowsOf y k -> ¬ T k) : Lists S B w' s y := by
 have ho' : Only (fun j => S j \/ rowsOf y j) w w' := ho.mono fun k hk e => Or.inl (hT k hk e)
 exact ⟨aF h.rowP ho fun k e => hd k (Or.inl (by rw [aK] at e; exact e.symm)), aF h.jk ho fun k e => hd k (Or.inr (Or.inl (by rw [aK] at e; exact e.symm))), aF h.jv ho fun k e => hd k (Or.inr (Or.inr (Or.inl (by rw [aK] at e; exact e.symm)))), aF h.jw ho fun k e => hd k (Or.inr (Or.inr (Or.inr (by rw [aK] at e; exact e.symm)))),
  h.ps, h.cs, fun k h1 h2 => (h.pin k h1 h2).next ho' fun _ e => Or.inl e, fun k h1 h2 => (h.cin k h1 h2).next ho' fun _ e => Or.inl e, h.PQ, h.PD, h.PC, h.QD, h.QC, h.DC⟩
theorem Lists.later {S : Nat -> Prop} {B : Nat} {w w' : World} {s : St} {y : Sy} (h : Lists S B w s y) (hb : Below w.heap.size w w') : Lists S B w' s y := h.only (T := fun _ => False) (Only.of_below hb) (fun _ _ e => e.elim) fun _ _ e => e
def sb (b k : Nat) : Prop := k < b + 2
structure Own (base : Nat) (w : World) (b : Nat) (s : St) (y : Sy) : Prop where
 low : base <= b
 br : Cells w b 32 (s.vals y)
 lists : Lists (sb b) base w s y
 off : ¬ rowsOf y b
 room : b + 1 < w.heap.size
section
variable {base b : Nat} {w w' : World} {s : St} {y : Sy}
theorem Own.sees (h : Own base w b s y) : cL w s y := h.lists.sees
theorem Own.later (h : Own base w b s y) (hb : Below w.heap.size w w') : Own base w' b s y := ⟨h.low, h.br.later hb, h.lists.later hb, h.off, Nat.lt_of_lt_of_le h.room hb.size⟩
theorem Own.KJ (h : Own base w b s y) {k : Nat} (hk : sb b k \/ rowsOf y k) : k < w.heap.size := by
 have := h.room; rcases hk with e | e
 ·unfold sb at e
  omega
 exact (h.lists.lt e).2
theorem Own.rT (h : Own base w b s y) {k : Nat} (hk : iw b y k) : base <= k /\ k < w.heap.size := by
 rcases hk with rfl | hk
 ·exact ⟨h.low, h.br.lt⟩
 exact h.lists.lt hk
theorem Own.put {s' : St} (h : Own base w b s y) (ho : Only (fun k => k = b) w w') (hc : Cells w' b 32 (s'.vals y)) (e1 : s'.places = s.places) (e2 : s'.ay = s.ay) (e3 : s'.dec = s.dec) (e4 : s'.com = s.com) : Own base w' b s' y := by
 have hl := h.lists.only ho (fun _ _ e => by unfold sb; omega) (fun k hk e => h.off (by rw [<- e]; exact hk)); obtain ⟨n1, n2, n3, n4, pl, pr, de, co⟩ := s; obtain ⟨m1, m2, m3, m4, KU, pr', de', co'⟩ := s'; simp only at e1 e2 e3 e4; subst e1 e2 e3 e4; exact ⟨h.low, hc, ⟨hl.rowP, hl.jk, hl.jv, hl.jw, hl.ps, hl.cs, hl.pin, hl.cin, hl.PQ, hl.PD, hl.PC, hl.QD, hl.QC, hl.DC⟩, h.off, Nat.lt_of_lt_of_le h.room ho.size⟩
theorem Own.Lu {l' : List Pl} (h : Own base w b s y) (ho : Only (fun k => some k = blk y.P) w w') (hlen : l'.length = s.places.length) (hrow : w'.ownsRow base 66 5 (.slice y.P l'.length y.p) l'.length (l'.map Pl.vals).flatten) : Own base w' b { s with places := l' } y := by
 have hsub : Only (fun j => sb b j \/ rowsOf y j) w w' := ho.mono fun k _ e => Or.inr (Or.inl e)
 have hQ : ∀ k, (Value.slice y.Q s.ay.length y.q).ownBlock = some k -> ¬ some k = blk y.P := fun k e e' => by rw [aK] at e; exact h.lists.PQ k e'.symm e
 have hD : ∀ k, (Value.slice y.D s.dec.length y.d).ownBlock = some k -> ¬ some k = blk y.P := fun k e e' => by rw [aK] at e; exact h.lists.PD k e'.symm e
 have hC : ∀ k, (Value.slice y.C s.com.length y.c).ownBlock = some k -> ¬ some k = blk y.P := fun k e e' => by rw [aK] at e; exact h.lists.PC k e'.symm e
 refine ⟨h.low, ?_, ⟨hrow, aF h.lists.jk ho hQ, aF h.lists.jv ho hD, aF h.lists.jw ho hC, h.lists.ps, h.lists.cs, fun k h1 h2 => (h.lists.pin k h1 h2).next hsub fun _ e => Or.inl e, fun k h1 h2 => (h.lists.cin k h1 h2).next hsub fun _ e => Or.inl e,
  h.lists.PQ, h.lists.PD, h.lists.PC, h.lists.QD, h.lists.QC, h.lists.DC⟩, h.off, Nat.lt_of_lt_of_le h.room ho.size⟩
 have hc := aJ h.br ho (fun e => h.off (Or.inl e)); have e : ({ s with places := l' } : St).vals y = s.vals y := by unfold St.vals; rw [hlen]
 rw [e]; exact hc
theorem Own.Lv {l' : List Co} (h : Own base w b s y) (ho : Only (fun k => some k = blk y.C) w w') (hlen : l'.length = s.com.length) (hit : ∀ k (h1 : k < l'.length) (h2 : k < s.com.length), l'[k].items = s.com[k].items /\ l'[k].nodes = s.com[k].nodes)
  (hrow : w'.ownsRow base 80 6 (.slice y.C l'.length y.c) l'.length (List.zipWith Co.vals l' y.cs).flatten) : Own base w' b { s with com := l' } y := by
 have hsub : Only (fun j => sb b j \/ rowsOf y j) w w' := ho.mono fun k _ e => Or.inr (Or.inr (Or.inr (Or.inr e)))
 have hQ : ∀ k, (Value.slice y.Q s.ay.length y.q).ownBlock = some k -> ¬ some k = blk y.C := fun k e e' => by rw [aK] at e; exact h.lists.QC k e e'.symm
 have hD : ∀ k, (Value.slice y.D s.dec.length y.d).ownBlock = some k -> ¬ some k = blk y.C := fun k e e' => by rw [aK] at e; exact h.lists.DC k e e'.symm
 have hP : ∀ k, (Value.slice y.P s.places.length y.p).ownBlock = some k -> ¬ some k = blk y.C := fun k e e' => by rw [aK] at e; exact h.lists.PC k e e'.symm
 refine ⟨h.low, ?_, ⟨aF h.lists.rowP ho hP, aF h.lists.jk ho hQ, aF h.lists.jv ho hD, hrow, h.lists.ps, h.lists.cs.trans hlen.symm, fun k h1 h2 => (h.lists.pin k h1 h2).next hsub fun _ e => Or.inl e, fun k h1 h2 => ?_,
  h.lists.PQ, h.lists.PD, h.lists.PC, h.lists.QD, h.lists.QC, h.lists.DC⟩, h.off, Nat.lt_of_lt_of_le h.room ho.size⟩
 ·have hc := aJ h.br ho (fun e => h.off (Or.inr (Or.inr (Or.inr e))))
  have e : ({ s with com := l' } : St).vals y = s.vals y := by unfold St.vals; rw [hlen]
  rw [e]; exact hc
 have h3 : k < s.com.length := by rw [<- hlen]; exact h1
 have := (h.lists.cin k h3 h2).next hsub fun _ e => Or.inl e
 rw [<- (hit k h1 h3).1, <- (hit k h1 h3).2] at this; exact this
theorem Own.D2 {w1 : World} {A : Option Addr} {c : Nat} {l' : List Pr} {ps' : List Lay} (h : Own base w b s y) (ho : Only (fun k => some k = blk y.Q) w w1) (hrow : w1.ownsRow base 78 5 (.slice A l'.length c) l'.length (List.zipWith Pr.vals l' ps').flatten) (hps : ps'.length = l'.length)
  (hnew : ∀ j, blk A = some j -> blk y.Q = some j \/ w.heap.size <= j) (zH : ∀ k (h : k < l'.length) (h' : k < ps'.length), Fr (fun j => sb b j \/ rowsOf { y with Q := A, q := c, ps := ps' } j) w1 l'[k].items l'[k].nodes ps'[k])
  (iH : Only (fun k => k = b) w1 w') (hc : Cells w' b 32 (({ s with ay := l' } : St).vals { y with Q := A, q := c, ps := ps' })) : Own base w' b { s with ay := l' } { y with Q := A, q := c, ps := ps' } := by
 have hlt := h.br.lt; have gg : ∀ k, rowsOf { y with Q := A, q := c, ps := ps' } k -> rowsOf y k \/ w.heap.size <= k := fun k e => by
  rcases e with e | e | e | e
  ·exact Or.inl (Or.inl e)
  ·exact (grown hnew e).imp_left fun h => Or.inr (Or.inl h)
  ·exact Or.inl (Or.inr (Or.inr (Or.inl e)))
  exact Or.inl (Or.inr (Or.inr (Or.inr e)))
 have hoff : ¬ rowsOf { y with Q := A, q := c, ps := ps' } b := fun e => by
  rcases gg b e with e | e
  ·exact h.off e
  omega
 have hL := h.lists; have hP : ∀ k, (Value.slice y.P s.places.length y.p).ownBlock = some k -> ¬ some k = blk y.Q := fun k e e' => by rw [aK] at e; exact hL.PQ k e e'.symm
 have hD : ∀ k, (Value.slice y.D s.dec.length y.d).ownBlock = some k -> ¬ some k = blk y.Q := fun k e e' => by rw [aK] at e; exact hL.QD k e'.symm e
 have hC : ∀ k, (Value.slice y.C s.com.length y.c).ownBlock = some k -> ¬ some k = blk y.Q := fun k e e' => by rw [aK] at e; exact hL.QC k e'.symm e
 have b1 : ∀ k, (Value.slice y.P s.places.length y.p).ownBlock = some k -> ¬ k = b := fun k e e' => h.off (Or.inl (by rw [aK] at e; rw [<- e']; exact e.symm))
 have b2 : ∀ k, (Value.slice A l'.length c).ownBlock = some k -> ¬ k = b := fun k e e' => hoff (Or.inr (Or.inl (by rw [aK] at e; rw [<- e']; exact e.symm)))
 have b3 : ∀ k, (Value.slice y.D s.dec.length y.d).ownBlock = some k -> ¬ k = b := fun k e e' => h.off (Or.inr (Or.inr (Or.inl (by rw [aK] at e; rw [<- e']; exact e.symm))))
 have b4 : ∀ k, (Value.slice y.C s.com.length y.c).ownBlock = some k -> ¬ k = b := fun k e e' => h.off (Or.inr (Or.inr (Or.inr (by rw [aK] at e; rw [<- e']; exact e.symm))))
 have hs2 : ∀ (y' : Sy), Only (fun j => sb b j \/ rowsOf y' j) w1 w' := fun y' => iH.mono fun k _ e => Or.inl (by unfold sb; omega)
 have iT : ∀ X, um (blk y.Q) X -> (∀ k, X = some k -> k < w.heap.size) -> um (blk A) X := fun X hX hl k e e' => by
  rcases hnew k e with e2 | e2
  ·exact hX k e2 e'
  have := hl k e'
  omega
 refine ⟨h.low, hc, ⟨aF (aF hL.rowP ho hP) iH b1, aF hrow iH b2, aF (aF hL.jv ho hD) iH b3, aF (aF hL.jw ho hC) iH b4, hps, hL.cs, fun k h1 h2 => (zH k h1 h2).next (hs2 _) fun _ e => Or.inl e, fun k h1 h2 => ?_,
  fun k e e' => ?_, hL.PD, hL.PC, ?_, ?_, hL.DC⟩, hoff, Nat.lt_of_lt_of_le h.room (Nat.le_trans ho.size iH.size)⟩
 ·have h3 := (hL.cin k h1 h2).next (ho.mono fun j _ e => Or.inr (Or.inr (Or.inl e))) (T := fun j => sb b j \/ rowsOf { y with Q := A, q := c, ps := ps' } j) fun j e => by
   rcases e with e | e
   ·exact Or.inl (Or.inl e)
   rcases gg j e with e | e
   ·exact Or.inl (Or.inr e)
   exact Or.inr e
  exact h3.next (hs2 _) fun _ e => Or.inl e
 ·exact iT (blk y.P) (fun j e1 e2 => hL.PQ j e2 e1) (fun j e1 => (hL.lt (Or.inl e1.symm)).2) k e' e
 ·exact iT (blk y.D) hL.QD fun j e1 => (hL.lt (Or.inr (Or.inr (Or.inl e1.symm)))).2
 exact iT (blk y.C) hL.QC fun j e1 => (hL.lt (Or.inr (Or.inr (Or.inr e1.symm)))).2
theorem Own.newC {w1 : World} {A : Option Addr} {c : Nat} {l' : List Co} {cs' : List Lay} (h : Own base w b s y) (ho : Only (fun k => some k = blk y.C) w w1) (hrow : w1.ownsRow base 80 6 (.slice A l'.length c) l'.length (List.zipWith Co.vals l' cs').flatten) (hps : cs'.length = l'.length)
  (hnew : ∀ j, blk A = some j -> blk y.C = some j \/ w.heap.size <= j) (zH : ∀ k (h : k < l'.length) (h' : k < cs'.length), Fr (fun j => sb b j \/ rowsOf { y with C := A, c := c, cs := cs' } j) w1 l'[k].items l'[k].nodes cs'[k])
  (iH : Only (fun k => k = b) w1 w') (hc : Cells w' b 32 (({ s with com := l' } : St).vals { y with C := A, c := c, cs := cs' })) : Own base w' b { s with com := l' } { y with C := A, c := c, cs := cs' } := by
 have hlt := h.br.lt; have gg : ∀ k, rowsOf { y with C := A, c := c, cs := cs' } k -> rowsOf y k \/ w.heap.size <= k := fun k e => by
  rcases e with e | e | e | e
  ·exact Or.inl (Or.inl e)
  ·exact Or.inl (Or.inr (Or.inl e))
  ·exact Or.inl (Or.inr (Or.inr (Or.inl e)))
  exact (grown hnew e).imp_left fun h => Or.inr (Or.inr (Or.inr h))
 have hoff : ¬ rowsOf { y with C := A, c := c, cs := cs' } b := fun e => by
  rcases gg b e with e | e
  ·exact h.off e
  omega
 have hL := h.lists; have hP : ∀ k, (Value.slice y.P s.places.length y.p).ownBlock = some k -> ¬ some k = blk y.C := fun k e e' => by rw [aK] at e; exact hL.PC k e e'.symm
 have hD : ∀ k, (Value.slice y.D s.dec.length y.d).ownBlock = some k -> ¬ some k = blk y.C := fun k e e' => by rw [aK] at e; exact hL.DC k e e'.symm
 have hQ : ∀ k, (Value.slice y.Q s.ay.length y.q).ownBlock = some k -> ¬ some k = blk y.C := fun k e e' => by rw [aK] at e; exact hL.QC k e e'.symm
 have b1 : ∀ k, (Value.slice y.P s.places.length y.p).ownBlock = some k -> ¬ k = b := fun k e e' => h.off (Or.inl (by rw [aK] at e; rw [<- e']; exact e.symm))
 have b2 : ∀ k, (Value.slice A l'.length c).ownBlock = some k -> ¬ k = b := fun k e e' => hoff (Or.inr (Or.inr (Or.inr (by rw [aK] at e; rw [<- e']; exact e.symm))))
 have b3 : ∀ k, (Value.slice y.D s.dec.length y.d).ownBlock = some k -> ¬ k = b := fun k e e' => h.off (Or.inr (Or.inr (Or.inl (by rw [aK] at e; rw [<- e']; exact e.symm))))
 have b4 : ∀ k, (Value.slice y.Q s.ay.length y.q).ownBlock = some k -> ¬ k = b := fun k e e' => h.off (Or.inr (Or.inl (by rw [aK] at e; rw [<- e']; exact e.symm)))
 have hs2 : ∀ (y' : Sy), Only (fun j => sb b j \/ rowsOf y' j) w1 w' := fun y' => iH.mono fun k _ e => Or.inl (by unfold sb; omega)
 have iT : ∀ X, um X (blk y.C) -> (∀ k, X = some k -> k < w.heap.size) -> um X (blk A) := fun X hX hl k e' e => by
  rcases hnew k e with e2 | e2
  ·exact hX k e' e2
  have := hl k e'
  omega
 refine ⟨h.low, hc, ⟨aF (aF hL.rowP ho hP) iH b1, aF (aF hL.jk ho hQ) iH b4, aF (aF hL.jv ho hD) iH b3, aF hrow iH b2, hL.ps, hps, fun k h1 h2 => ?_, fun k h1 h2 => (zH k h1 h2).next (hs2 _) fun _ e => Or.inl e,
  hL.PQ, hL.PD, ?_, hL.QD, ?_, ?_⟩, hoff, Nat.lt_of_lt_of_le h.room (Nat.le_trans ho.size iH.size)⟩
 ·have h3 := (hL.pin k h1 h2).next (ho.mono fun j _ e => Or.inr (Or.inr (Or.inr (Or.inr e)))) (T := fun j => sb b j \/ rowsOf { y with C := A, c := c, cs := cs' } j) fun j e => by
   rcases e with e | e
   ·exact Or.inl (Or.inl e)
   rcases gg j e with e | e
   ·exact Or.inl (Or.inr e)
   exact Or.inr e
  exact h3.next (hs2 _) fun _ e => Or.inl e
 ·exact iT (blk y.P) hL.PC (fun j e1 => (hL.lt (Or.inl e1.symm)).2)
 ·exact iT (blk y.Q) hL.QC fun j e1 => (hL.lt (Or.inr (Or.inl e1.symm))).2
 exact iT (blk y.D) hL.DC fun j e1 => (hL.lt (Or.inr (Or.inr (Or.inl e1.symm)))).2
theorem Own.Zc {w1 : World} {A : Option Addr} {c : Nat} {l' : List De} (h : Own base w b s y) (ho : Only (fun k => some k = blk y.D) w w1) (hrow : w1.ownsRow base 79 4 (.slice A l'.length c) l'.length (l'.map De.vals).flatten)
  (hnew : ∀ j, blk A = some j -> blk y.D = some j \/ w.heap.size <= j)
  (iH : Only (fun k => k = b) w1 w') (hc : Cells w' b 32 (({ s with dec := l' } : St).vals { y with D := A, d := c })) : Own base w' b { s with dec := l' } { y with D := A, d := c } := by
 have hlt := h.br.lt; have gg : ∀ k, rowsOf { y with D := A, d := c } k -> rowsOf y k \/ w.heap.size <= k := fun k e => by
  rcases e with e | e | e | e
  ·exact Or.inl (Or.inl e)
  ·exact Or.inl (Or.inr (Or.inl e))
  ·exact (grown hnew e).imp_left fun h => Or.inr (Or.inr (Or.inl h))
  exact Or.inl (Or.inr (Or.inr (Or.inr e)))
 have hoff : ¬ rowsOf { y with D := A, d := c } b := fun e => by
  rcases gg b e with e | e
  ·exact h.off e
  omega
 have hL := h.lists; have hP : ∀ k, (Value.slice y.P s.places.length y.p).ownBlock = some k -> ¬ some k = blk y.D := fun k e e' => by rw [aK] at e; exact hL.PD k e e'.symm
 have hQ : ∀ k, (Value.slice y.Q s.ay.length y.q).ownBlock = some k -> ¬ some k = blk y.D := fun k e e' => by rw [aK] at e; exact hL.QD k e e'.symm
 have hC : ∀ k, (Value.slice y.C s.com.length y.c).ownBlock = some k -> ¬ some k = blk y.D := fun k e e' => by rw [aK] at e; exact hL.DC k e'.symm e
 have b1 : ∀ k, (Value.slice y.P s.places.length y.p).ownBlock = some k -> ¬ k = b := fun k e e' => h.off (Or.inl (by rw [aK] at e; rw [<- e']; exact e.symm))
 have b2 : ∀ k, (Value.slice A l'.length c).ownBlock = some k -> ¬ k = b := fun k e e' => hoff (Or.inr (Or.inr (Or.inl (by rw [aK] at e; rw [<- e']; exact e.symm))))
 have b3 : ∀ k, (Value.slice y.Q s.ay.length y.q).ownBlock = some k -> ¬ k = b := fun k e e' => h.off (Or.inr (Or.inl (by rw [aK] at e; rw [<- e']; exact e.symm)))
 have b4 : ∀ k, (Value.slice y.C s.com.length y.c).ownBlock = some k -> ¬ k = b := fun k e e' => h.off (Or.inr (Or.inr (Or.inr (by rw [aK] at e; rw [<- e']; exact e.symm))))
 have hs1 : Only (fun j => sb b j \/ rowsOf y j) w w1 := ho.mono fun j _ e => Or.inr (Or.inr (Or.inr (Or.inl e)))
 have hs2 : Only (fun j => sb b j \/ rowsOf { y with D := A, d := c } j) w1 w' := iH.mono fun k _ e => Or.inl (by unfold sb; omega)
 have hT : ∀ j, (sb b j \/ rowsOf { y with D := A, d := c } j) -> (sb b j \/ rowsOf y j) \/ w.heap.size <= j := fun j e => by
  rcases e with e | e
  ·exact Or.inl (Or.inl e)
  rcases gg j e with e | e
  ·exact Or.inl (Or.inr e)
  exact Or.inr e
 refine ⟨h.low, hc, ⟨aF (aF hL.rowP ho hP) iH b1, aF (aF hL.jk ho hQ) iH b3, aF hrow iH b2, aF (aF hL.jw ho hC) iH b4, hL.ps, hL.cs, fun k h1 h2 => ((hL.pin k h1 h2).next hs1 hT).next hs2 fun _ e => Or.inl e, fun k h1 h2 => ((hL.cin k h1 h2).next hs1 hT).next hs2 fun _ e => Or.inl e,
  hL.PQ, fun k e e' => ?_, hL.PC, fun k e e' => ?_, hL.QC, fun k e e' => ?_⟩, hoff, Nat.lt_of_lt_of_le h.room (Nat.le_trans ho.size iH.size)⟩
 ·rcases hnew k e' with e2 | e2
  ·exact hL.PD k e e2
  have := (hL.lt (Or.inl e.symm)).2
  omega
 ·rcases hnew k e' with e2 | e2
  ·exact hL.QD k e e2
  have := (hL.lt (Or.inr (Or.inl e.symm))).2
  omega
 rcases hnew k e with e2 | e2
 ·exact hL.DC k e2 e'
 have := (hL.lt (Or.inr (Or.inr (Or.inr e'.symm)))).2
 omega
end
