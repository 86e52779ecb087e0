/- Part 39 of the proof. Conditions: none. -/
import Derived.Test.YtdkchpiinelmiaaGreatZ38
import Derived.Test.YtdkchpiinelmiaaGreatZ18
namespace Go.Proofs.YtdkchpiinelmiaaGreat.Led
set_option maxRecDepth 100000
open Go.RowKit Go.Deep Mem fN Rec
set_option maxHeartbeats 1000000 in
theorem ji (s : St) (y : Sy) (c : Int) (w : World) (h : cL w s y) (hl : s.ay.length <= 1000000 /\ ∀ p ∈ s.ay, p.items.length <= 1000000) :
    Calls Tryz.prog 16 #[s.val y, iv c] w fun e w' => e = .returned (.bool (locked s c)) /\ Below w.heap.size w w' := by
  obtain ⟨wa, cM⟩ := aj (w.alloc (.cells (s.vals y).toArray 41)); have hba : Below w.heap.size w wa := by rw [cM]; exact av _ _
  have hca : Cells wa w.heap.size 41 (s.vals y) := by rw [cM]; exact aB _ _ _ _ rfl
  have HB := ak hba; have c4 := hca.cell (j := 4) rfl; have c5 := hca.cell (j := 5) rfl; have HS := ak (h.later hba); have XB := ak hl.2; have hn0 := hl.1; obtain ⟨F, hF⟩ := ah (locked s c); have HF := ak hF; unfold St.vals at cM; unfold St.val; obtain ⟨m, hm⟩ := ah s.places.length; obtain ⟨n, hn⟩ := ah s.ay.length; have HM := ak hm; have HN := ak hn; rw [hm] at c4 cM ⊢; rw [hn] at c5 cM hn0 ⊢; rw [hF]; clear h hl hba hca hm hn hF
  go_enter Tryz.func16, Tryz.ntmps16
  go_upto_region 1 with (fail)
  rw [<- cM]; clear cM
  go_wp2_with fail
  go_loopw [5] (fun i wr => ∃ ii : Nat, ii <= n /\ i = iv (ii : Int) /\ Hid (∀ j (hj : j < s.ay.length), j < ii -> ku c s.ay[j] = false) /\ wa = wr /\ (0 < ii -> 0 <= c /\ c < (m : Int))) (fun i _ => n - (intOf i).toNat)
  case atStart => exact ⟨0, Nat.zero_le _, rfl, ak (fun j _ hj => absurd hj (by omega)), rfl, fun e => absurd e (by omega)⟩
  case round =>
    obtain ⟨ii, Ui, rfl, HD, rfl, hcc⟩ := hrel
    by_cases hlt : ii < n
    · by_cases h0 : 0 <= c
      · by_cases h1 : c < (m : Int)
        · have hil : ii < s.ay.length := by rw [HN.o]; exact hlt
          have VD : ii < y.ps.length := by rw [HS.o.ps]; exact hil
          obtain ⟨b, off, hA, hr⟩ := HS.o.ay ii (by rw [List.length_zipWith]; omega); rw [List.getElem_zipWith] at hr; have hit := (HS.o.pin ii hil VD).1; obtain ⟨p, hp⟩ := ah (s.ay[ii]); obtain ⟨z, hz⟩ := ah (y.ps[ii]); rw [hp, hz] at hr hit; have x3 := hr 3 _ rfl; have YU := ak (yE z.A p.items z.c c wa hit (XB.o p (by rw [<- hp]; exact List.getElem_mem hil))); have HE : Hid (0 <= iU p.items c -> F = true) := ak fun e => by
            rw [<- HF.o]; unfold locked; rw [(iW s c).2 ⟨h0, by rw [HM.o]; exact h1⟩, Bool.true_and, List.any_eq_true]; exact ⟨p, by rw [<- hp]; exact List.getElem_mem hil, by unfold ku; exact decide_eq_true e⟩
          have iu : Hid (¬ 0 <= iU p.items c -> ∀ j (hj : j < s.ay.length), j < ii + 1 -> ku c s.ay[j] = false) := ak fun e j hj hji => by
            by_cases e2 : j = ii
            · subst e2
              rw [hp]; exact decide_eq_false e
            exact HD.o j hj (by omega)
          obtain ⟨fi, hfi⟩ := ah (iU p.items c); obtain ⟨nn, hnn⟩ := ah p.items.length; rw [hfi] at YU HE iu; rw [hnn] at YU x3; have HA := ak hA; clear hil VD hr hit hp hz hfi hnn hA; have Xn := c5; rw [HA.o] at Xn; clear c5
          go_wp2_with fail
          refine YU.o.mono ?_; rintro e w2 ⟨rfl, rfl⟩; have c5 : wa.cell? ⟨w.heap.size, 5, none⟩ = some (.slice y.Q n y.q) := by rw [HA.o]; exact Xn
          by_cases hpos : 0 <= fi
          · have HV := ak (HE.o hpos)
            clear Xn
            go_wp2_with fail
            go_returns
            exact ⟨ret_val (congrArg Value.bool HV.o.symm), HB.o⟩
          have jL := ak (iu.o (by omega))
          clear Xn
          go_wp2_with fail
          go_roundw
          case rel => exact ⟨ii + 1, by omega, by go_num, jL, by trivial, fun _ => ⟨h0, h1⟩⟩
          case measure => simp [intOf]; omega
        have hz : ii = 0 := by
          by_cases e : ii = 0
          · exact e
          exact absurd (hcc (by omega)).2 h1
        subst hz; have HV : Hid (F = false) := ak (by
          rw [<- HF.o]; unfold locked bp; rw [HM.o, decide_eq_false h1, Bool.and_false, Bool.false_and])
        go_wp2_with fail
        go_returns
        exact ⟨ret_val (congrArg Value.bool HV.o.symm), HB.o⟩
      have hz : ii = 0 := by
        by_cases e : ii = 0
        · exact e
        exact absurd (hcc (by omega)).1 h0
      subst hz; have HV : Hid (F = false) := ak (by
        rw [<- HF.o]; unfold locked bp; rw [decide_eq_false h0, Bool.false_and, Bool.false_and])
      go_wp2_with fail
      go_returns
      exact ⟨ret_val (congrArg Value.bool HV.o.symm), HB.o⟩
    obtain rfl : ii = n := by omega
    have HV : Hid (F = false) := ak (by
      rw [<- HF.o]; unfold locked; have : s.ay.any (ku c) = false := by
        rw [List.any_eq_false]; intro x hx; obtain ⟨j, hj, rfl⟩ := List.getElem_of_mem hx; rw [HD.o j hj (by have := HN.o; omega)]
        decide
      rw [this, Bool.and_false])
    clear hcc
    go_wp2_with fail
    go_returns
    exact ⟨ret_val (congrArg Value.bool HV.o.symm), HB.o⟩
def uM (base _b k : Nat) : Prop := base <= k
structure fq (S : Nat -> Prop) (B : Nat) (w : World) (s : St) (y : Sy) : Prop where
 rowP : w.ownsRow B 69 5 (.slice y.P s.places.length y.p) s.places.length (s.places.map Pl.vals).flatten
 jk : w.ownsRow B 71 5 (.slice y.Q s.ay.length y.q) s.ay.length (List.zipWith Pr.vals s.ay y.ps).flatten
 jv : w.ownsRow B 75 4 (.slice y.D s.dec.length y.d) s.dec.length (s.dec.map De.vals).flatten
 jw : w.ownsRow B 77 6 (.slice y.C s.com.length y.c) s.com.length (List.zipWith Co.vals s.com y.cs).flatten
 ps : y.ps.length = s.ay.length
 cs : y.cs.length = s.com.length
 pin : ∀ k (h : k < s.ay.length) (h' : k < y.ps.length), Fr (fun j => S j \/ rowsOf y j) w s.ay[k].items s.ay[k].nodes y.ps[k]
 cin : ∀ k (h : k < s.com.length) (h' : k < y.cs.length), Fr (fun j => S j \/ rowsOf y j) w s.com[k].items s.com[k].nodes y.cs[k]
 PQ : um (blk y.P) (blk y.Q)
 PD : um (blk y.P) (blk y.D)
 PC : um (blk y.P) (blk y.C)
 QD : um (blk y.Q) (blk y.D)
 QC : um (blk y.Q) (blk y.C)
 DC : um (blk y.D) (blk y.C)
theorem fq.sees {S : Nat -> Prop} {B : Nat} {w : World} {s : St} {y : Sy} (h : fq S B w s y) : cL w s y := by
 have hP := gV (vs := s.places.map Pl.vals) (by rw [List.length_map]; exact h.rowP) (aU _).len; have hQ := gV (vs := List.zipWith Pr.vals s.ay y.ps) (by rw [cY _ h.ps]; exact h.jk) (h_ _ _).len; have hD := gV (vs := s.dec.map De.vals) (by rw [List.length_map]; exact h.jv) (fG _).len; have hC := gV (vs := List.zipWith Co.vals s.com y.cs) (by rw [cY _ h.cs]; exact h.jw) (iI _ _).len; exact ⟨hP.1, hQ.1, hD.1, hC.1, h.ps, h.cs, fun k h1 h2 => (h.pin k h1 h2).two, fun k h1 h2 => (h.cin k h1 h2).two, hP.2, hQ.2, hD.2, hC.2⟩
theorem fq.lt {S : Nat -> Prop} {B : Nat} {w : World} {s : St} {y : Sy} (h : fq S B w s y) {k : Nat} (hk : rowsOf y k) : B <= k /\ k < w.heap.size := by
 rcases hk with e | e | e | e
 ·exact h.rowP.lt k (by rw [aK]; exact e.symm)
 ·exact h.jk.lt k (by rw [aK]; exact e.symm)
 ·exact h.jv.lt k (by rw [aK]; exact e.symm)
 exact h.jw.lt k (by rw [aK]; exact e.symm)
theorem fq.only {S T : Nat -> Prop} {B : Nat} {w w' : World} {s : St} {y : Sy} (h : fq S B w s y) (ho : Only T w w') (hT : ∀ k, k < w.heap.size -> T k -> S k) (hd : ∀ k, rowsOf y k -> ¬ T k) : fq S B w' s y := by
 have ho' : Only (fun j => S j \/ rowsOf y j) w w' := ho.mono fun k hk e => Or.inl (hT k hk e)
 exact ⟨aF h.rowP ho fun k e => hd k (Or.inl (by rw [aK] at e; exact e.symm)), aF h.jk ho fun k e => hd k (Or.inr (Or.inl (by rw [aK] at e; exact e.symm))), aF h.jv ho fun k e => hd k (Or.inr (Or.inr (Or.inl (by rw [aK] at e; exact e.symm)))), aF h.jw ho fun k e => hd k (Or.inr (Or.inr (Or.inr (by rw [aK] at e; exact e.symm)))),
  h.ps, h.cs, fun k h1 h2 => (h.pin k h1 h2).next ho' fun _ e => Or.inl e, fun k h1 h2 => (h.cin k h1 h2).next ho' fun _ e => Or.inl e, h.PQ, h.PD, h.PC, h.QD, h.QC, h.DC⟩
theorem fq.later {S : Nat -> Prop} {B : Nat} {w w' : World} {s : St} {y : Sy} (h : fq S B w s y) (hb : Below w.heap.size w w') : fq S B w' s y := h.only (T := fun _ => False) (Only.of_below hb) (fun _ _ e => e.elim) fun _ _ e => e
structure fh (base : Nat) (w : World) (b : Nat) (s : St) (y : Sy) : Prop where
 low : base <= b
 br : Cells w b 41 (s.vals y)
 lists : fq (uM base b) base w s y
 off : ¬ rowsOf y b
 room : b < w.heap.size
section
variable {base b : Nat} {w w' : World} {s : St} {y : Sy}
theorem fh.sees (h : fh base w b s y) : cL w s y := h.lists.sees
theorem fh.later (h : fh base w b s y) (hb : Below w.heap.size w w') : fh base w' b s y := ⟨h.low, h.br.later hb, h.lists.later hb, h.off, Nat.lt_of_lt_of_le h.room hb.size⟩
theorem fh.put {s' : St} (h : fh base w b s y) (ho : Only (fun k => k = b) w w') (hc : Cells w' b 41 (s'.vals y)) (e1 : s'.places = s.places) (e2 : s'.ay = s.ay) (e3 : s'.dec = s.dec) (e4 : s'.com = s.com) : fh base w' b s' y := by
 have hl := h.lists.only ho (fun _ _ e => by have fO := h.low; unfold uM; omega) (fun k hk e => h.off (by rw [<- e]; exact hk))
 obtain ⟨n1, n2, n3, n4, pl, pr, de, co⟩ := s; obtain ⟨m1, m2, m3, m4, KU, pr', de', co'⟩ := s'; simp only at e1 e2 e3 e4; subst e1 e2 e3 e4; exact ⟨h.low, hc, ⟨hl.rowP, hl.jk, hl.jv, hl.jw, hl.ps, hl.cs, hl.pin, hl.cin, hl.PQ, hl.PD, hl.PC, hl.QD, hl.QC, hl.DC⟩, h.off, Nat.lt_of_lt_of_le h.room ho.size⟩
theorem fh.Lu {l' : List Pl} (h : fh base w b s y) (ho : Only (fun k => some k = blk y.P) w w') (hlen : l'.length = s.places.length) (hrow : w'.ownsRow base 69 5 (.slice y.P l'.length y.p) l'.length (l'.map Pl.vals).flatten) : fh base w' b { s with places := l' } y := by
 have hsub : Only (fun j => uM base b j \/ rowsOf y j) w w' := ho.mono fun k _ e => Or.inr (Or.inl e)
 have hQ : ∀ k, (Value.slice y.Q s.ay.length y.q).ownBlock = some k -> ¬ some k = blk y.P := fun k e e' => by rw [aK] at e; exact h.lists.PQ k e'.symm e
 have hD : ∀ k, (Value.slice y.D s.dec.length y.d).ownBlock = some k -> ¬ some k = blk y.P := fun k e e' => by rw [aK] at e; exact h.lists.PD k e'.symm e
 have hC : ∀ k, (Value.slice y.C s.com.length y.c).ownBlock = some k -> ¬ some k = blk y.P := fun k e e' => by rw [aK] at e; exact h.lists.PC k e'.symm e
 refine ⟨h.low, ?_, ⟨hrow, aF h.lists.jk ho hQ, aF h.lists.jv ho hD, aF h.lists.jw ho hC, h.lists.ps, h.lists.cs, fun k h1 h2 => (h.lists.pin k h1 h2).next hsub fun _ e => Or.inl e, fun k h1 h2 => (h.lists.cin k h1 h2).next hsub fun _ e => Or.inl e,
  h.lists.PQ, h.lists.PD, h.lists.PC, h.lists.QD, h.lists.QC, h.lists.DC⟩, h.off, Nat.lt_of_lt_of_le h.room ho.size⟩
 have hc := aJ h.br ho (fun e => h.off (Or.inl e)); have e : ({ s with places := l' } : St).vals y = s.vals y := by unfold St.vals; rw [hlen]
 rw [e]; exact hc
theorem fh.Lv {l' : List Co} (h : fh base w b s y) (ho : Only (fun k => some k = blk y.C) w w') (hlen : l'.length = s.com.length) (hit : ∀ k (h1 : k < l'.length) (h2 : k < s.com.length), l'[k].items = s.com[k].items /\ l'[k].nodes = s.com[k].nodes)
  (hrow : w'.ownsRow base 77 6 (.slice y.C l'.length y.c) l'.length (List.zipWith Co.vals l' y.cs).flatten) : fh base w' b { s with com := l' } y := by
 have hsub : Only (fun j => uM base b j \/ rowsOf y j) w w' := ho.mono fun k _ e => Or.inr (Or.inr (Or.inr (Or.inr e)))
 have hQ : ∀ k, (Value.slice y.Q s.ay.length y.q).ownBlock = some k -> ¬ some k = blk y.C := fun k e e' => by rw [aK] at e; exact h.lists.QC k e e'.symm
 have hD : ∀ k, (Value.slice y.D s.dec.length y.d).ownBlock = some k -> ¬ some k = blk y.C := fun k e e' => by rw [aK] at e; exact h.lists.DC k e e'.symm
 have hP : ∀ k, (Value.slice y.P s.places.length y.p).ownBlock = some k -> ¬ some k = blk y.C := fun k e e' => by rw [aK] at e; exact h.lists.PC k e e'.symm
 refine ⟨h.low, ?_, ⟨aF h.lists.rowP ho hP, aF h.lists.jk ho hQ, aF h.lists.jv ho hD, hrow, h.lists.ps, h.lists.cs.trans hlen.symm, fun k h1 h2 => (h.lists.pin k h1 h2).next hsub fun _ e => Or.inl e, fun k h1 h2 => ?_,
  h.lists.PQ, h.lists.PD, h.lists.PC, h.lists.QD, h.lists.QC, h.lists.DC⟩, h.off, Nat.lt_of_lt_of_le h.room ho.size⟩
 ·have hc := aJ h.br ho (fun e => h.off (Or.inr (Or.inr (Or.inr e))))
  have e : ({ s with com := l' } : St).vals y = s.vals y := by unfold St.vals; rw [hlen]
  rw [e]; exact hc
 have h3 : k < s.com.length := by rw [<- hlen]; exact h1
 have := (h.lists.cin k h3 h2).next hsub fun _ e => Or.inl e
 rw [<- (hit k h1 h3).1, <- (hit k h1 h3).2] at this; exact this
theorem fh.D2 {w1 : World} {A : Option Addr} {c : Nat} {l' : List Pr} {ps' : List Lay} (h : fh base w b s y) (ho : Only (fun k => some k = blk y.Q) w w1) (hrow : w1.ownsRow base 71 5 (.slice A l'.length c) l'.length (List.zipWith Pr.vals l' ps').flatten) (hps : ps'.length = l'.length)
  (hnew : ∀ j, blk A = some j -> blk y.Q = some j \/ w.heap.size <= j) (zH : ∀ k (h : k < l'.length) (h' : k < ps'.length), Fr (fun j => uM base b j \/ rowsOf { y with Q := A, q := c, ps := ps' } j) w1 l'[k].items l'[k].nodes ps'[k])
  (iH : Only (fun k => k = b) w1 w') (hc : Cells w' b 41 (({ s with ay := l' } : St).vals { y with Q := A, q := c, ps := ps' })) : fh base w' b { s with ay := l' } { y with Q := A, q := c, ps := ps' } := by
 have hlt := h.br.lt; have gg : ∀ k, rowsOf { y with Q := A, q := c, ps := ps' } k -> rowsOf y k \/ w.heap.size <= k := fun k e => by
  rcases e with e | e | e | e
  ·exact Or.inl (Or.inl e)
  ·exact (grown hnew e).imp_left fun h => Or.inr (Or.inl h)
  ·exact Or.inl (Or.inr (Or.inr (Or.inl e)))
  exact Or.inl (Or.inr (Or.inr (Or.inr e)))
 have hoff : ¬ rowsOf { y with Q := A, q := c, ps := ps' } b := fun e => by
  rcases gg b e with e | e
  ·exact h.off e
  omega
 have hL := h.lists; have hP : ∀ k, (Value.slice y.P s.places.length y.p).ownBlock = some k -> ¬ some k = blk y.Q := fun k e e' => by rw [aK] at e; exact hL.PQ k e e'.symm
 have hD : ∀ k, (Value.slice y.D s.dec.length y.d).ownBlock = some k -> ¬ some k = blk y.Q := fun k e e' => by rw [aK] at e; exact hL.QD k e'.symm e
 have hC : ∀ k, (Value.slice y.C s.com.length y.c).ownBlock = some k -> ¬ some k = blk y.Q := fun k e e' => by rw [aK] at e; exact hL.QC k e'.symm e
 have b1 : ∀ k, (Value.slice y.P s.places.length y.p).ownBlock = some k -> ¬ k = b := fun k e e' => h.off (Or.inl (by rw [aK] at e; rw [<- e']; exact e.symm))
 have b2 : ∀ k, (Value.slice A l'.length c).ownBlock = some k -> ¬ k = b := fun k e e' => hoff (Or.inr (Or.inl (by rw [aK] at e; rw [<- e']; exact e.symm)))
 have b3 : ∀ k, (Value.slice y.D s.dec.length y.d).ownBlock = some k -> ¬ k = b := fun k e e' => h.off (Or.inr (Or.inr (Or.inl (by rw [aK] at e; rw [<- e']; exact e.symm))))
 have b4 : ∀ k, (Value.slice y.C s.com.length y.c).ownBlock = some k -> ¬ k = b := fun k e e' => h.off (Or.inr (Or.inr (Or.inr (by rw [aK] at e; rw [<- e']; exact e.symm))))
 have hs2 : ∀ (y' : Sy), Only (fun j => uM base b j \/ rowsOf y' j) w1 w' := fun y' => iH.mono fun k _ e => Or.inl (by have fO := h.low; unfold uM; omega)
 have iT : ∀ X, um (blk y.Q) X -> (∀ k, X = some k -> k < w.heap.size) -> um (blk A) X := fun X hX hl k e e' => by
  rcases hnew k e with e2 | e2
  ·exact hX k e2 e'
  have := hl k e'
  omega
 refine ⟨h.low, hc, ⟨aF (aF hL.rowP ho hP) iH b1, aF hrow iH b2, aF (aF hL.jv ho hD) iH b3, aF (aF hL.jw ho hC) iH b4, hps, hL.cs, fun k h1 h2 => (zH k h1 h2).next (hs2 _) fun _ e => Or.inl e, fun k h1 h2 => ?_,
  fun k e e' => ?_, hL.PD, hL.PC, ?_, ?_, hL.DC⟩, hoff, Nat.lt_of_lt_of_le h.room (Nat.le_trans ho.size iH.size)⟩
 ·have h3 := (hL.cin k h1 h2).next (ho.mono fun j _ e => Or.inr (Or.inr (Or.inl e))) (T := fun j => uM base b j \/ rowsOf { y with Q := A, q := c, ps := ps' } j) fun j e => by
   rcases e with e | e
   ·exact Or.inl (Or.inl e)
   rcases gg j e with e | e
   ·exact Or.inl (Or.inr e)
   exact Or.inr e
  exact h3.next (hs2 _) fun _ e => Or.inl e
 ·exact iT (blk y.P) (fun j e1 e2 => hL.PQ j e2 e1) (fun j e1 => (hL.lt (Or.inl e1.symm)).2) k e' e
 ·exact iT (blk y.D) hL.QD fun j e1 => (hL.lt (Or.inr (Or.inr (Or.inl e1.symm)))).2
 exact iT (blk y.C) hL.QC fun j e1 => (hL.lt (Or.inr (Or.inr (Or.inr e1.symm)))).2
theorem fh.newC {w1 : World} {A : Option Addr} {c : Nat} {l' : List Co} {cs' : List Lay} (h : fh base w b s y) (ho : Only (fun k => some k = blk y.C) w w1) (hrow : w1.ownsRow base 77 6 (.slice A l'.length c) l'.length (List.zipWith Co.vals l' cs').flatten) (hps : cs'.length = l'.length)
  (hnew : ∀ j, blk A = some j -> blk y.C = some j \/ w.heap.size <= j) (zH : ∀ k (h : k < l'.length) (h' : k < cs'.length), Fr (fun j => uM base b j \/ rowsOf { y with C := A, c := c, cs := cs' } j) w1 l'[k].items l'[k].nodes cs'[k])
  (iH : Only (fun k => k = b) w1 w') (hc : Cells w' b 41 (({ s with com := l' } : St).vals { y with C := A, c := c, cs := cs' })) : fh base w' b { s with com := l' } { y with C := A, c := c, cs := cs' } := by
 have hlt := h.br.lt; have gg : ∀ k, rowsOf { y with C := A, c := c, cs := cs' } k -> rowsOf y k \/ w.heap.size <= k := fun k e => by
  rcases e with e | e | e | e
  ·exact Or.inl (Or.inl e)
  ·exact Or.inl (Or.inr (Or.inl e))
  ·exact Or.inl (Or.inr (Or.inr (Or.inl e)))
  exact (grown hnew e).imp_left fun h => Or.inr (Or.inr (Or.inr h))
 have hoff : ¬ rowsOf { y with C := A, c := c, cs := cs' } b := fun e => by
  rcases gg b e with e | e
  ·exact h.off e
  omega
 have hL := h.lists; have hP : ∀ k, (Value.slice y.P s.places.length y.p).ownBlock = some k -> ¬ some k = blk y.C := fun k e e' => by rw [aK] at e; exact hL.PC k e e'.symm
 have hD : ∀ k, (Value.slice y.D s.dec.length y.d).ownBlock = some k -> ¬ some k = blk y.C := fun k e e' => by rw [aK] at e; exact hL.DC k e e'.symm
 have hQ : ∀ k, (Value.slice y.Q s.ay.length y.q).ownBlock = some k -> ¬ some k = blk y.C := fun k e e' => by rw [aK] at e; exact hL.QC k e e'.symm
 have b1 : ∀ k, (Value.slice y.P s.places.length y.p).ownBlock = some k -> ¬ k = b := fun k e e' => h.off (Or.inl (by rw [aK] at e; rw [<- e']; exact e.symm))
 have b2 : ∀ k, (Value.slice A l'.length c).ownBlock = some k -> ¬ k = b := fun k e e' => hoff (Or.inr (Or.inr (Or.inr (by rw [aK] at e; rw [<- e']; exact e.symm))))
 have b3 : ∀ k, (Value.slice y.D s.dec.length y.d).ownBlock = some k -> ¬ k = b := fun k e e' => h.off (Or.inr (Or.inr (Or.inl (by rw [aK] at e; rw [<- e']; exact e.symm))))
 have b4 : ∀ k, (Value.slice y.Q s.ay.length y.q).ownBlock = some k -> ¬ k = b := fun k e e' => h.off (Or.inr (Or.inl (by rw [aK] at e; rw [<- e']; exact e.symm)))
 have hs2 : ∀ (y' : Sy), Only (fun j => uM base b j \/ rowsOf y' j) w1 w' := fun y' => iH.mono fun k _ e => Or.inl (by have fO := h.low; unfold uM; omega)
 have iT : ∀ X, um X (blk y.C) -> (∀ k, X = some k -> k < w.heap.size) -> um X (blk A) := fun X hX hl k e' e => by
  rcases hnew k e with e2 | e2
  ·exact hX k e' e2
  have := hl k e'
  omega
 refine ⟨h.low, hc, ⟨aF (aF hL.rowP ho hP) iH b1, aF (aF hL.jk ho hQ) iH b4, aF (aF hL.jv ho hD) iH b3, aF hrow iH b2, hL.ps, hps, fun k h1 h2 => ?_, fun k h1 h2 => (zH k h1 h2).next (hs2 _) fun _ e => Or.inl e,
  hL.PQ, hL.PD, ?_, hL.QD, ?_, ?_⟩, hoff, Nat.lt_of_lt_of_le h.room (Nat.le_trans ho.size iH.size)⟩
 ·have h3 := (hL.pin k h1 h2).next (ho.mono fun j _ e => Or.inr (Or.inr (Or.inr (Or.inr e)))) (T := fun j => uM base b j \/ rowsOf { y with C := A, c := c, cs := cs' } j) fun j e => by
   rcases e with e | e
   ·exact Or.inl (Or.inl e)
   rcases gg j e with e | e
   ·exact Or.inl (Or.inr e)
   exact Or.inr e
  exact h3.next (hs2 _) fun _ e => Or.inl e
 ·exact iT (blk y.P) hL.PC (fun j e1 => (hL.lt (Or.inl e1.symm)).2)
 ·exact iT (blk y.Q) hL.QC fun j e1 => (hL.lt (Or.inr (Or.inl e1.symm))).2
 exact iT (blk y.D) hL.DC fun j e1 => (hL.lt (Or.inr (Or.inr (Or.inl e1.symm)))).2
end
section
variable {base b : Nat} {s s' s2 : St} {y : Sy} {w w1 w2 w' : World}
end
section
variable {base b : Nat} {s : St} {y : Sy} {w : World}
theorem fh.place (h : fh base w b s y) {c : Int} (hc : bp s c = true) : ∃ (pb k : Nat) (pl : Pl), y.P = some ⟨pb, 0, none⟩ /\ c = (k : Int) /\ k < s.places.length /\ s.places[k]? = some pl /\ cw s c = pl := by
 obtain ⟨h0, h1⟩ := (iW s c).1 hc; obtain ⟨k, rfl⟩ := Int.eq_ofNat_of_zero_le h0; have hk : k < s.places.length := by omega
 rcases h.lists.rowP.2 with ⟨_, h2⟩ | ⟨g, cap, cur, e, _⟩
 ·omega
 simp only [Value.slice.injEq] at e
 exact ⟨g, k, s.places[k], e.1, rfl, hk, List.getElem?_eq_getElem hk, kB s hk⟩
theorem fh.rowP (h : fh base w b s y) {pb : Nat} (hP : y.P = some ⟨pb, 0, none⟩) : w.ownsRow base 69 5 (.slice (some ⟨pb, 0, none⟩) s.places.length y.p) s.places.length (s.places.map Pl.vals).flatten := by rw [<- hP]; exact h.lists.rowP
theorem fh.bg (h : fh base w b s y) {pb k : Nat} {pl : Pl} (hP : y.P = some ⟨pb, 0, none⟩) (hpl : s.places[k]? = some pl) {j : Nat} {v : Value} (hv : pl.vals[j]? = some v) : w.cell? ⟨pb, k * 5 + j, none⟩ = some v := by
 obtain ⟨hc, _⟩ := cR (h.rowP hP); have hk := (List.getElem?_eq_some_iff.1 hpl).1; have hj : j < 5 := (List.getElem?_eq_some_iff.1 hv).1; refine hc.cell ?_; rw [eG (sz := 5) (aU _).len k (by rw [List.length_map]; exact hk) j hj, List.getElem_map, <- hv, (List.getElem?_eq_some_iff.1 hpl).2]
theorem fh.gP (h : fh base w b s y) {pb k : Nat} (hP : y.P = some ⟨pb, 0, none⟩) (hk : k < s.places.length) {j : Nat} (hj : j < 5) : w.frozen? ⟨pb, k * 5 + j, none⟩ = false := by
 obtain ⟨hc, _⟩ := cR (h.rowP hP); refine hc.frozen ?_; rw [aW (aU _).len, List.length_map]; have := Nat.mul_le_mul_right 5 hk
 omega
theorem fh.putCells (h : fh base w b s y) {pb k : Nat} (hP : y.P = some ⟨pb, 0, none⟩) (pl : Pl) (hk : k < s.places.length) (l : List Value) (o : Nat) (h1 : ∀ v ∈ l, v.oneCell' = true) (ho : o + l.length <= 5)
  (he : ∀ q, s.places[k]? = some q -> over q.vals o l = pl.vals) : fh base (w.setCells pb (k * 5 + o) l) b { s with places := s.places.set k pl } y /\ Only (fun k => some k = blk y.P) w (w.setCells pb (k * 5 + o) l) /\ w.there pb (k * 5 + o) l.length := by
 have hle : k * 5 + o + l.length <= s.places.length * 5 := by have := Nat.mul_le_mul_right 5 hk; omega
 obtain ⟨r1, r2, r3⟩ := mo (h.rowP hP) hle h1; have tU : Only (fun k => some k = blk y.P) w (w.setCells pb (k * 5 + o) l) := r2.mono fun j _ e => by rw [hP, e]; rfl
 refine ⟨h.Lu (l' := s.places.set k pl) tU (by rw [List.length_set]) ?_, tU, r3⟩; rw [List.length_set, hP]; have e : over (s.places.map Pl.vals).flatten (k * 5 + o) l = ((s.places.set k pl).map Pl.vals).flatten := by
  rw [List.map_set, <- mq (sz := 5) (aU _).len rfl (by rw [List.length_map]; exact hk), <- he _ (List.getElem?_eq_getElem hk)]; have hf := aW (vs := s.places.map Pl.vals) (sz := 5) (aU _).len; rw [List.length_map] at hf; have hq : (s.places.map Pl.vals).flatten.drop (k * 5) = s.places[k].vals ++ (s.places.map Pl.vals).flatten.drop ((k + 1) * 5) := by
   rw [cN (aU _).len k (by rw [List.length_map]; omega), cN (aU _).len (k + 1) (by rw [List.length_map]; omega), List.drop_eq_getElem_cons (by rw [List.length_map]; exact hk), List.getElem_map, List.flatten_cons]
  have hs : (s.places.map Pl.vals).flatten = (s.places.map Pl.vals).flatten.take (k * 5) ++ (s.places[k].vals ++ (s.places.map Pl.vals).flatten.drop ((k + 1) * 5)) := by rw [<- hq, List.take_append_drop]
  have hA : ((s.places.map Pl.vals).flatten.take (k * 5)).length = k * 5 := by rw [List.length_take]; omega
  generalize (s.places.map Pl.vals).flatten.take (k * 5) = A at hs hA
  generalize (s.places.map Pl.vals).flatten.drop ((k + 1) * 5) = Z at hs hq
  rw [hs, <- hA, jE A s.places[k].vals Z o l ho]; rw [jH A s.places[k].vals Z (over s.places[k].vals o l) (dR (show o + l.length <= s.places[k].vals.length from ho))]
 rw [<- e]; exact r1
end
