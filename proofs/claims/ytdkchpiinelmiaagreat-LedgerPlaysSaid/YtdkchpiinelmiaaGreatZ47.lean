/- Part 47 of the proof. Conditions: none. -/
import Derived.Test.YtdkchpiinelmiaaGreatZ46
namespace Go.Proofs.YtdkchpiinelmiaaGreat.Led
set_option maxRecDepth 100000
open Go.RowKit Go.Deep Mem fN Rec
theorem tH (s : St) (a b : List It) : bK s (a ++ b) = if bK s a = 0 then bK s b else bK s a := by
 induction a with
 | nil => rfl
 | cons x a ih =>
  show (if cC s x = 0 then bK s (a ++ b) else cC s x) = if (if cC s x = 0 then bK s a else cC s x) = 0 then bK s b else (if cC s x = 0 then bK s a else cC s x)
  by_cases h : cC s x = 0
  ·rw [if_pos h, if_pos h, ih]
  rw [if_neg h, if_neg h, if_neg h]
theorem E5 {s : St} {l : List It} {k : Nat} (h : k < l.length) (h0 : bK s (l.take k) = 0) (hx : cC s l[k] = 0) : bK s (l.take (k + 1)) = 0 := by
 rw [List.take_succ_eq_append_getElem h, tH, if_pos h0]; show (if cC s l[k] = 0 then bK s [] else cC s l[k]) = 0
 rw [if_pos hx]
 rfl
theorem AL {s : St} {l : List It} {k : Nat} (h : k < l.length) (h0 : bK s (l.take k) = 0) (hx : cC s l[k] ≠ 0) : bK s l = cC s l[k] := by
 conv => lhs; rw [<- List.take_append_drop k l]
 rw [tH, if_pos h0, List.drop_eq_getElem_cons h]; show (if cC s l[k] = 0 then bK s (l.drop (k + 1)) else cC s l[k]) = _
 rw [if_neg hx]
set_option maxHeartbeats 4000000 in
theorem T6 {B0 : Nat} {w0 : World} {g2 g6 : Nat} {s : St} {y : Sy} {r : Rc} {z : Lay} (hk : r.kind = 4) (hkn : known s r.tid = false) (hal : jB s r.items = true) (hab : above s [r.tid.node] = false) (ha2 : above s r.nodes = false) (hpt : cX s r.nodes = true) (hn : bK s r.items = 0 -> room s = true -> xq [1, 1, 1, 1, 1, 1, 1, 1, 1, 0, 1, 0, 1, 1, 1, 1, 1, 1, 1, 1] B0 w0 g2 g6 s y r z) : xq [1, 1, 1, 1, 1, 1, 1, 1, 1, 0, 1, 0, 1, 1, 1, 1, 1, 1] B0 w0 g2 g6 s y r z := by
 intro wr h Q hQ cc hc; iterate 546 intro _
 conv at hc => rhs; whnf
 subst hc; have HQ := ak hQ; have aN := ak h
 apply wp_seq_k
 intro K hK; have ju := ak hK; clear hK; clear h hQ; obtain ⟨wa, cM⟩ := aj wr; subst cM; have HF : Hid (aC s r = bq s r) := ak (by rw [bN aN.o.rt]; unfold aV; rw [hk]; rfl); have iu := ak hn; have qX := ak hkn; have Jp := ak hal; have FI := ak hab; have rS := ak ha2; have bU := ak hpt; obtain ⟨SK, _⟩ := xP aN.o.rt hk; obtain ⟨n, hn⟩ := ah r.items.length; have HN := ak hn; rw [hn] at SK; clear hn hkn hk hal hab ha2 hpt
 go_wp2_with fail
 go_loopw [13] (fun v wq => ∃ k : Nat, v = iv (k : Int) /\ k <= n /\ Hid (bK s (r.items.take k) = 0) /\ Hid (Below wa.heap.size wa wq)) (fun v _ => n - (intOf v).toNat)
 case atStart => exact ⟨0, rfl, Nat.zero_le _, ak rfl, ak (Below.refl _ _)⟩
 case round =>
  obtain ⟨k, rfl, hkn, YS, mV⟩ := hrel; have jP := ak (aN.o.later mV.o); have q4 := jP.o.dF.cell (j := 4) rfl; rw [HN.o] at q4
  by_cases hlt : k < n
  ·have hkl : k < r.items.length := by rw [HN.o]; exact hlt
   obtain ⟨ib, off, hA, hit⟩ := jP.o.fr.two.1 k hkl; rw [hA] at q4; obtain ⟨x, hx⟩ := ah (r.items[k]); have Gc : Hid (cC s x = 0 -> bK s (r.items.take (k + 1)) = 0) := ak fun e => E5 hkl YS.o (by rw [hx]; exact e)
   have sH : Hid (cC s x ≠ 0 -> bK s r.items = cC s x) := ak fun e => (AL hkl YS.o (by rw [hx]; exact e)).trans (by rw [hx])
   rw [hx] at hit; have x0 := hit.cell; have x1 := hit.version; have x2 := hit.value; have x3 := hit.write; have x4 := hit.new; have z1 : (0 : Int) <= (k : Int) := by omega
   have z2 : (k : Int) < (n : Int) := by omega
   obtain ⟨we, jf⟩ := aj (wr.alloc (.cells #[iv x.cell, iv x.version, iv x.value, .bool x.write, iv x.new] 64)); have tV : Below wr.heap.size wr we := by rw [jf]; exact av _ _
   have Yx : Hid (Cells we wr.heap.size 64 x.vals) := ak (by rw [jf]; exact aB wr 64 x.vals _ rfl); have Gf := ak (mV.o.trans (tV.mono mV.o.size)); have Wt := ak (aN.o.later Gf.o); clear hkl hA hx hit tV
   go_upto_region 43 with (fail)
   rw [<- jf]; obtain ⟨gb, hgb⟩ := ah wr.heap.size; rw [hgb] at Yx
   try rw [hgb]
   clear jf hgb x0 x1 x2 x3 x4 q4 z1 z2; have e0 := Yx.o.cell (j := 0) rfl
   apply wp_region_lit
   refine aD rfl 41 _ rfl g6 (s.va y) rfl rfl (Wt.o.fi.own.br) Tryz.underlying41 rfl (by kernel_rfl) ?_
   go_wp2_with fail
   refine (vr s y x.cell we Wt.o.fi.own.sees).mono ?_; rintro e wl ⟨rfl, hbl⟩; have kd := ak (Gf.o.trans (hbl.mono Gf.o.size)); have sG := ak (aN.o.later kd.o); have Uq := ak (Yx.o.later hbl); clear e0 hbl; obtain ⟨ow, how⟩ := ah (owns s x.cell); have HOW := ak how; rw [how]; clear how
   cases ow with
   | false =>
    have GA : Hid (bK s r.items = 8) := ak (by
     have e : cC s x = 8 := by unfold cC; rw [if_pos HOW.o]
     rw [<- e]; exact sH.o (by rw [e]; decide))
    have fJ : Hid ((aC s r).2 = 8) := ak (by
     have h1 := GA.o; rw [HF.o]; unfold bq; rw [if_neg (by rw [qX.o]; decide), if_neg (by rw [Jp.o]; decide), if_neg (by rw [FI.o]; decide), if_neg (by rw [rS.o]; decide), if_neg (by rw [bU.o]; decide), if_neg (by rw [h1]; decide)]; exact h1)
    go_upto_region 44 with (fail)
    apply wp_region_lit
    refine Go.Great.wpList_runTo rfl (some 200) rfl (.agg ZA) wl (by go_simp) ?_; refine aA rfl 41 _ _ rfl (g2 + 2) ZA ZL rfl rfl rfl (sG.o.fi).res rfl (by kernel_rfl) (by simp [Value.oneCell']) fun w5 hpt hov => ?_
    have bU := ak hpt; have cj := ak hov; clear hpt hov
    go_wp2_with fail
    refine HQ.o _ _ ?_; refine bodyPost_ret (v := .tuple #[.agg ZA, iv 8]) ((aI (p := 4) (q := 5) (ty := 41) (by rfl) _ bU.o _ (by rfl) Tryz.underlying41 rfl (by kernel_rfl)).trans (by rfl)) rfl ?_; exact bC (sG.o.fi) cj.o (fJ.o) (by decide)
   | true =>
    have e0 := Uq.o.cell (j := 0) rfl
    go_upto_region 45 with (fail)
    apply wp_region_lit
    refine aD rfl 41 _ rfl g6 (s.va y) rfl rfl (sG.o.fi.own.br) Tryz.underlying41 rfl (by kernel_rfl) ?_
    go_wp2_with fail
    refine (ji s y x.cell wl sG.o.fi.own.sees ⟨(aN.o.sm.kZ).1, (aN.o.sm.kZ).2.1⟩).mono ?_; rintro e wm ⟨rfl, hbl⟩; have HBM := ak (kd.o.trans (hbl.mono kd.o.size)); have Eb := ak (aN.o.later HBM.o); have HXM := ak (Uq.o.later hbl); clear e0 hbl; obtain ⟨lk, hlk⟩ := ah (locked s x.cell); have Jk := ak hlk; rw [hlk]; clear hlk
    cases lk with
    | true =>
     have GA : Hid (bK s r.items = 12) := ak (by
      have e : cC s x = 12 := by unfold cC; rw [if_neg (by rw [HOW.o]; decide), if_pos Jk.o]
      rw [<- e]; exact sH.o (by rw [e]; decide))
     have fJ : Hid ((aC s r).2 = 12) := ak (by
      have h1 := GA.o; rw [HF.o]; unfold bq; rw [if_neg (by rw [qX.o]; decide), if_neg (by rw [Jp.o]; decide), if_neg (by rw [FI.o]; decide), if_neg (by rw [rS.o]; decide), if_neg (by rw [bU.o]; decide), if_neg (by rw [h1]; decide)]; exact h1)
     go_upto_region 46 with (fail)
     apply wp_region_lit
     refine Go.Great.wpList_runTo rfl (some 205) rfl (.agg ZA) wm (by go_simp) ?_; refine aA rfl 41 _ _ rfl (g2 + 2) ZA ZL rfl rfl rfl (Eb.o.fi).res rfl (by kernel_rfl) (by simp [Value.oneCell']) fun w5 hpt hov => ?_
     have bU := ak hpt; have cj := ak hov; clear hpt hov
     go_wp2_with fail
     refine HQ.o _ _ ?_; refine bodyPost_ret (v := .tuple #[.agg ZA, iv 12]) ((aI (p := 4) (q := 5) (ty := 41) (by rfl) _ bU.o _ (by rfl) Tryz.underlying41 rfl (by kernel_rfl)).trans (by rfl)) rfl ?_; exact bC (Eb.o.fi) cj.o (fJ.o) (by decide)
    | false =>
     obtain ⟨pb, jj, pl, hP, Uk, hjl, hpl, hat⟩ := Eb.o.fi.own.place (jD HOW.o); have c4 := Eb.o.fi.own.br.cell (j := 4) rfl; obtain ⟨np, hnp⟩ := ah s.places.length; rw [hP, hnp] at c4; have p3 := Eb.o.fi.own.bg hP hpl (j := 3) rfl; obtain ⟨e0, e1⟩ := HXM.o.q2; rw [Uk] at e0; obtain ⟨vv, hvv⟩ := ah pl.version; obtain ⟨xv, hxv⟩ := ah x.version; have lC : Hid (cC s x = if vv ≠ xv then 13 else 0) := ak (by
      unfold cC; rw [if_neg (by rw [HOW.o]; decide), if_neg (by rw [Jk.o]; decide), hat, hvv, hxv])
     rw [hvv] at p3; rw [hxv] at e1; have z1 : (0 : Int) <= (jj : Int) := by omega
     have z2 : (jj : Int) < (np : Int) := by omega
     clear hP Uk hjl hpl hat hnp hvv hxv
     by_cases Xc : vv = xv
     ·have HL0 : Hid (cC s x = 0) := ak (by rw [lC.o, if_neg (fun h => h Xc)])
      subst Xc
      go_upto_region 47 with (fail)
      go_quiet (fail)
      go_wp2_with fail
      go_roundw
      case rel => exact ⟨k + 1, by go_num, by omega, ak (Gc.o HL0.o), ak (HBM.o.trans ⟨rfl, rfl, rfl, Nat.le_refl _, fun _ _ => rfl⟩)⟩
      case measure => simp [intOf]; omega
     have GA : Hid (bK s r.items = 13) := ak (by
      have e : cC s x = 13 := by rw [lC.o, if_pos Xc]
      rw [<- e]; exact sH.o (by rw [e]; decide))
     have hvb : (vv == xv) = false := by simpa using Xc
     have fJ : Hid ((aC s r).2 = 13) := ak (by
      have h1 := GA.o; rw [HF.o]; unfold bq; rw [if_neg (by rw [qX.o]; decide), if_neg (by rw [Jp.o]; decide), if_neg (by rw [FI.o]; decide), if_neg (by rw [rS.o]; decide), if_neg (by rw [bU.o]; decide), if_neg (by rw [h1]; decide)]; exact h1)
     go_upto_region 47 with (fail)
     go_quiet (fail)
     have zS := ak (Eb.o.later ⟨rfl, rfl, rfl, Nat.le_refl _, fun _ _ => rfl⟩ : On B0 w0 g2 g6 s y r z (wm.drewN nq))
     go_upto_region 48 with (fail)
     apply wp_region_lit
     refine Go.Great.wpList_runTo rfl (some 216) rfl (.agg ZA) (wm.drewN nq) (by go_simp) ?_; refine aA rfl 41 _ _ rfl (g2 + 2) ZA ZL rfl rfl rfl (zS.o.fi).res rfl (by kernel_rfl) (by simp [Value.oneCell']) fun w5 hpt hov => ?_
     have bU := ak hpt; have cj := ak hov; clear hpt hov
     go_wp2_with fail
     refine HQ.o _ _ ?_; refine bodyPost_ret (v := .tuple #[.agg ZA, iv 13]) ((aI (p := 4) (q := 5) (ty := 41) (by rfl) _ bU.o _ (by rfl) Tryz.underlying41 rfl (by kernel_rfl)).trans (by rfl)) rfl ?_; exact bC (zS.o.fi) cj.o (fJ.o) (by decide)
  obtain rfl : k = n := by omega
  have UE : Hid (bK s r.items = 0) := ak (by rw [<- YS.o, List.take_of_length_le (by rw [HN.o]; exact Nat.le_refl _)]); have aN := jP; clear hlt
  go_wp2_with fail
  refine ju.o _ _ ?_
  apply wp_seq_k
  intro K3 hK3; have DR := ak hK3; clear hK3 q4; have c5 := aN.o.fi.own.br.cell (j := 5) rfl; have c6 := aN.o.fi.own.br.cell (j := 6) rfl; obtain ⟨np, hnp⟩ := ah s.ay.length; obtain ⟨nd, hnd⟩ := ah s.dec.length; have hroom := aN.o.gd.room; rw [hnp] at c5 hroom; rw [hnd] at c6 hroom; have HRM : Hid (room s = decide (((np : Int) + (nd : Int)) < 512)) := ak (by unfold room; rw [hnp, hnd]); have hw : IntKind.i64.wrap ((np : Int) + (nd : Int)) = (np : Int) + (nd : Int) := by rw [IntKind.wrap_i64]; omega
  clear hnp hnd
  by_cases SX : (512 : Int) <= (np : Int) + (nd : Int)
  ·have fJ : Hid ((aC s r).2 = 6) := ak (by
    rw [HF.o]; unfold bq; rw [if_neg (by rw [qX.o]; decide), if_neg (by rw [Jp.o]; decide), if_neg (by rw [FI.o]; decide), if_neg (by rw [rS.o]; decide), if_neg (by rw [bU.o]; decide), if_pos UE.o, if_pos (by rw [HRM.o]; exact decide_eq_false (by omega))])
   go_upto_region 50 with (fail)
   apply wp_region_lit
   refine Go.Great.wpList_runTo rfl (some 225) rfl (.agg ZA) wr (by go_simp) ?_; refine aA rfl 41 _ _ rfl (g2 + 2) ZA ZL rfl rfl rfl (aN.o.fi).res rfl (by kernel_rfl) (by simp [Value.oneCell']) fun w5 hpt hov => ?_
   have bU := ak hpt; have cj := ak hov; clear hpt hov
   go_wp2_with fail
   refine HQ.o _ _ ?_; refine bodyPost_ret (v := .tuple #[.agg ZA, iv 6]) ((aI (p := 4) (q := 5) (ty := 41) (by rfl) _ bU.o _ (by rfl) Tryz.underlying41 rfl (by kernel_rfl)).trans (by rfl)) rfl ?_; exact bC (aN.o.fi) cj.o (fJ.o) (by decide)
  have fL := ak (iu.o UE.o (by rw [HRM.o]; exact decide_eq_true (by omega)))
  go_wp2_with fail
  exact DR.o _ _ (by apply fL.o _ aN.o _ HQ.o _ (by kernel_rfl))
theorem GR {α β γ : Type} (f : α -> β -> γ) : ∀ (l : List α) (m : List β), List.zipWith f l m = (l.zip m).map fun p => f p.1 p.2
  | [], _ => rfl
  | _ :: _, [] => rfl
  | a :: l, b :: m => by
    show f a b :: List.zipWith f l m = f a b :: ((l.zip m).map fun p => f p.1 p.2); rw [GR f l m]
abbrev PL := Pr × Lay
def pv (p : PL) : List Value := p.1.vals p.2
theorem qD (l : List PL) : Fit 5 (l.map pv) := ⟨fun v hv => by obtain ⟨x, _, rfl⟩ := List.mem_map.1 hv; rfl, fun v hv => by obtain ⟨x, _, rfl⟩ := List.mem_map.1 hv; exact vP x.1 x.2⟩
theorem Fi.D2 {B0 : Nat} {w0 wr w1 : World} {g2 g6 : Nat} {s : St} {y : Sy} {A : Option Addr} {c n : Nat} (h : Fi B0 w0 g2 g6 s y wr) (hb : Below wr.heap.size wr w1) (l : List PL) (hrow : w1.ownsRow wr.heap.size 71 5 (.slice A n c) l.length (l.map pv).flatten)
    (hin : ∀ p ∈ l, Fr (fun j => uM B0 g6 j \/ rowsOf y j) wr p.1.items p.1.nodes p.2) :
    n = l.length /\ Fi B0 w0 g2 g6 { s with ay := l.map Prod.fst } { y with Q := A, q := c, ps := l.map Prod.snd } (w1.setCell ⟨g6, 5, none⟩ (.slice A n c)) := by
  obtain rfl : n = l.length := by
    obtain ⟨A', c', e, _, _⟩ := f_ (vs := l.map pv) (by rw [List.length_map]; exact hrow) (qD l).len; simp only [Value.slice.injEq, List.length_map] at e; exact e.2.1
  refine ⟨rfl, ?_⟩; have ho := h.own.later hb; have hgt := h.gt; have hz := h.low.size; have hb2 := hb.size; have hr := h.own.room; have eZ := Only.b_ w1 ⟨g6, 5, none⟩ (.slice A l.length c); have hA : ∀ j, blk A = some j -> wr.heap.size <= j := fun j e => (hrow.lt j (by rw [aK]; exact e)).1
  have r7 : (l.map Prod.fst).length = l.length := List.length_map ..; have hv : List.zipWith Pr.vals (l.map Prod.fst) (l.map Prod.snd) = l.map pv := by
    clear hrow hin eZ r7
    induction l with
    | nil => rfl
    | cons a l ih =>
      show Pr.vals a.1 a.2 :: List.zipWith Pr.vals (l.map Prod.fst) (l.map Prod.snd) = _; rw [ih]
      rfl
  have hrows : ∀ j, rowsOf { y with Q := A, q := c, ps := l.map Prod.snd } j -> rowsOf y j \/ wr.heap.size <= j := fun j e => by
    rcases e with e | e | e | e
    · exact Or.inl (Or.inl e)
    · exact Or.inr (hA j e.symm)
    · exact Or.inl (Or.inr (Or.inr (Or.inl e)))
    exact Or.inl (Or.inr (Or.inr (Or.inr e)))
  refine ⟨(h.low.trans (hb.mono hz)).trans (eZ.below (by omega) fun j e => by have e2 : j = g6 := e; omega), hgt, aJ (h.res.later hb) eZ (by show ¬ g2 + 2 = g6; omega), ?_, fun k hk => ?_⟩
  · refine h.own.D2 (l' := l.map Prod.fst) (ps' := l.map Prod.snd) (Only.of_below hb) ?_ (by simp) (fun j e => Or.inr (hA j e)) (fun j h1 h2 => ?_) eZ ?_
    · rw [r7, hv]
      exact cS (by omega) hrow
    · rw [List.getElem_map, List.getElem_map]
      refine (hin l[j] (List.getElem_mem _)).next (Only.of_below hb) fun i e => ?_
      rcases e with e | e
      · exact Or.inl (Or.inl e)
      exact (hrows i e).imp_left Or.inr
    have hq := ho.br.fB 5 (.slice A l.length c)
    have e : ({ s with ay := l.map Prod.fst } : St).vals { y with Q := A, q := c, ps := l.map Prod.snd } = (s.vals y).set 5 (.slice A l.length c) := by
      unfold St.vals
      simp
    rw [e]; exact hq
  rcases hrows k hk with e | e
  · exact h.far k e
  omega
theorem Hl {B0 : Nat} {w0 wr w1 w5 : World} {g2 g6 : Nat} {s s0 : St} {y : Sy} {r : Rc} {A : Option Addr} {c : Nat} {l : List De} (h : Fi B0 w0 g2 g6 s y wr) (hb : Below wr.heap.size wr w1) (hr : w1.ownsRow wr.heap.size 75 4 (.slice A l.length c) l.length (l.map De.vals).flatten) (ho : Only (fun k => k = g2 + 2) w1 w5)
    (hf : aC s0 r = ({ s with dec := l }, 0)) : jo B0 g2 s0 r (.returned (.tuple #[St.val { s with dec := l } { y with D := A, d := c }, iv 0])) w5 /\ Below w0.heap.size w0 w5 := by
  have e1 : ko s0 r = ({ s with dec := l }, 0) := by unfold ko; rw [hf]; rfl
  obtain ⟨h1, h2⟩ := (h.later hb).o ho; have hlt := h.res.lt; have hr1 := aF hr ho fun i hi e => by have := (hr.lt i hi).1; have e2 : i = g2 + 2 := e; omega
  refine ⟨⟨{ y with D := A, d := c }, ?_, ?_⟩, h2⟩
  · rw [e1]
  rw [e1]
  exact h1.dec hr1 (by omega)
theorem Fi.W8 {B0 : Nat} {w0 wr : World} {g2 g6 : Nat} {s : St} {y : Sy} (h : Fi B0 w0 g2 g6 s y wr) : Sl wr y.Q 5 ((s.ay.zip y.ps).map pv) := by
  have := h.own.sees.ay; rw [GR] at this; exact this
theorem Fi.K9 {B0 : Nat} {w0 wr : World} {g2 g6 : Nat} {s : St} {y : Sy} (h : Fi B0 w0 g2 g6 s y wr) : ∀ p ∈ s.ay.zip y.ps, Fr (fun j => uM B0 g6 j \/ rowsOf y j) wr p.1.items p.1.nodes p.2 := fun p hp => by
  obtain ⟨k, hk, e⟩ := List.getElem_of_mem hp; have h2 := h.own.lists.ps; rw [List.length_zip] at hk; have h3 := h.own.lists.pin k (by omega) (by omega); rw [List.getElem_zip] at e; rw [<- e]; exact h3
theorem Fi.ey {B0 : Nat} {w0 wr W : World} {g2 g6 pb jj o : Nat} {s : St} {y : Sy} {pl KU : Pl} {u v : Value} (h : Fi B0 w0 g2 g6 s y wr) (hb : Below wr.heap.size wr W) (hP : y.P = some ⟨pb, 0, none⟩) (hpl : s.places[jj]? = some pl) (hu : pl.vals[o]? = some u) (h1 : v.oneCell' = true) (he : Led.over pl.vals o [v] = KU.vals) :
    (W.cell? ⟨pb, jj * 5 + o, none⟩ = some u /\ W.frozen? ⟨pb, jj * 5 + o, none⟩ = false) /\ Fi B0 w0 g2 g6 (bJ s (jj : Int) KU) y (W.setCell ⟨pb, jj * 5 + o, none⟩ v) /\ Only (fun k => some k = blk y.P) W (W.setCell ⟨pb, jj * 5 + o, none⟩ v) := by
  have h2 := h.later hb; have hk := (List.getElem?_eq_some_iff.1 hpl).1; have ho : o < 5 := (List.getElem?_eq_some_iff.1 hu).1; obtain ⟨h3, _⟩ := h2.place hP KU (k := jj) hk [v] o (fun q hq => by rw [List.mem_singleton.1 hq]; exact h1) (by show o + 1 <= 5; omega) (fun q hq => by rw [hpl] at hq; obtain rfl := Option.some.inj hq; exact he)
  exact ⟨⟨h2.own.bg hP hpl hu, h2.own.gP hP hk ho⟩, h3, (Only.b_ W ⟨pb, jj * 5 + o, none⟩ v).mono fun q _ e => by rw [hP]; show some q = some pb; rw [show q = pb from e]⟩
theorem zip_fst {α β : Type} : ∀ {l : List α} {m : List β}, m.length = l.length -> (l.zip m).map Prod.fst = l
  | [], _, _ => rfl
  | _ :: _, [], h => by cases h
  | a :: l, b :: m, h => by
    show a :: (l.zip m).map Prod.fst = _; rw [zip_fst (by simpa using h)]
