/-
  Layer 7: when two records are the same: the document's answer.
  Conditions: none.
-/
import Derived.Test.YtalhbblmnahcdaaGreatPa36
import Derived.Test.YtalhbblmnahcdaaGreatPa46
namespace Go.Proofs.YtalhbblmnahcdaaGreat.Rec
set_option maxRecDepth 100000
open Go.RowKit Go.Proofs.YtalhbblmnahcdaaGreat.Mem Go.Proofs.YtalhbblmnahcdaaGreat.Item
theorem tid_eql (a b c x y z : Int) (w : World) : (binOp .eql 47 (.agg #[.int .i64 a, .int .i64 b, .int .i64 c]) (.agg #[.int .i64 x, .int .i64 y, .int .i64 z])).run Tryz.prog w = .ok (.bool (decide (a = x) && decide (b = y) && decide (c = z))) w := by
 have e : Tryz.prog.underlying 47 = some (.struct (Tryz.prog.fieldsOf 47)) := by kernel_rfl
 have e2 : Tryz.prog.stoodInHeld 47 = false := by kernel_rfl
 rw [run_eql_struct, run_equalIn_agg w _ _ _ _ e e2]
 obtain ⟨f0, f1, f2, hf, t0, t1, t2, o0, o1, o2, n0, n1, n2⟩ : ∃ f0 f1 f2 : Field, (Tryz.prog.fieldsOf 47).toList = [f0, f1, f2] ∧ f0.type = 3 ∧ f1.type = 3 ∧ f2.type = 3 ∧ f0.offset = 0 ∧ f1.offset = 1 ∧ f2.offset = 2 ∧ f0.name ≠ "_" ∧ f1.name ≠ "_" ∧ f2.name ≠ "_" := ⟨_, _, _, rfl, rfl, rfl, rfl, rfl, rfl, rfl, by decide, by decide, by decide⟩
 rw [hf]
 have hu := Tryz.underlying3
 by_cases ha : a = x
 ·by_cases hb : b = y
  ·by_cases hc : c = z
   ·simp [Op.eqFields, n0, n1, n2, t0, t1, t2, o0, o1, o2, go_sem, hu, ha, hb, hc]
   ·simp [Op.eqFields, n0, n1, n2, t0, t1, t2, o0, o1, o2, go_sem, hu, ha, hb, hc]
  ·simp [Op.eqFields, n0, n1, n2, t0, t1, t2, o0, o1, o2, go_sem, hu, ha, hb]
 ·simp [Op.eqFields, n0, n1, n2, t0, t1, t2, o0, o1, o2, go_sem, hu, ha]
set_option maxHeartbeats 2000000 in
theorem number_any (r : Rc) (y : Lay) (f : Nat) (w : World) (hf : f < 8) :
  Calls Tryz.prog 55 #[r.val y, .int .i64 ((f + 1 : Nat) : Int)] w fun e w' => e = .returned (.int .i64 (r.get f)) ∧ Below w.heap.size w w' := by
 obtain ⟨k, ⟨t1, t2, t3⟩, its, nds, a0, a1, a2, a3, a4, a5, a6, a7, yes⟩ := r
 obtain ⟨A, c, B, d⟩ := y
 generalize hL : its.length = L
 generalize hM : nds.length = M
 unfold Rc.val
 simp only [hL, hM]
 clear hL hM
 rcases lt8 hf with rfl | rfl | rfl | rfl | rfl | rfl | rfl | rfl
 ·go_enter Tryz.func55, Tryz.ntmps55
  go_wp2
  go_returns
  exact ⟨rfl, Go.Joins.below_alloc2 _ _ _⟩
 ·go_enter Tryz.func55, Tryz.ntmps55
  go_wp2
  go_returns
  exact ⟨rfl, Go.Joins.below_alloc2 _ _ _⟩
 ·go_enter Tryz.func55, Tryz.ntmps55
  go_wp2
  go_returns
  exact ⟨rfl, Go.Joins.below_alloc2 _ _ _⟩
 ·go_enter Tryz.func55, Tryz.ntmps55
  go_wp2
  go_returns
  exact ⟨rfl, Go.Joins.below_alloc2 _ _ _⟩
 ·go_enter Tryz.func55, Tryz.ntmps55
  go_wp2
  go_returns
  exact ⟨rfl, Go.Joins.below_alloc2 _ _ _⟩
 ·go_enter Tryz.func55, Tryz.ntmps55
  go_wp2
  go_returns
  exact ⟨rfl, Go.Joins.below_alloc2 _ _ _⟩
 ·go_enter Tryz.func55, Tryz.ntmps55
  go_wp2
  go_returns
  exact ⟨rfl, Go.Joins.below_alloc2 _ _ _⟩
 ·go_enter Tryz.func55, Tryz.ntmps55
  go_wp2
  go_returns
  exact ⟨rfl, Go.Joins.below_alloc2 _ _ _⟩
theorem rc_eq {a b : Rc} : a = b ↔ (∀ m, m < 8 → a.get m = b.get m) ∧ a.kind = b.kind ∧ a.tid = b.tid ∧ a.yes = b.yes ∧ a.items = b.items ∧ a.nodes = b.nodes := by
 constructor
 ·rintro rfl
  exact ⟨fun _ _ => rfl, rfl, rfl, rfl, rfl, rfl⟩
 ·rintro ⟨h, h1, h2, h3, h4, h5⟩
  have g0 := h 0 (by decide)
  have g1 := h 1 (by decide)
  have g2 := h 2 (by decide)
  have g3 := h 3 (by decide)
  have g4 := h 4 (by decide)
  have g5 := h 5 (by decide)
  have g6 := h 6 (by decide)
  have g7 := h 7 (by decide)
  obtain ⟨k, t, its, nds, a0, a1, a2, a3, a4, a5, a6, a7, yes⟩ := a
  obtain ⟨k', t', its', nds', b0, b1, b2, b3, b4, b5, b6, b7, yes'⟩ := b
  simp only [Rc.get, Rc.numV, List.getElem?_cons_zero, List.getElem?_cons_succ, Option.getD_some] at g0 g1 g2 g3 g4 g5 g6 g7
  simp only at h1 h2 h3 h4 h5
  subst h1 h2 h3 h4 h5 g0 g1 g2 g3 g4 g5 g6 g7
  rfl
/-- An answer that tells whether Q. -/
def SameOut (Q : Prop) (e : Ending) : Prop := ∃ v, e = .returned (.bool v) ∧ (v = true ↔ Q)
theorem sameOut {Q : Prop} {v : Bool} (h : v = true ↔ Q) : SameOut Q (.returned (.bool v)) := ⟨v, rfl, h⟩
def rSame (va vb : Value) (f : Nat) (x z : Int) : Nat → Value → World → Prop
 | 0, v, _ => v = va
 | 1, v, _ => v = .int .i64 (f : Int)
 | 2, v, _ => v = .int .i64 x
 | 3, v, _ => v = vb
 | 4, v, _ => v = .int .i64 (f : Int)
 | 5, v, _ => v = .int .i64 z
 | 6, v, _ => v = .bool (x != z)
 | _, _, _ => True
theorem rSame_later {va vb : Value} {f : Nat} {x z : Int} {j : Nat} {v : Value} {w w' : World} (_hb : Below w.heap.size w w') (h : rSame va vb f x z j v w) : rSame va vb f x z j v w' := by
 match j, h with
 | 0, h | 1, h | 2, h | 3, h | 4, h | 5, h | 6, h => exact h
 | _ + 7, _ => exact trivial
set_option maxHeartbeats 2000000 in
theorem same_any (a b : Rc) (ya yb : Lay) (w : World) (ha : Has w a ya) (hb : Has w b yb) (hl1 : a.items.length ≤ 1000000) (hl2 : a.nodes.length ≤ 1000000) :
  Calls Tryz.prog 30 #[a.val ya, b.val yb] w fun e w' => SameOut (a = b) e ∧ Below w.heap.size w w' := by
 have HNA := Lib.hid (fun f w' => number_any a ya f w')
 have HNB := Lib.hid (fun f w' => number_any b yb f w')
 have HI := Lib.hid (fun w' (h : Below w.heap.size w w') => sameItems_any ya.A yb.A a.items b.items ya.c yb.c w' (ha.items.later h) (hb.items.later h) hl1)
 have HM := Lib.hid (fun w' (h : Below w.heap.size w w') => sameNodes_any ya.B yb.B a.nodes b.nodes ya.d yb.d w' (ha.nodes.later h) (hb.nodes.later h) hl2)
 have HEQ := Lib.hid (@rc_eq a b)
 obtain ⟨Q, hQ⟩ : ∃ Q : Prop, (a = b) = Q := ⟨_, rfl⟩
 obtain ⟨GA, hGA⟩ : ∃ GA, a.get = GA := ⟨_, rfl⟩
 obtain ⟨GB, hGB⟩ : ∃ GB, b.get = GB := ⟨_, rfl⟩
 simp only [hGA] at HNA HEQ
 simp only [hGB] at HNB HEQ
 simp only [hQ] at HEQ ⊢
 clear hGA hGB hQ ha hb
 obtain ⟨kp, ⟨t1p, t2p, t3p⟩, itsp, ndsp, a0p, a1p, a2p, a3p, a4p, a5p, a6p, a7p, yesp⟩ := a
 obtain ⟨Ap, cp, Bp, dp⟩ := ya
 obtain ⟨kq, ⟨t1q, t2q, t3q⟩, itsq, ndsq, a0q, a1q, a2q, a3q, a4q, a5q, a6q, a7q, yesq⟩ := b
 obtain ⟨Aq, cq, Bq, dq⟩ := yb
 obtain ⟨IE, hIE⟩ : ∃ IE, decide (itsp = itsq) = IE := ⟨_, rfl⟩
 obtain ⟨NE, hNE⟩ : ∃ NE, decide (ndsp = ndsq) = NE := ⟨_, rfl⟩
 have HIE : Hid (IE = true ↔ itsp = itsq) := Lib.hid (by rw [← hIE]; exact decide_eq_true_iff)
 have HNE : Hid (NE = true ↔ ndsp = ndsq) := Lib.hid (by rw [← hNE]; exact decide_eq_true_iff)
 simp only [hIE] at HI
 simp only [hNE] at HM
 clear hIE hNE
 simp only at HEQ HI HM hl1 hl2
 generalize hLp : itsp.length = Lp at HNA HI ⊢
 generalize hMp : ndsp.length = Mp at HNA HM ⊢
 generalize hLq : itsq.length = Lq at HNB HI ⊢
 generalize hMq : ndsq.length = Mq at HNB HM ⊢
 unfold Rc.val at HNA HNB ⊢
 simp only [hLp, hMp, hLq, hMq] at HNA HNB ⊢
 clear hLp hMp hLq hMq
 obtain ⟨w2, hw2⟩ : ∃ w2, w2 = (w.alloc (.cells #[.int .i64 kp, .int .i64 t1p, .int .i64 t2p, .int .i64 t3p, .slice Ap Lp cp, .slice Bp Mp dp, .int .i64 a0p, .int .i64 a1p, .int .i64 a2p, .int .i64 a3p, .int .i64 a4p, .int .i64 a5p, .int .i64 a6p, .int .i64 a7p, .bool yesp] 55)).alloc (.cells #[.int .i64 kq, .int .i64 t1q, .int .i64 t2q, .int .i64 t3q, .slice Aq Lq cq, .slice Bq Mq dq, .int .i64 a0q, .int .i64 a1q, .int .i64 a2q, .int .i64 a3q, .int .i64 a4q, .int .i64 a5q, .int .i64 a6q, .int .i64 a7q, .bool yesq] 55) := ⟨_, rfl⟩
 have HB2 : Hid (Below w.heap.size w w2) := Lib.hid (by rw [hw2]; exact Go.Joins.below_alloc2 _ _ _)
 have HCA : Hid (Cells w2 w.heap.size 55 _) := Lib.hid (by rw [hw2]; exact (cells_new w 55 _ #[.int .i64 kp, .int .i64 t1p, .int .i64 t2p, .int .i64 t3p, .slice Ap Lp cp, .slice Bp Mp dp, .int .i64 a0p, .int .i64 a1p, .int .i64 a2p, .int .i64 a3p, .int .i64 a4p, .int .i64 a5p, .int .i64 a6p, .int .i64 a7p, .bool yesp] rfl).later (below_alloc _ _))
 have HCB : Hid (Cells w2 (w.heap.size + 1) 55 _) := Lib.hid (by
  rw [hw2]
  have h7 := cells_new (w.alloc (.cells #[.int .i64 kp, .int .i64 t1p, .int .i64 t2p, .int .i64 t3p, .slice Ap Lp cp, .slice Bp Mp dp, .int .i64 a0p, .int .i64 a1p, .int .i64 a2p, .int .i64 a3p, .int .i64 a4p, .int .i64 a5p, .int .i64 a6p, .int .i64 a7p, .bool yesp] 55)) 55 _ #[.int .i64 kq, .int .i64 t1q, .int .i64 t2q, .int .i64 t3q, .slice Aq Lq cq, .slice Bq Mq dq, .int .i64 a0q, .int .i64 a1q, .int .i64 a2q, .int .i64 a3q, .int .i64 a4q, .int .i64 a5q, .int .i64 a6q, .int .i64 a7q, .bool yesq] rfl
  rw [show (w.alloc (.cells #[.int .i64 kp, .int .i64 t1p, .int .i64 t2p, .int .i64 t3p, .slice Ap Lp cp, .slice Bp Mp dp, .int .i64 a0p, .int .i64 a1p, .int .i64 a2p, .int .i64 a3p, .int .i64 a4p, .int .i64 a5p, .int .i64 a6p, .int .i64 a7p, .bool yesp] 55)).heap.size = w.heap.size + 1 by simp] at h7
  exact h7)
 go_enter Tryz.func30, Tryz.ntmps30
 go_wp2_with fail
 rw [← hw2]
 clear hw2
 go_loopw [5] (fun i wr => ∃ j : Nat, j ≤ 8 ∧ i = .int .i64 ((j + 1 : Nat) : Int) ∧ Hid (∀ m, m < j → GA m = GB m) ∧ Below w2.heap.size w2 wr) (fun i _ => 9 - (intOf i).toNat)
 case atStart => exact ⟨0, by omega, rfl, Lib.hid (fun m hm => by omega), Below.refl _ _⟩
 case round =>
  obtain ⟨j, hj, rfl, hz, hbr⟩ := hrel
  have HBR := Lib.hid (HB2.out.trans (hbr.mono HB2.out.size))
  by_cases hlt : j < 8
  ·have HQA : Hid (∀ wi, Below wr.heap.size wr wi → Cells wi w.heap.size 55 _) := Lib.hid (fun wi hi => (HCA.out.later hbr).later hi)
   have HQB : Hid (∀ wi, Below wr.heap.size wr wi → Cells wi (w.heap.size + 1) 55 _) := Lib.hid (fun wi hi => (HCB.out.later hbr).later hi)
   have hNA := HNA.out j
   have hNB := HNB.out j
   obtain ⟨f, hf⟩ : ∃ f, f = j + 1 := ⟨_, rfl⟩
   rw [← hf] at hNA hNB ⊢
   obtain ⟨x, hx⟩ : ∃ x, GA j = x := ⟨_, rfl⟩
   obtain ⟨z, hz2⟩ : ∃ z, GB j = z := ⟨_, rfl⟩
   have HX : Hid (GA j = x ∧ GB j = z ∧ f = j + 1) := Lib.hid ⟨hx, hz2, hf⟩
   have hfl : f ≤ 8 := by omega
   rw [hx] at hNA
   rw [hz2] at hNB
   clear hx hz2
   have HNA := Lib.hid (fun (_ : Nat) w' => hNA w' hlt)
   have HNB := Lib.hid (fun (_ : Nat) w' => hNB w' hlt)
   have HBR2 := Lib.hid hbr
   clear hNA hNB hbr hf
   by_cases hxz : x = z
   ·have HN : Hid ((x != z) = false) := Lib.hid (by simp [hxz])
    have HZ : Hid (∀ m, m < j + 1 → GA m = GB m) := Lib.hid (fun m hm => by
     by_cases e : m = j
     ·subst e; rw [HX.out.1, HX.out.2.1]; exact hxz
     ·exact hz.out m (by omega))
    clear hxz hz
    go_wp2_with fail
    refine Reg.region_heavy (by kernel_rfl) 6 [6] (rSame (.agg #[.int .i64 kp, .int .i64 t1p, .int .i64 t2p, .int .i64 t3p, .slice Ap Lp cp, .slice Bp Mp dp, .int .i64 a0p, .int .i64 a1p, .int .i64 a2p, .int .i64 a3p, .int .i64 a4p, .int .i64 a5p, .int .i64 a6p, .int .i64 a7p, .bool yesp]) (.agg #[.int .i64 kq, .int .i64 t1q, .int .i64 t2q, .int .i64 t3q, .slice Aq Lq cq, .slice Bq Mq dq, .int .i64 a0q, .int .i64 a1q, .int .i64 a2q, .int .i64 a3q, .int .i64 a4q, .int .i64 a5q, .int .i64 a6q, .int .i64 a7q, .bool yesq]) f x z) (fun a => Below wr.heap.size wr a) (fun a => Below wr.heap.size wr a) (fun V => [(some 10, V 0), (some 11, V 1), (some 12, V 2), (some 13, V 3), (some 14, V 4), (some 15, V 5), (some 16, V 6)]) (by kernel_rfl) (by kernel_rfl) (by kernel_rfl) (fun V => rfl) ?_ ?_ ?_
    ·exact (Below.refl _ _).drew
    ·intro i o ho
     have hi : i < 7 := (Array.getElem?_eq_some_iff.1 ho).1
     rcases i with _ | _ | _ | _ | _ | _ | _ | i
     rotate_right
     ·omega
     all_goals obtain rfl := Option.some.inj ho
     all_goals intro ρ wi hE hI hs hd
     all_goals try dsimp only at hI
     ·have e2 : ρ (.tmp 2) = .pointer (some ⟨w.heap.size, 0, none⟩) := hs 2; have hc := HQA.out wi hI; have q0 := hc.cell (j := 0) rfl; have q1 := hc.cell (j := 1) rfl; have q2 := hc.cell (j := 2) rfl; have q3 := hc.cell (j := 3) rfl; have q4 := hc.cell (j := 4) rfl; have q5 := hc.cell (j := 5) rfl; have q6 := hc.cell (j := 6) rfl; have q7 := hc.cell (j := 7) rfl
      have q8 := hc.cell (j := 8) rfl; have q9 := hc.cell (j := 9) rfl; have q10 := hc.cell (j := 10) rfl; have q11 := hc.cell (j := 11) rfl; have q12 := hc.cell (j := 12) rfl; have q13 := hc.cell (j := 13) rfl; have q14 := hc.cell (j := 14) rfl; exact Reg.gw hI
     ·have e5 : ρ (.tmp 5) = .int .i64 (f : Int) := hs 5; exact Reg.gw hI
     ·obtain ⟨_, rfl, e10⟩ := hd 0 10; obtain ⟨_, rfl, e11⟩ := hd 1 11; have hf := hE.func
      refine Reg.Gives.call (f := 55) (args := #[.agg #[.int .i64 kp, .int .i64 t1p, .int .i64 t2p, .int .i64 t3p, .slice Ap Lp cp, .slice Bp Mp dp, .int .i64 a0p, .int .i64 a1p, .int .i64 a2p, .int .i64 a3p, .int .i64 a4p, .int .i64 a5p, .int .i64 a6p, .int .i64 a7p, .bool yesp], .int .i64 (f : Int)]) (w' := wi) (by go_simp) ?_
      refine (HNA.out f wi).mono ?_
      rintro e w'' ⟨rfl, hbb⟩
      exact ⟨_, rfl, ⟨rfl, hI.trans (hbb.mono hI.size), fun j u _ _ h => rSame_later hbb h⟩⟩
     ·have e3 : ρ (.tmp 3) = .pointer (some ⟨w.heap.size + 1, 0, none⟩) := hs 3; have hc := HQB.out wi hI; have q0 := hc.cell (j := 0) rfl; have q1 := hc.cell (j := 1) rfl; have q2 := hc.cell (j := 2) rfl; have q3 := hc.cell (j := 3) rfl; have q4 := hc.cell (j := 4) rfl; have q5 := hc.cell (j := 5) rfl; have q6 := hc.cell (j := 6) rfl; have q7 := hc.cell (j := 7) rfl
      have q8 := hc.cell (j := 8) rfl; have q9 := hc.cell (j := 9) rfl; have q10 := hc.cell (j := 10) rfl; have q11 := hc.cell (j := 11) rfl; have q12 := hc.cell (j := 12) rfl; have q13 := hc.cell (j := 13) rfl; have q14 := hc.cell (j := 14) rfl; exact Reg.gw hI
     ·have e5 : ρ (.tmp 5) = .int .i64 (f : Int) := hs 5; exact Reg.gw hI
     ·obtain ⟨_, rfl, e13⟩ := hd 3 13; obtain ⟨_, rfl, e14⟩ := hd 4 14; have hf := hE.func
      refine Reg.Gives.call (f := 55) (args := #[.agg #[.int .i64 kq, .int .i64 t1q, .int .i64 t2q, .int .i64 t3q, .slice Aq Lq cq, .slice Bq Mq dq, .int .i64 a0q, .int .i64 a1q, .int .i64 a2q, .int .i64 a3q, .int .i64 a4q, .int .i64 a5q, .int .i64 a6q, .int .i64 a7q, .bool yesq], .int .i64 (f : Int)]) (w' := wi) (by go_simp) ?_
      refine (HNB.out f wi).mono ?_
      rintro e w'' ⟨rfl, hbb⟩
      exact ⟨_, rfl, ⟨rfl, hI.trans (hbb.mono hI.size), fun j u _ _ h => rSame_later hbb h⟩⟩
     ·obtain ⟨_, rfl, e12⟩ := hd 2 12; obtain ⟨_, rfl, e15⟩ := hd 5 15; exact Reg.gw hI
    ·intro V wa hV hI
     have hV6 : V 6 = .bool (x != z) := hV 6 (by decide) rfl
     simp only [Reg.putsO, List.foldl_cons, List.foldl_nil, Act.put, List.setIfInBounds_toArray, List.set_cons_succ, List.set_cons_zero, hV6]
     replace hI : (fun a => Below wr.heap.size wr a) wa := hI
     clear hV hV6
     rw [HN.out]
     have HW := Lib.hid (HBR2.out.trans (hI.mono HBR2.out.size))
     clear hI
     go_wp2_with fail
     go_roundw
     case rel => exact ⟨j + 1, by omega, by rw [HX.out.2.2]; go_num, HZ, HW.out⟩
     case measure => simp [intOf]; omega
   ·have HN : Hid ((x != z) = true) := Lib.hid (by simp [hxz])
    have HZ : Hid (¬ Q) := Lib.hid (fun hq => hxz (by rw [← HX.out.1, ← HX.out.2.1]; exact (HEQ.out.1 hq).1 j hlt))
    clear hxz hz
    go_wp2_with fail
    refine Reg.region_heavy (by kernel_rfl) 6 [6] (rSame (.agg #[.int .i64 kp, .int .i64 t1p, .int .i64 t2p, .int .i64 t3p, .slice Ap Lp cp, .slice Bp Mp dp, .int .i64 a0p, .int .i64 a1p, .int .i64 a2p, .int .i64 a3p, .int .i64 a4p, .int .i64 a5p, .int .i64 a6p, .int .i64 a7p, .bool yesp]) (.agg #[.int .i64 kq, .int .i64 t1q, .int .i64 t2q, .int .i64 t3q, .slice Aq Lq cq, .slice Bq Mq dq, .int .i64 a0q, .int .i64 a1q, .int .i64 a2q, .int .i64 a3q, .int .i64 a4q, .int .i64 a5q, .int .i64 a6q, .int .i64 a7q, .bool yesq]) f x z) (fun a => Below wr.heap.size wr a) (fun a => Below wr.heap.size wr a) (fun V => [(some 10, V 0), (some 11, V 1), (some 12, V 2), (some 13, V 3), (some 14, V 4), (some 15, V 5), (some 16, V 6)]) (by kernel_rfl) (by kernel_rfl) (by kernel_rfl) (fun V => rfl) ?_ ?_ ?_
    ·exact (Below.refl _ _).drew
    ·intro i o ho
     have hi : i < 7 := (Array.getElem?_eq_some_iff.1 ho).1
     rcases i with _ | _ | _ | _ | _ | _ | _ | i
     rotate_right
     ·omega
     all_goals obtain rfl := Option.some.inj ho
     all_goals intro ρ wi hE hI hs hd
     all_goals try dsimp only at hI
     ·have e2 : ρ (.tmp 2) = .pointer (some ⟨w.heap.size, 0, none⟩) := hs 2; have hc := HQA.out wi hI; have q0 := hc.cell (j := 0) rfl; have q1 := hc.cell (j := 1) rfl; have q2 := hc.cell (j := 2) rfl; have q3 := hc.cell (j := 3) rfl; have q4 := hc.cell (j := 4) rfl; have q5 := hc.cell (j := 5) rfl; have q6 := hc.cell (j := 6) rfl; have q7 := hc.cell (j := 7) rfl
      have q8 := hc.cell (j := 8) rfl; have q9 := hc.cell (j := 9) rfl; have q10 := hc.cell (j := 10) rfl; have q11 := hc.cell (j := 11) rfl; have q12 := hc.cell (j := 12) rfl; have q13 := hc.cell (j := 13) rfl; have q14 := hc.cell (j := 14) rfl; exact Reg.gw hI
     ·have e5 : ρ (.tmp 5) = .int .i64 (f : Int) := hs 5; exact Reg.gw hI
     ·obtain ⟨_, rfl, e10⟩ := hd 0 10; obtain ⟨_, rfl, e11⟩ := hd 1 11; have hf := hE.func
      refine Reg.Gives.call (f := 55) (args := #[.agg #[.int .i64 kp, .int .i64 t1p, .int .i64 t2p, .int .i64 t3p, .slice Ap Lp cp, .slice Bp Mp dp, .int .i64 a0p, .int .i64 a1p, .int .i64 a2p, .int .i64 a3p, .int .i64 a4p, .int .i64 a5p, .int .i64 a6p, .int .i64 a7p, .bool yesp], .int .i64 (f : Int)]) (w' := wi) (by go_simp) ?_
      refine (HNA.out f wi).mono ?_
      rintro e w'' ⟨rfl, hbb⟩
      exact ⟨_, rfl, ⟨rfl, hI.trans (hbb.mono hI.size), fun j u _ _ h => rSame_later hbb h⟩⟩
     ·have e3 : ρ (.tmp 3) = .pointer (some ⟨w.heap.size + 1, 0, none⟩) := hs 3; have hc := HQB.out wi hI; have q0 := hc.cell (j := 0) rfl; have q1 := hc.cell (j := 1) rfl; have q2 := hc.cell (j := 2) rfl; have q3 := hc.cell (j := 3) rfl; have q4 := hc.cell (j := 4) rfl; have q5 := hc.cell (j := 5) rfl; have q6 := hc.cell (j := 6) rfl; have q7 := hc.cell (j := 7) rfl
      have q8 := hc.cell (j := 8) rfl; have q9 := hc.cell (j := 9) rfl; have q10 := hc.cell (j := 10) rfl; have q11 := hc.cell (j := 11) rfl; have q12 := hc.cell (j := 12) rfl; have q13 := hc.cell (j := 13) rfl; have q14 := hc.cell (j := 14) rfl; exact Reg.gw hI
     ·have e5 : ρ (.tmp 5) = .int .i64 (f : Int) := hs 5; exact Reg.gw hI
     ·obtain ⟨_, rfl, e13⟩ := hd 3 13; obtain ⟨_, rfl, e14⟩ := hd 4 14; have hf := hE.func
      refine Reg.Gives.call (f := 55) (args := #[.agg #[.int .i64 kq, .int .i64 t1q, .int .i64 t2q, .int .i64 t3q, .slice Aq Lq cq, .slice Bq Mq dq, .int .i64 a0q, .int .i64 a1q, .int .i64 a2q, .int .i64 a3q, .int .i64 a4q, .int .i64 a5q, .int .i64 a6q, .int .i64 a7q, .bool yesq], .int .i64 (f : Int)]) (w' := wi) (by go_simp) ?_
      refine (HNB.out f wi).mono ?_
      rintro e w'' ⟨rfl, hbb⟩
      exact ⟨_, rfl, ⟨rfl, hI.trans (hbb.mono hI.size), fun j u _ _ h => rSame_later hbb h⟩⟩
     ·obtain ⟨_, rfl, e12⟩ := hd 2 12; obtain ⟨_, rfl, e15⟩ := hd 5 15; exact Reg.gw hI
    ·intro V wa hV hI
     have hV6 : V 6 = .bool (x != z) := hV 6 (by decide) rfl
     simp only [Reg.putsO, List.foldl_cons, List.foldl_nil, Act.put, List.setIfInBounds_toArray, List.set_cons_succ, List.set_cons_zero, hV6]
     replace hI : (fun a => Below wr.heap.size wr a) wa := hI
     clear hV hV6
     rw [HN.out]
     have HW := Lib.hid (HBR.out.trans (hI.mono HBR.out.size))
     clear hI
     go_wp2_with fail
     go_returns
     exact ⟨sameOut (by simp [HZ.out]), HW.out⟩
  ·obtain rfl : j = 8 := by omega
   have hca := HCA.out.later hbr
   have hcb := HCB.out.later hbr
   have p0 := hca.cell (j := 0) rfl
   have p1 := hca.cell (j := 1) rfl
   have p2 := hca.cell (j := 2) rfl
   have p3 := hca.cell (j := 3) rfl
   have p4 := hca.cell (j := 4) rfl
   have p5 := hca.cell (j := 5) rfl
   have p6 := hca.cell (j := 6) rfl
   have p7 := hca.cell (j := 7) rfl
   have p8 := hca.cell (j := 8) rfl
   have p9 := hca.cell (j := 9) rfl
   have p10 := hca.cell (j := 10) rfl
   have p11 := hca.cell (j := 11) rfl
   have p12 := hca.cell (j := 12) rfl
   have p13 := hca.cell (j := 13) rfl
   have p14 := hca.cell (j := 14) rfl
   have q0 := hcb.cell (j := 0) rfl
   have q1 := hcb.cell (j := 1) rfl
   have q2 := hcb.cell (j := 2) rfl
   have q3 := hcb.cell (j := 3) rfl
   have q4 := hcb.cell (j := 4) rfl
   have q5 := hcb.cell (j := 5) rfl
   have q6 := hcb.cell (j := 6) rfl
   have q7 := hcb.cell (j := 7) rfl
   have q8 := hcb.cell (j := 8) rfl
   have q9 := hcb.cell (j := 9) rfl
   have q10 := hcb.cell (j := 10) rfl
   have q11 := hcb.cell (j := 11) rfl
   have q12 := hcb.cell (j := 12) rfl
   have q13 := hcb.cell (j := 13) rfl
   have q14 := hcb.cell (j := 14) rfl
   have HTE := tid_eql t1p t2p t3p t1q t2q t3q
   have HTQ : Hid (((⟨t1p, t2p, t3p⟩ : Tid) = ⟨t1q, t2q, t3q⟩) ↔ (decide (t1p = t1q) && decide (t2p = t2q) && decide (t3p = t3q)) = true) := Lib.hid (by simp [and_assoc])
   obtain ⟨TE, hTE⟩ : ∃ TE, (decide (t1p = t1q) && decide (t2p = t2q) && decide (t3p = t3q)) = TE := ⟨_, rfl⟩
   rw [hTE] at HTE HTQ
   clear hTE hca hcb hbr
   have HZ := hz
   clear hz
   by_cases hk : kp = kq
   ·by_cases ht : TE = true
    ·by_cases hy : yesp = yesq
     ·have HEQ2 : Hid (Q ↔ itsp = itsq ∧ ndsp = ndsq) := Lib.hid (by
       rw [HEQ.out]
       constructor
       ·rintro ⟨_, _, _, _, h1, h2⟩; exact ⟨h1, h2⟩
       ·rintro ⟨h1, h2⟩; exact ⟨HZ.out, hk, HTQ.out.2 ht, hy, h1, h2⟩)
      subst hk hy ht
      go_wp2_with fail
      refine (HI.out _ HBR.out).mono ?_
      rintro e wa ⟨rfl, hba⟩
      have HBA := Lib.hid (HBR.out.trans (hba.mono HBR.out.size))
      clear p0 p1 p2 p3 p4 p6 p7 p8 p9 p10 p11 p12 p13 p14 q0 q1 q2 q3 q4 q6 q7 q8 q9 q10 q11 q12 q13 q14
      have p5' := (hba.cell (block_of_cell p5)).trans p5
      have q5' := (hba.cell (block_of_cell q5)).trans q5
      clear hba p5 q5
      cases IE
      ·go_wp2_with fail
       go_returns
       exact ⟨sameOut (by rw [HEQ2.out, ← HIE.out]; simp), HBA.out⟩
      ·go_wp2_with fail
       refine (HM.out _ HBA.out).mono ?_
       rintro e wb ⟨rfl, hbb⟩
       have HBB := Lib.hid (HBA.out.trans (hbb.mono HBA.out.size))
       clear hbb p5' q5'
       go_wp2_with fail
       go_returns
       exact ⟨sameOut (by rw [HEQ2.out, ← HIE.out, ← HNE.out]; simp), HBB.out⟩
     ·have HQ : Hid (¬ Q) := Lib.hid (fun hq => hy (HEQ.out.1 hq).2.2.2.1)
      subst hk ht
      have hyf : (yesp == yesq) = false := by simpa using hy
      go_wp2_with fail
      go_returns
      exact ⟨sameOut (by simp [HQ.out]), HBR.out⟩
    ·have HQ : Hid (¬ Q) := Lib.hid (fun hq => ht (HTQ.out.1 (HEQ.out.1 hq).2.2.1))
     have ht' : TE = false := by simpa using ht
     subst ht' hk
     clear ht
     go_wp2_with fail
     go_returns
     exact ⟨sameOut (by simp [HQ.out]), HBR.out⟩
   ·have HQ : Hid (¬ Q) := Lib.hid (fun hq => hk (HEQ.out.1 hq).2.1)
    go_wp2_with fail
    go_returns
    exact ⟨sameOut (by simp [HQ.out]), HBR.out⟩
end Go.Proofs.YtalhbblmnahcdaaGreat.Rec
