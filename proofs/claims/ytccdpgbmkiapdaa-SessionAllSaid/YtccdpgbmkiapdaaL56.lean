/-
  P14.2: If both sides stay from some time on, and all that goes out comes, all that is held by then is taken within forty ticks of both, and nothing is held any more.
  Conditions: none.
-/
import Derived.Test.YtccdpgbmkiapdaaL49
import Derived.Test.YtccdpgbmkiapdaaL55
import Derived.Test.YtccdpgbmkiapdaaL26
import Derived.Test.YtccdpgbmkiapdaaL34
namespace Go.Proofs.Ytccdpgbmkiapdaa.SessionAll
set_option maxRecDepth 100000
open Go.ChangeShapes Go.WideShapes Go.ChangeAt Go.RowKit Go.Deep Go.Proofs.Ytccdpgbmkiapdaa.Mem Go.Proofs.Ytccdpgbmkiapdaa.Win Go.Proofs.Ytccdpgbmkiapdaa.Ses
def acv (a : Ac) : List Value := [.int .i64 a.k, .int .i64 a.a, .int .i64 a.n]
section
variable {H : Type} {enc : TypeId × Value → H} {W : World}
theorem fields_act {fs : Array Field} {v : List Value} (hst : Try.prog.underlying 77 = some (.struct fs)) (h : Fields Try.prog enc W fs v) : ∃ o : Ac, v = acv o := by
 obtain ⟨f0, f1, f2, hs, e0, e1, e2⟩ : ∃ f0 f1 f2 : Field, Try.prog.underlying 77 = some (.struct #[f0, f1, f2]) ∧ f0.type = 3 ∧ f1.type = 3 ∧ f2.type = 3 :=
  ⟨_, _, _, Try.underlying77, rfl, rfl, rfl⟩
 rw [hs] at hst
 obtain rfl : #[f0, f1, f2] = fs := by simpa using hst
 obtain ⟨hlen, hf⟩ := h
 match v, hlen with
 | [c0, c1, c2], _ =>
  have g0 := hf 0 f0 c0 rfl rfl
  have g1 := hf 1 f1 c1 rfl rfl
  have g2 := hf 2 f2 c2 rfl rfl
  rw [e0] at g0
  rw [e1] at g1
  rw [e2] at g2
  obtain ⟨x0, rfl, _⟩ := g0.int Try.underlying3
  obtain ⟨x1, rfl, _⟩ := g1.int Try.underlying3
  obtain ⟨x2, rfl, _⟩ := g2.int Try.underlying3
  exact ⟨⟨x0, x1, x2⟩, rfl⟩
theorem cellsAct : Try.prog.cellsOf 77 = 3 := by kernel_rfl
theorem oneAct : ∃ fs : Array Field, Try.prog.underlying 77 = some (.struct fs) ∧ fs.size = 3 ∧ oneCellFields Try.prog fs = true := ⟨_, Try.underlying77, rfl, by kernel_rfl⟩
theorem came_acts {c : Value} (h : Came Try.prog enc W 73 c) : ∃ (A : Option Addr) (os : List Ac) (cap : Nat), c = .slice A os.length cap ∧ Sl W A 3 (os.map acv) ∧ os.length ≤ 140737488351232 := by
 obtain ⟨fs, hst, hsz, hone⟩ := oneAct
 obtain ⟨A, vs, cap, rfl, h1, h2, h3, h4⟩ := h.rows Try.underlying73 hst hone (by rw [hsz]; exact cellsAct) (by omega) (of_decide_eq_true (by kernel_rfl))
 have each : ∀ vs : List (List Value), (∀ v ∈ vs, Fields Try.prog enc W fs v) → ∃ l : List Ac, vs = l.map acv := by
  intro vs
  induction vs with
  | nil => intro _; exact ⟨[], rfl⟩
  | cons v vs ih =>
   intro hv
   obtain ⟨l, rfl⟩ := ih fun x hx => hv x (List.mem_cons_of_mem _ hx)
   obtain ⟨o, rfl⟩ := fields_act hst (hv v List.mem_cons_self)
   exact ⟨o :: l, rfl⟩
 obtain ⟨l, rfl⟩ := each vs h4
 rw [hsz] at h1
 rw [List.length_map] at h2 ⊢
 exact ⟨A, l, cap, rfl, h1, h2⟩
end
theorem held_zero {B sb a k : Nat} {F : Nat → Prop} {w : World} {P : Pr} (h : SAt B F w sb (P.s a)) (hp : PI k P) (ha : a < 2) (he : (pk P a).held = []) :
  Calls Try.prog 27 #[.pointer (some ⟨sb, 0, none⟩), .int .i64 (xo a)] w fun e w' => e = .returned (.int .i64 0) ∧ w' = w := by
 obtain ⟨pb, As, cs, hx⟩ := h
 have hl := hp.len a ha
 have hn := hp.node a ha
 have hi : 1 - a < (P.s a).peers.length := by omega
 have hz : (xo a - 1).toNat = 1 - a := by unfold xo; omega
 have hq : (P.s a).peers[1 - a].held = [] := by
  unfold pk peerOf at he
  rw [hz, List.getElem?_eq_getElem hi] at he
  exact he
 have hh := Held_some hx (by omega) (1 - a) hi (by rw [hn]; omega)
 rw [hq, show ((1 - a : Nat) : Int) + 1 = xo a by unfold xo; omega] at hh
 exact hh
theorem PJ_start : PJ 0 0 meetS := ⟨PI.start, fun a ha => newS_pq ha (by decide) (by decide) 0, fun w hw => absurd hw List.not_mem_nil⟩
set_option maxHeartbeats 4000000 in
theorem walk (A : Option Addr) (os : List Ac) (c : Nat) (w : World) (hs : Sl w A 3 (os.map acv)) (hl : os.length ≤ 140737488351232) :
  Calls Try.prog 6 #[.slice A os.length c] w fun e w' => e = .returned (.bool true) ∧ Below w.heap.size w w' := by
 have HA := Lib.hid (awake_any w)
 have HS := Lib.hid hs
 obtain ⟨n, hn⟩ : ∃ q, os.length = q := ⟨_, rfl⟩
 rw [hn] at hl ⊢
 have HN := Lib.hid hn
 clear hs hn
 go_enter Try.func6, Try.ntmps6
 go_wp2_with fail
 refine HA.out.mono ?_
 rintro e w1 ⟨rfl, hb1⟩
 have HB1 := Lib.hid hb1
 have HM := Lib.hid (meet_pair w1)
 clear hb1 HA
 go_wp2_with fail
 refine HM.out.mono ?_
 rintro e w2 ⟨pb, s0, s1, mf, mt, F0, F1, rfl, q1, q2, q3, q4, q5, q6, q7, q8, q9, q10, q11, q12, q13, q14, q15⟩
 obtain ⟨B, hB⟩ : ∃ q, w1.heap.size = q := ⟨_, rfl⟩
 have hpa : PAtE w1.heap.size w2 pb meetS := ⟨_, _, _, _, _, _, _, _, _, PrAt.meet q2 q3 q4 q5 q6 q7 q8 q9 ⟨q10, q11, q12⟩ ⟨q1, q14, q15⟩⟩
 have HB2 := Lib.hid (HB1.out.trans (q13.mono HB1.out.size))
 have HBW : Hid (w.heap.size ≤ w1.heap.size) := Lib.hid HB1.out.size
 rw [hB] at hpa HBW
 have HPA := Lib.hid hpa
 clear hpa q1 q2 q3 q4 q5 q6 q7 q8 q9 q10 q11 q12 q13 q14 q15 hB HM HB1
 by_cases h200 : 200 < n
 ·have e1 : decide ((n : Int) > 200) = true := decide_eq_true (by omega)
  go_wp2_with fail
  go_returns
  exact ⟨rfl, HB2.out⟩
 have e1 : decide ((n : Int) > 200) = false := decide_eq_false (by omega)
 go_wp2_with fail
 go_loopw [23] (fun ix wr => ∃ (i : Nat) (P : Pr), ix = .int .i64 (i : Int) ∧ i ≤ n ∧ Hid (PJ i i P) ∧ Hid (CI P) ∧ Hid (PAtE B wr pb P) ∧ Hid (Below w.heap.size w wr)) (fun ix _ => n - (intOf ix).toNat)
 case atStart => exact ⟨0, meetS, rfl, Nat.zero_le _, Lib.hid PJ_start, Lib.hid CI.start, HPA, HB2⟩
 case round =>
  obtain ⟨i, P, rfl, hi, HJ, HC, HP, HB⟩ := hrel
  clear HPA HB2
  by_cases hlt : i < n
  ·have hio : i < os.length := by rw [HN.out]; exact hlt
   obtain ⟨g, off, rfl, hr⟩ := (HS.out.later HB.out) i (by rw [List.length_map]; exact hio)
   rw [List.getElem_map] at hr
   obtain ⟨o, hoo⟩ : ∃ o, os[i] = o := ⟨_, rfl⟩
   rw [hoo] at hr
   have z0 := hr 0 _ rfl
   rw [Nat.add_zero] at z0
   have z1 := hr 1 _ rfl
   have z2 := hr 2 _ rfl
   obtain ⟨w3, hw3⟩ : ∃ W, W = wr.alloc (.cells #[.int .i64 o.k, .int .i64 o.a, .int .i64 o.n] 77) := ⟨_, rfl⟩
   have hb3 : Below wr.heap.size wr w3 := by rw [hw3]; exact below_alloc _ _
   have hc3 : Cells w3 wr.heap.size 77 [.int .i64 o.k, .int .i64 o.a, .int .i64 o.n] := by rw [hw3]; exact cells_new _ _ _ _ rfl
   have y0 := hc3.cell (j := 0) rfl
   have y1 := hc3.cell (j := 1) rfl
   have y2 := hc3.cell (j := 2) rfl
   have hp3 : PAtE B w3 pb P := by
    obtain ⟨s0, s1, F0, F1, V, vc, mf, mt, m, h⟩ := HP.out
    exact ⟨s0, s1, F0, F1, V, vc, mf, mt, m, h.later hb3⟩
   have HDO := Lib.hid (do_any hp3 HJ.out (by omega) (by omega) o)
   have HJ2 := Lib.hid (HJ.out.act (by omega) o).2
   have HC2 := Lib.hid (HC.out.act HJ.out (by omega) o)
   have HB3 := Lib.hid (HB.out.trans (hb3.mono HB.out.size))
   clear hr hoo hio hb3 hc3 hp3 HP HB
   go_upto_region 9 with (fail)
   rw [← hw3]
   clear hw3 z0 z1 z2
   go_wp2_with fail
   refine HDO.out.mono ?_
   rintro e w4 ⟨rfl, hp4, hb4⟩
   have HP4 := Lib.hid hp4
   have HB4 := Lib.hid (HB3.out.trans (hb4.mono HBW.out))
   clear hp4 hb4 HDO HB3
   go_wp2_with fail
   go_roundw
   case rel => exact ⟨i + 1, (doM P o).2, by go_num, by omega, HJ2, HC2, HP4, HB4⟩
   case measure => simp [intOf]; omega
  ·have hin : i = n := by omega
   subst hin
   have HS0 : Hid (Hs i 1000 P) := Lib.hid ⟨⟨i, HJ.out, by omega⟩, HC.out⟩
   have HI : Hid (i ≤ 200) := Lib.hid (by omega)
   clear HJ HC hlt hi e1 h200
   go_wp2_with fail
   go_loopw [6] (fun tx wq => ∃ (t : Nat) (P : Pr), tx = .int .i64 (t : Int) ∧ t ≤ 40 ∧ Hid (Hs i (1000 + 2100 * t) P) ∧ Hid (Al t P) ∧ Hid (PAtE B wq pb P) ∧ Hid (Below w.heap.size w wq)) (fun tx _ => 40 - (intOf tx).toNat)
   case atStart => exact ⟨0, P, rfl, by decide, HS0, Lib.hid (Or.inl rfl), HP, HB⟩
   case round =>
    clear HP HB HS0
    obtain ⟨t, P, rfl, ht, HS, HT, HP, HB⟩ := hrel
    by_cases hlt : t < 40
    ·have e40 : decide ((t : Int) < 40) = true := decide_eq_true (by omega)
     have HTT : Hid (t < 40) := Lib.hid hlt
     clear hlt ht
     go_wp2_with fail
     go_loopw [7] (fun ax wq => ∃ (a : Nat) (P : Pr), ax = .int .i64 (a : Int) ∧ a ≤ 2 ∧ Hid (Hs i (1000 + 2100 * t + a) P) ∧ Hid (Tk t a P) ∧ Hid (PAtE B wq pb P) ∧ Hid (Below w.heap.size w wq)) (fun ax _ => 2 - (intOf ax).toNat)
     case atStart => exact ⟨0, P, rfl, by decide, HS, Lib.hid HT.out.tk, HP, HB⟩
     case round =>
      clear HP HB HS HT
      obtain ⟨a, P, rfl, ha, HS, HT, HP, HB⟩ := hrel
      by_cases ha2 : a < 2
      ·have eA : decide ((a : Int) < 2) = true := decide_eq_true (by omega)
       obtain ⟨⟨j, hJ, hj⟩, hC⟩ := HS.out
       obtain ⟨s0, s1, F0, F1, V, vc, mf, mt, m, hp⟩ := HP.out
       have HP2 := Lib.hid hp
       have HJ := Lib.hid hJ
       obtain ⟨st, Ft, cs0, ce0, hsat, hfk, hstep⟩ := HP2.out.side ha2
       have HQA := Lib.hid (HJ.out.q a ha2)
       have hq := HQA.out
       have HTK := Lib.hid (Tick_any hsat hq.ok HP2.out.size fun i hi e => hq.lone i _ (List.getElem?_eq_getElem hi) e)
       have hst2 := fun (F' : Nat → Prop) (w' : World) hs => hstep (S' := (tickM (P.s a)).2) (F' := F') (w' := w') hs (tick_fix _).epoch
       have HST := Lib.hid hst2
       have hjb : 1000 + 2100 * t + a ≤ 1000000 := by have := HTT.out; omega
       have HSN := Lib.hid (HS.out.tick hjb ha2)
       have HTN := Lib.hid (Tk.tick HS.out hjb ha2 HT.out)
       clear hst2 hJ hj hC hp ha hjb
       have hai : (a : Int) < 2 := by omega
       clear ce0 hsat hfk hstep hq
       go_wp2_with fail
       refine HTK.out.mono ?_
       rintro r w3 ⟨V5, n5, c5, F', rfl, hrow, hst, hnf⟩
       obtain ⟨⟨G0, G1, hpr⟩, hbl⟩ := HST.out _ _ hst
       obtain ⟨hn5, hsl⟩ := OwnG.sl fit_ot hrow
       have hlt := fun q (e : blk V5 = some q) => World.ownsRow.lt hrow q (by rw [own_blk]; exact e)
       have HPUT := Lib.hid (put_out hpr (by show P.way.length ≤ 300; exact HJ.out.pi.few) (tickM (P.s a)).1 V5 c5 hsl (Nat.le_trans (tickM_few HQA.out.ok) (by decide)) (fun o ho => by
        obtain ⟨j, p, h1, h2, _⟩ := tickO_mem ho
        have := (List.getElem?_eq_some_iff.1 h1).1
        have := HJ.out.pi.len a ha2
        omega) (fun q e => by
        have h1 := hlt q e
        have h2 := HP2.out.way.box.lt
        refine ⟨by omega, fun e2 => ?_⟩
        have h3 := (HP2.out.vlow q e2).2
        omega) (fun q e => (hlt q e).2))
       have HB3 := Lib.hid (HB.out.trans (hbl.mono HBW.out))
       subst hn5
       clear hrow hst hnf hpr hbl hsl hlt HTK HST HB HP
       go_wp2_with fail
       refine HPUT.out.mono ?_
       rintro e w4 ⟨rfl, hpe, hbl4⟩
       have HF : Hid (PAtE B w4 pb (tickW P a) ∧ Below w.heap.size w w4) := Lib.hid (And.intro hpe (HB3.out.trans (hbl4.mono HBW.out)))
       clear hpe hbl4 HPUT
       go_wp2_with fail
       go_roundw
       case rel => exact ⟨a + 1, tickW P a, by go_num, by omega, HSN, HTN, Lib.hid HF.out.1, Lib.hid HF.out.2⟩
       case measure => simp [intOf]; omega
      ·have eA : decide ((a : Int) < 2) = false := decide_eq_false (by omega)
       have ha3 : a = 2 := by omega
       rw [ha3] at HS HT
       have HD := Lib.hid (Tk.dn HS.out HT.out)
       clear ha ha2 ha3 HT
       go_wp2_with fail
       go_loopw [8] (fun mx wq => ∃ (m : Nat) (P : Pr), mx = .int .i64 (m : Int) ∧ m ≤ 2000 ∧ Hid (Hs i (1000 + 2100 * t + 2 + m) P) ∧ Hid (Dn t m P) ∧ Hid (PAtE B wq pb P) ∧ Hid (Below w.heap.size w wq)) (fun mx _ => 2000 - (intOf mx).toNat)
       case atStart => exact ⟨0, P, rfl, by decide, HS, HD, HP, HB⟩
       case round =>
        clear HP HB HS HD
        obtain ⟨m, P, rfl, hm, HS, HD, HP, HB⟩ := hrel
        have hm1 := HD.out.few
        have e20 : decide ((m : Int) < 2000) = true := decide_eq_true (by omega)
        obtain ⟨s0, s1, F0, F1, V, vc, mf, mt, mm, hp⟩ := HP.out
        have c4 : wr.cell? ⟨pb, 4, none⟩ = some (.slice V P.way.length vc) := hp.way.box.cell (j := 4) rfl
        obtain ⟨nw, hnw⟩ : ∃ q, P.way.length = q := ⟨_, rfl⟩
        rw [hnw] at c4
        have hjb : 1000 + 2100 * t + 2 + m ≤ 1000000 := by have := HTT.out; omega
        clear hp
        by_cases h0 : nw = 0
        ·subst h0
         have hw0 : P.way = [] := List.eq_nil_of_length_eq_zero hnw
         have e00 : decide (((0 : Nat) : Int) > 0) = false := by decide
         have HAN := Lib.hid (Dn.al HS.out hjb hw0 HD.out)
         have HS2 : Hid (Hs i (1000 + 2100 * (t + 1)) P) := Lib.hid ⟨by
          obtain ⟨j, h1, h2⟩ := HS.out.1
          exact ⟨j, h1, by omega⟩, HS.out.2⟩
         clear hw0 hnw hjb HD HS hm hm1
         have htt := HTT.out
         go_wp2_with fail
         go_roundw
         case rel => exact ⟨t + 1, P, by go_num, htt, HS2, HAN, HP, HB⟩
         case measure => simp [intOf]; omega
        ·have e00 : decide ((nw : Int) > 0) = true := decide_eq_true (by omega)
         have hl0 : 0 < P.way.length := by omega
         obtain ⟨v, hv⟩ : ∃ v, P.way[0] = v := ⟨_, rfl⟩
         have hvq : P.way[0]? = some v := by rw [List.getElem?_eq_getElem hl0, hv]
         have hco : Calls Try.prog 32 #[.pointer (some ⟨pb, 0, none⟩), .int .i64 0] wr fun e w' => e = .returned (.bool true) ∧ PAtE B w' pb (comeM P 0 v).2 ∧ Below B wr w' := by
          obtain ⟨j, h1, h2⟩ := HS.out.1
          exact come_any (i := 0) HP.out h1 (by have := HI.out; omega) (by omega) hvq
         have HCO := Lib.hid hco
         have HSN := Lib.hid (HS.out.come hjb hvq)
         have HDN := Lib.hid (Dn.come HS.out hjb hvq HD.out)
         have hm2 := Dn.more HS.out hjb hvq HD.out
         have hpos : 0 < nw := by omega
         clear hco hvq hv hl0 hnw hjb h0 HS HD HP hm hm1
         go_wp2_with fail
         refine HCO.out.mono ?_
         rintro e w4 ⟨rfl, hpe, hbl4⟩
         have HP4 := Lib.hid hpe
         have HB4 := Lib.hid (HB.out.trans (hbl4.mono HBW.out))
         clear hpe hbl4 HCO HB c4
         go_wp2_with fail
         go_roundw
         case rel => exact ⟨m + 1, (comeM P 0 v).2, by go_num, by omega, HSN, HDN, HP4, HB4⟩
         case measure => simp [intOf]; omega
    ·have ht4 : t = 40 := by omega
     subst ht4
     obtain ⟨hw0, hh⟩ := Al.none HS.out (by decide) HT.out
     obtain ⟨⟨j, hJ, hj⟩, hC⟩ := HS.out
     obtain ⟨s0, s1, F0, F1, V, vc, mf, mt, mm, hp⟩ := HP.out
     have c4 : wr.cell? ⟨pb, 4, none⟩ = some (.slice V P.way.length vc) := hp.way.box.cell (j := 4) rfl
     rw [hw0, List.length_nil] at c4
     have c0 : wr.cell? ⟨pb, 0, none⟩ = some (.pointer (some ⟨s0, 0, none⟩)) := hp.way.box.cell (j := 0) rfl
     have c1 : wr.cell? ⟨pb, 1, none⟩ = some (.pointer (some ⟨s1, 0, none⟩)) := hp.way.box.cell (j := 1) rfl
     have HH0 : Hid (Calls Try.prog 27 #[.pointer (some ⟨s0, 0, none⟩), .int .i64 2] wr fun e w' => e = .returned (.int .i64 0) ∧ w' = wr) := Lib.hid (held_zero (a := 0) hp.a0 hJ.pi (by decide) (hh 0 (by decide)))
     have HH1 : Hid (Calls Try.prog 27 #[.pointer (some ⟨s1, 0, none⟩), .int .i64 1] wr fun e w' => e = .returned (.int .i64 0) ∧ w' = wr) := Lib.hid (held_zero (a := 1) hp.a1 hJ.pi (by decide) (hh 1 (by decide)))
     clear hw0 hh hJ hj hC hp HS HT HP hlt ht
     go_wp2_with fail
     refine HH0.out.mono ?_
     rintro e w5 ⟨rfl, rfl⟩
     go_wp2_with fail
     refine HH1.out.mono ?_
     rintro e w6 ⟨rfl, rfl⟩
     go_wp2_with fail
     go_returns
     exact ⟨rfl, HB.out⟩
theorem opened {H : Type} {enc : TypeId × Value → H} {W : World} {base : Nat} {gs : List (DataW H)} (v0 : Value) (d0 : DataW H) (p0 : List MemPlace)
  (o0 : Value.okWide Try.prog W .any base 73 v0) (t0 : DataW.Trod enc Try.prog W 0 (fun _ => true) true 73 v0 d0 p0)
  (hsz : (DataW.weightsEach Try.prog ([73] ++ []) ([d0] ++ gs)).all (· ≤ reachBytes) = true) :
  Calls Try.prog 6 #[v0] W fun e W' => e = .returned (.bool true) ∧ Below W.heap.size W W' := by
 obtain ⟨a0, len, c0, rfl⟩ := okWide_slice Try.underlying73 o0
 obtain ⟨A, os, cap', e, h1, h2⟩ := came_acts (came_of t0 (Base.small_of hsz (j := 0) rfl rfl) (by simp [Value.cells]))
 rw [e]
 exact walk A os cap' W h1 h2
theorem contract (H : Type) (enc : TypeId × Value → H) (W : World) (base : Nat) (args : Array Value) (ds gs : List (DataW H)) (before : List MemPlace)
  (hval : ∀ (j : Nat) t v, Try.f6.params[j]? = some t → args[j]? = some v → Value.okWide Try.prog W .any base t v)
  (hW : DataW.Whole enc Try.prog Try.f6.params.toList Rows.sessionAllSpec.vars false W args.toList ds gs before)
  (hsz : (DataW.weightsEach Try.prog (Try.f6.params.toList ++ []) (ds ++ gs)).all (· ≤ reachBytes) = true) :
  Calls Try.prog 6 args W fun e W' => ∃ v, e = .returned v ∧ Rows.sessionAllSpec.post enc Try.prog Try.f6 false true false false W args v W' := by
 have hW0 := hW
 obtain ⟨p, q, hA0, hV, rfl, _, _⟩ := hW
 have hA : DataW.TrodAll enc Try.prog W 0 (fun _ => true) true Try.f6.params.toList args.toList ds p := hA0
 rw [Try.params6] at hA hval hsz
 obtain ⟨v0, vs0, d0, ds0, p0, q0, hargs, rfl, rfl, h0, r0⟩ := trodAll_cons hA
 obtain ⟨rfl, rfl, rfl⟩ := trodAll_nil r0
 obtain rfl : args = #[v0] := by cases args; simp_all
 refine (opened v0 d0 p0 (hval 0 73 v0 rfl rfl) h0 hsz).mono fun e W' ⟨he, hb⟩ => ⟨_, he, ?_⟩
 exact Base.law_post (tb := 4) Base.laidOut (by kernel_rfl) rfl Try.underlying4 rfl (fun l hl => by
  rw [Try.params6] at hl
  match l, hl with
  | [_], _ => rfl) (by rw [Try.params6]; rfl) hW0 hb
theorem laid_met (os : Os) : laidMet Try.prog Rows.sessionAllRow.laid ((Base.plainWorld os).forCall (fun _ _ => 0) ⟨#[], #[.slice none 0 0], []⟩).memory := laidMet_nil _ _
theorem reads (os : Os) {H : Type} (enc : TypeId × Value → H) : ∃ places, DataW.whole enc Try.prog ((Base.plainWorld os).forCall (fun _ _ => 0) ⟨#[], #[.slice none 0 0], []⟩).memory Try.f6.params.toList Rows.sessionAllSpec.vars false (#[.slice none 0 0] : Array Value).toList 8 = some ([.nil], [], places) :=
 ⟨[], by kernel_rfl⟩
set_option maxRecDepth 100000 in
theorem lifted (os : Os) (started : os.Started) (H : Type) (enc : TypeId × Value → H) (F : Stop.Interp) :
  ReturnsInHanded {} Try.checked os 6 .any ((OpenSpec.ofChange Rows.sessionAllSpec).preRow enc Try.prog Try.f6 Rows.sessionAllRow.domain false Rows.sessionAllRow.laid) (((OpenSpec.ofChange Rows.sessionAllSpec).at F).post enc Try.prog Try.f6 false true false false) := by
 obtain ⟨places, hx⟩ := reads os enc
 refine returnsInHanded_of_row (C := Try.checked) (s := OpenSpec.ofChange Rows.sessionAllSpec) Base.own started (by kernel_rfl) Try.func6
  (witness_row_at (enc := enc) (C := Try.checked) false (Base.plainWorld os) #[.slice none 0 0] rfl (by kernel_rfl) (by kernel_rfl) (by kernel_rfl)
   (OpenSpec.preRow_of_cond 8 hx (by kernel_rfl) (fun k hk => by cases hk) (by kernel_rfl) (laid_met os))) ?_
 intro W base args ds gs before hval hW _ _ hsz _ _ _
 exact contract H enc W base args ds gs before hval hW hsz
theorem said : Rows.SessionAllSaid :=
 OpenClaim.holds_of_cond 6 Try.f6 rfl rfl rfl rfl rfl rfl rfl ⟨rfl, rfl, rfl, rfl, rfl⟩ rfl rfl rfl rfl rfl (by kernel_rfl) Try.func6 (by kernel_rfl)
  (of_decide_eq_true (by kernel_rfl)) (by unfold Func.isWrapper; rw [if_neg (of_decide_eq_false (by kernel_rfl))]; exact ⟨rfl, rfl⟩)
  (fun os started H enc _ F => by rw [OpenClaim.pre_eq_preRow]; exact lifted os started H enc F)
#print axioms said
end Go.Proofs.Ytccdpgbmkiapdaa.SessionAll
