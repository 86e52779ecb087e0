/- Part 43 of the proof. Conditions: none. -/
import Derived.Test.YtdkchpiinelmiaaGreatZ40
import Derived.Test.YtdkchpiinelmiaaGreatZ42
namespace Go.Proofs.YtdkchpiinelmiaaGreat.Led
set_option maxRecDepth 100000
open Go.RowKit Go.Deep Mem fN Rec
def TX (g2 gl n dc ii : Nat) (tu u : cT) : Nat -> Value -> World -> Prop := N.tb [.inl (.int .i64 (ii : Int)), .inl (.pointer (some ⟨g2, 6, none⟩)), .inl (.slice (some ⟨gl, 0, none⟩) n dc), .inl (.int .i64 (n : Int)), .inl (.bool true), .inl (.bool true), .inl (.pointer (some ⟨g2, 6, none⟩)), .inl (.slice (some ⟨gl, 0, none⟩) n dc), .inl (.int .i64 (ii : Int)), .inl (.pointer (some ⟨gl, ii * 4, none⟩)), .inl (.pointer (some ⟨gl, ii * 4, none⟩)), .inl (.agg #[.int .i64 tu.node, .int .i64 tu.epoch, .int .i64 tu.seq]), .inl (.agg #[.int .i64 u.node, .int .i64 u.epoch, .int .i64 u.seq]), .inl (.int .i64 (ord tu u)), .inl (.bool (decide (ord tu u < 0))), .inl (.bool (decide (ord tu u < 0)))]
def Kc (g2 gl n dc : Nat) : Nat -> Value -> World -> Prop := N.tb [.inl (.int .i64 (n : Int)), .inl (.pointer (some ⟨g2, 6, none⟩)), .inl (.slice (some ⟨gl, 0, none⟩) n dc), .inl (.int .i64 (n : Int)), .inl (.bool false), .inl (.bool false), .inl (undef), .inl (undef), .inl (undef), .inl (undef), .inl (undef), .inl (undef), .inl (undef), .inl (undef), .inl (undef), .inl (.bool false)]
set_option maxHeartbeats 4000000 in
theorem kF (s : St) (y : Sy) (u : cT) (yes : Bool) (w : World) (h : cL w s y) (gl : Nat) (hD : y.D = some ⟨gl, 0, none⟩) (hc : s.dec.length <= y.d) (hl : s.dec.length <= 900)
  (hmo : ∀ a b : Nat, a <= b -> ((s.dec.map fun x => ord x.tid u)[b]?).getD 0 < 0 -> ((s.dec.map fun x => ord x.tid u)[a]?).getD 0 < 0) :
  Calls Tryz.prog 34 #[s.val y, u.val, .bool yes] w fun e w' => (∃ A c, e = .returned (St.val { s with dec := gI s.dec (De.mk u yes) } { y with D := A, d := c }) /\ w'.ownsRow w.heap.size 75 4 (.slice A (gI s.dec (De.mk u yes)).length c) (gI s.dec (De.mk u yes)).length ((gI s.dec (De.mk u yes)).map De.vals).flatten) /\ Below w.heap.size w w' := by
 obtain ⟨yP, yp, yQ, yq, yD, dc, yC, yc, wG, wH⟩ := y; obtain rfl : yD = some ⟨gl, 0, none⟩ := hD; obtain ⟨n, hn⟩ := ah s.dec.length; obtain ⟨wa, cM⟩ := aj (w.alloc (.cells #[iv s.node, iv s.nodes, iv s.cells, iv s.epoch, .slice yP s.places.length yp, .slice yQ s.ay.length yq, .slice (some ⟨gl, 0, none⟩) n dc, .slice yC s.com.length yc] 41)); have hba : Below w.heap.size w wa := by rw [cM]; exact av _ _
 have hca : Cells wa w.heap.size 41 [iv s.node, iv s.nodes, iv s.cells, iv s.epoch, .slice yP s.places.length yp, .slice yQ s.ay.length yq, .slice (some ⟨gl, 0, none⟩) n dc, .slice yC s.com.length yc] := by rw [cM]; exact aB w 41 _ _ rfl
 have hsz : wa.heap.size = w.heap.size + 1 := by rw [cM]; exact World.size_alloc _ _
 obtain ⟨wb, hwb⟩ := aj (wa.alloc (.cells #[iv u.node, iv u.epoch, iv u.seq] 47)); have hbb : Below wa.heap.size wa wb := by rw [hwb]; exact av _ _
 have hcb : Cells wb wa.heap.size 47 [iv u.node, iv u.epoch, iv u.seq] := by rw [hwb]; exact aB wa 47 _ _ rfl
 have hsb : wb.heap.size = w.heap.size + 2 := by rw [hwb, World.size_alloc, hsz]
 rw [hsz] at hcb; obtain ⟨wc, hwc⟩ := aj (wb.alloc (.cells #[iv 0, iv 0, iv 0, iv 0, .slice none 0 0, .slice none 0 0, .slice none 0 0, .slice none 0 0] 41)); have hbc : Below wb.heap.size wb wc := by rw [hwc]; exact av _ _
 have hcc : Cells wc wb.heap.size 41 tS := by rw [hwc]; exact aB wb 41 tS _ rfl
 have hsc : wc.heap.size = w.heap.size + 3 := by rw [hwc, World.size_alloc, hsb]
 rw [hsb] at hcc; have hab : Below w.heap.size w wb := hba.trans (hbb.mono hba.size); have hac : Below w.heap.size w wc := hab.trans (hbc.mono hab.size); have HB := ak hac; have HC := ak ((hca.later hbb).later hbc); have HU := ak (hcb.later hbc); have sF := ak hcc; have HSL : Hid (Sl wc (some ⟨gl, 0, none⟩) 4 (s.dec.map De.vals)) := ak (h.dec.later hac); have HZ := ak hsc; have HN := ak hn; have JN : Hid (n <= dc) := ak (by rw [<- hn]; exact hc); have I4 : Hid (n <= 900) := ak (by rw [<- hn]; exact hl); have Vi := ak (lT _ hmo); have lC : Hid (fC (s.dec.map fun x => ord x.tid u) <= n) := ak (by have := mB (s.dec.map fun x => ord x.tid u); rw [List.length_map, hn] at this; exact this)
 unfold St.val cT.val; rw [hn]; clear h hc hl hmo hn hba hbb hbc hca hcb hcc hsz hsb hsc hab hac
 go_enter Tryz.func34, Tryz.ntmps34
 go_upto_region 1 with (fail)
 rw [<- cM, <- hwb, <- hwc]; clear cM hwb hwc
 go_wp2_with fail
 go_loopw [7] (fun i wr => ∃ ii : Nat, i = iv (ii : Int) /\ Hid (ii <= n) /\ Hid (∀ j, j < ii -> ((s.dec.map fun x => ord x.tid u)[j]?).getD 0 < 0) /\ Hid (Below wc.heap.size wc wr)) (fun i _ => n - (intOf i).toNat)
 case atStart => exact ⟨0, rfl, ak (Nat.zero_le _), ak (fun j hj => absurd hj (by omega)), ak (Below.refl _ _)⟩
 case round =>
  obtain ⟨ii, rfl, Jl, HD, lX⟩ := hrel; have jt : Hid (∀ wi, Below wr.heap.size wr wi -> wi.cell? ⟨w.heap.size, 6, none⟩ = some (.slice (some ⟨gl, 0, none⟩) n dc)) := ak fun wi hb => ((HC.o.later lX.o).later hb).cell (j := 6) rfl
  by_cases hlt : ii < n
  ·have Gb : Hid (ii < s.dec.length) := ak (by rw [HN.o]; exact hlt)
   obtain ⟨tu, htu⟩ := ah ((s.dec[ii]'Gb.o).tid); have mS : Hid (∀ wi, Below wr.heap.size wr wi -> wi.rangeAt gl (ii * 4) [iv tu.node, iv tu.epoch, iv tu.seq]) := ak fun wi hb => by
    obtain ⟨b, off, e, hr⟩ := ((HSL.o.later lX.o).later hb) ii (by rw [List.length_map]; exact Gb.o); obtain ⟨rfl, rfl, _⟩ := Addr.mk.inj (Option.some.inj e); rw [Nat.zero_add] at hr; refine fun j v hv => hr j v ?_
    have hj : j < 3 := (List.getElem?_eq_some_iff.1 hv).1; rw [List.getElem_map]; unfold De.vals; rw [htu]
    match j, hj with
    | 0, _ | 1, _ | 2, _ => exact hv
   have tX : Hid (∀ wi, Below wr.heap.size wr wi -> Cells wi (w.heap.size + 1) 47 [iv u.node, iv u.epoch, iv u.seq]) := ak fun wi hb => (HU.o.later lX.o).later hb
   have HI := ak hlt; have Lg : Hid (((s.dec.map fun x => ord x.tid u)[ii]?).getD 0 = ord tu u) := ak (by
    rw [List.getElem?_map, List.getElem?_eq_getElem Gb.o]; show ord (s.dec[ii]'Gb.o).tid u = ord tu u
    rw [htu])
   clear htu
   go_upto_region 2 with (fail)
   refine N.rb 15 [15] (TX w.heap.size gl n dc ii tu u) wr (fun V => [(some 8, V 0), (some 9, V 1), (some 10, V 2), (some 11, V 3), (some 12, V 4), (some 13, V 5), (some 14, V 6), (some 15, V 7), (some 16, V 8), (some 17, V 9), (some 18, V 10), (some 19, V 11), (some 20, V 12), (some 21, V 13), (some 22, V 14), (some 23, V 15)]) ?_ ?_
   ·intro i o ho
    have hi : i < 16 := (Array.getElem?_eq_some_iff.1 ho).1; rcases i with _ | _ | _ | _ | _ | _ | _ | _ | _ | _ | _ | _ | _ | _ | _ | _ | i
    rotate_right
    ·omega
    all_goals obtain rfl := Option.some.inj ho
    all_goals intro ρ wi hE hI hs hd
    all_goals try dsimp only at hI
    all_goals (have e7 : ρ (.tmp 7) = iv (ii : Int) := hs 7; have e3 : ρ (.tmp 3) = (au w.heap.size) := hs 3; have hc := hE.const)
    iterate 2 ·exact N.gw hI
    ·obtain ⟨_, rfl, e9⟩ := hd 1 9; have x0 := jt.o _ hI; exact N.gw hI
    ·obtain ⟨_, rfl, e10⟩ := hd 2 10; exact N.gw hI
    ·obtain ⟨_, rfl, e8⟩ := hd 0 8; obtain ⟨_, rfl, e11⟩ := hd 3 11
     have z2 : (ii : Int) < (n : Int) := by have := HI.o; omega
     have z3 : ii < n := HI.o; exact N.gw hI
    ·obtain ⟨_, rfl, e12⟩ := hd 4 12; exact N.gw hI
    ·refine N.yes ?_
     exact N.gw hI
    ·obtain ⟨_, rfl, mZ⟩ := hd 6 14
     refine N.yes ?_; have x0 := jt.o _ hI; exact N.gw hI
    ·refine N.yes ?_
     exact N.gw hI
    ·obtain ⟨_, rfl, mY⟩ := hd 7 15; obtain ⟨_, rfl, e16⟩ := hd 8 16
     refine N.yes ?_; have z1 : (0 : Int) <= (ii : Int) := by omega
     have z2 : (ii : Int) < (n : Int) := by have := HI.o; omega
     have z3 : ii < n := HI.o; exact N.gw hI
    ·obtain ⟨_, rfl, e17⟩ := hd 9 17
     refine N.yes ?_; exact N.gw hI
    ·obtain ⟨_, rfl, e18⟩ := hd 10 18
     refine N.yes ?_; have q0 := mS.o _ hI 0 _ rfl; rw [Nat.add_zero] at q0; have q1 := mS.o _ hI 1 _ rfl; have q2 := mS.o _ hI 2 _ rfl; exact N.gw hI
    ·have e4 : ρ (.tmp 4) = (au ((w.heap.size + 1))) := hs 4
     refine N.yes ?_; have hq := tX.o _ hI; obtain ⟨q0, q1, q2⟩ := hq.q3; exact N.gw hI
    ·obtain ⟨_, rfl, e19⟩ := hd 11 19; obtain ⟨_, rfl, wL⟩ := hd 12 20; have hf := hE.func
     refine N.yes ?_; refine N.Gives.call (f := 33) (args := #[.agg #[iv tu.node, iv tu.epoch, iv tu.seq], .agg #[iv u.node, iv u.epoch, iv u.seq]]) (w' := wi) (by go_simp) ?_; refine (mJ tu u wi).mono ?_; rintro e w'' ⟨rfl, hbb⟩; exact ⟨_, rfl, ⟨rfl, hI.trans (hbb.mono hI.size), fun j u _ _ h => N.tz h⟩⟩
    ·obtain ⟨_, rfl, ug⟩ := hd 13 21
     refine N.yes ?_; exact N.gw hI
    obtain ⟨_, rfl, l5⟩ := hd 5 13; obtain ⟨_, rfl, wT⟩ := hd 14 22; exact N.gw hI
   intro V wf hV hI
   have kq : V 15 = .bool (decide (ord tu u < 0)) := hV 15 (by decide) rfl; simp only [N.aP, List.foldl_cons, List.foldl_nil, Act.put, List.setIfInBounds_toArray, List.set_cons_succ, List.set_cons_zero, kq]; replace hI : (fun a => Below wr.heap.size wr a) wf := hI; clear hV kq; have jM := ak (lX.o.trans (hI.mono lX.o.size)); clear hI; obtain ⟨b, hb⟩ := ah (decide (ord tu u < 0)); rw [hb]; have mV := ak hb; clear hb
   cases b with
   | true =>
    have jL : Hid (∀ j, j < ii + 1 -> ((s.dec.map fun x => ord x.tid u)[j]?).getD 0 < 0) := ak fun j hj => by
     by_cases e : j = ii
     ·rw [e, Lg.o]
      exact of_decide_eq_true mV.o
     exact HD.o j (by omega)
    clear jt mS tX; have hnl := I4.o
    go_wp2_with fail
    go_roundw
    case rel => exact ⟨ii + 1, by go_num, ak (by omega), jL, jM⟩
    case measure => simp [intOf]; omega
   | false =>
    have sH : Hid (fC (s.dec.map fun x => ord x.tid u) = ii) := ak (by
     have h1 := Vi.o; have h2 : ¬ ord tu u < 0 := of_decide_eq_false mV.o; rcases Nat.lt_trichotomy (fC (s.dec.map fun x => ord x.tid u)) ii with e | e | e
     ·exact absurd (HD.o _ e) (by have := h1.2 _ (Nat.le_refl _); omega)
     ·exact e
     exact absurd (by rw [<- Lg.o]; exact h1.1 _ e) h2)
    clear hlt HI mV Lg; obtain ⟨we, jf⟩ := aj wf; subst jf; clear lX mS tX jt; have zo : Hid (∀ wi, Below we.heap.size we wi -> Cells wi w.heap.size 41 [iv s.node, iv s.nodes, iv s.cells, iv s.epoch, .slice yP s.places.length yp, .slice yQ s.ay.length yq, .slice (some ⟨gl, 0, none⟩) n dc, .slice yC s.com.length yc]) := ak fun wi hb => (HC.o.later jM.o).later hb
    have jt : Hid (∀ wi, Below we.heap.size we wi -> wi.cell? ⟨w.heap.size, 6, none⟩ = some (.slice (some ⟨gl, 0, none⟩) n dc)) := ak fun wi hb => (zo.o wi hb).cell (j := 6) rfl
    have tX : Hid (∀ wi, Below we.heap.size we wi -> Cells wi (w.heap.size + 1) 47 [iv u.node, iv u.epoch, iv u.seq]) := ak fun wi hb => (HU.o.later jM.o).later hb
    have Ge : Hid (∀ wi, Below we.heap.size we wi -> Sl wi (some ⟨gl, 0, none⟩) 4 (s.dec.map De.vals)) := ak fun wi hb => (HSL.o.later jM.o).later hb
    have La : Hid (∀ wi, Below we.heap.size we wi -> Sl wi (some ⟨gl, 0, none⟩) 4 ((s.dec.take ii).map De.vals)) := ak fun wi hb => by rw [List.map_take]; exact mC (Ge.o wi hb) ii
    have zV : Hid (∃ AD : Addr, (if dc = ii then some ⟨gl, 0, none⟩ else some ⟨gl, ii * 4, none⟩ : Option Addr) = some AD /\ ∀ wi, Below we.heap.size we wi -> Sl wi (some AD) 4 ((s.dec.drop ii).map De.vals)) := ak (by
     by_cases he : dc = ii
     ·refine ⟨_, if_pos he, fun wi hb => ?_⟩
      have h0 : s.dec.drop ii = [] := List.drop_eq_nil_iff.2 (by have := HN.o; have := JN.o; omega)
      rw [h0]; exact gN _ _ _
     refine ⟨_, if_neg he, fun wi hb => ?_⟩
     have := mD (Ge.o wi hb) ii; rw [Nat.zero_add] at this; rw [List.map_drop]; exact this)
    obtain ⟨AD, FZ, FX⟩ := zV.o; have HAD := ak FZ; have Lr := ak FX; have HQ : Hid (ii <= n /\ n <= dc /\ n <= 900 /\ (s.dec.take ii).length = ii /\ (s.dec.drop ii).length = n - ii) := ak ⟨Jl.o, JN.o, I4.o, by rw [List.length_take, HN.o]; have := Jl.o; omega, by rw [List.length_drop, HN.o]⟩; clear FZ FX
    go_upto_region 4 with (fail)
    refine N.bk (by kernel_rfl) (fun i => ([none, some (.pointer (some ⟨w.heap.size, 6, none⟩)), some (.slice (some ⟨gl, 0, none⟩) n dc), some (iv (ii : Int)), some (.slice (some ⟨gl, 0, none⟩) ii dc), none, some (.agg #[iv u.node, iv u.epoch, iv u.seq]), some (.bool yes), some (.agg #[iv u.node, iv u.epoch, iv u.seq, .bool yes]), none, none, some (.pointer (some ⟨w.heap.size, 6, none⟩)), some (.slice (some ⟨gl, 0, none⟩) n dc), some (iv (ii : Int)), some (.slice (some AD) (n - ii) (dc - ii)), none, some (.pointer (some ⟨w.heap.size, 6, none⟩)), none] : List (Option Value)).getD i none) (fun D V W => ((D 17) = false -> dG 75 4 De.vals we (D 0) (cond (D 15) (V 15) (cond (D 10) (V 10) (cond (D 5) (V 5) (V 0)))) (cond (D 15) (s.dec.take ii ++ [(De.mk u yes)] ++ s.dec.drop ii) (cond (D 10) (s.dec.take ii ++ [(De.mk u yes)]) (cond (D 5) (s.dec.take ii) []))) (D 9) (V 9) (De.mk u yes) W) /\ ((D 17) = true -> ∃ W0 A n c, dG 75 4 De.vals we true (.slice A n c) (s.dec.take ii ++ [(De.mk u yes)] ++ s.dec.drop ii) true (V 9) (De.mk u yes) W0 /\ n = (s.dec.take ii ++ [(De.mk u yes)] ++ s.dec.drop ii).length /\ W = W0.setCell ⟨w.heap.size, 6, none⟩ (.slice A n c))) (fun V => [(some 26, V 0), (some 27, V 1), (some 28, V 2), (some 29, V 3), (some 30, V 4), (some 31, V 5), (some 32, V 6), (some 33, V 7), (some 34, V 8), (some 35, V 9), (some 36, V 10), (some 37, V 11), (some 38, V 12), (some 39, V 13), (some 40, V 14), (some 41, V 15), (some 42, V 16), (none, V 17)]) (by kernel_rfl) (by kernel_rfl) (fun V => rfl) ?_ ?_ ?_
    ·intro V
     exact ⟨fun _ => dG.start (Below.refl _ _).drew _ _ _ _, fun e => (by cases e)⟩
    ·intro i o ho
     have hi : i < 18 := (Array.getElem?_eq_some_iff.1 ho).1; rcases i with _ | _ | _ | _ | _ | _ | _ | _ | _ | _ | _ | _ | _ | _ | _ | _ | _ | _ | i
     rotate_right
     ·omega
     all_goals obtain rfl := Option.some.inj ho
     all_goals intro D V ρ wi hE hI cP hT hF hs hd hk
     all_goals (have e3 : ρ (.tmp 3) = (au w.heap.size) := hs 3; have e7 : ρ (.tmp 7) = iv (ii : Int) := hs 7)
     ·have iL : D 0 = false := cP; have dg : D 5 = false := hF 1 5; have cI : D 10 = false := hF 2 10; have bR : D 15 = false := hF 3 15; have dB : D 17 = false := hF 1 17; clear hT hF; have h1 := hI.1 dB
      rw [iL, dg, cI, bR] at h1; simp only [cond_false] at h1; exact N.Gives.value (v := .slice (some ⟨wi.heap.size, 0, none⟩) 0 0) (w' := wi.alloc (.cells #[] 75)) (by go_simp) ⟨fun x h => (by cases h), by show ((D 17) = false -> dG 75 4 De.vals we true (cond (D 15) (V 15) (cond (D 10) (V 10) (cond (D 5) (V 5) (Value.slice (some ⟨wi.heap.size, 0, none⟩) 0 0)))) (cond (D 15) (s.dec.take ii ++ [(De.mk u yes)] ++ s.dec.drop ii) (cond (D 10) (s.dec.take ii ++ [(De.mk u yes)]) (cond (D 5) (s.dec.take ii) []))) (D 9) (V 9) (De.mk u yes) (wi.alloc (.cells #[] 75))) /\ ((D 17) = true -> ∃ W0 A n c, dG 75 4 De.vals we true (.slice A n c) (s.dec.take ii ++ [(De.mk u yes)] ++ s.dec.drop ii) true (V 9) (De.mk u yes) W0 /\ n = (s.dec.take ii ++ [(De.mk u yes)] ++ s.dec.drop ii).length /\ (wi.alloc (.cells #[] 75)) = W0.setCell ⟨w.heap.size, 6, none⟩ (.slice A n c)); rw [dg, cI, bR]; simp only [cond_false]; exact ⟨fun _ => h1.W9, fun e => (by rw [dB] at e; cases e)⟩⟩
     ·clear hT hF hk
      exact N.gi _ ⟨fun _ => N.oi, hI⟩
     ·have Bn := (hd 1 27).trans (hk 1 _ rfl); have dB : D 17 = false := hF 1 17; clear hT hF; have hL : Below we.heap.size we wi := (hI.1 dB).low; have x0 := jt.o _ hL
      exact N.gi _ ⟨fun _ => N.oi, hI⟩
     ·clear hT hF hk
      exact N.gi _ ⟨fun _ => N.oi, hI⟩
     ·have Bl := (hd 2 28).trans (hk 2 _ rfl); have wK := (hd 3 29).trans (hk 3 _ rfl); clear hT hF
      have z0 : (0 : Int) <= (ii : Int) := by omega
      have z1 : (ii : Int) <= (dc : Int) := by have := HQ.o; omega
      have z2 : ii <= dc := by have := HQ.o; omega
      exact N.gi _ ⟨fun _ => N.oi, hI⟩
     ·have zj : ρ (.tmp 26) = V 0 := hd 0 26; have e30 := (hd 4 30).trans (hk 4 _ rfl); have iL : D 0 = true := hT 1 0; have dg : D 5 = false := cP; have cI : D 10 = false := hF 1 10; have bR : D 15 = false := hF 2 15; have dB : D 17 = false := hF 1 17; clear hT hF; have h1 := hI.1 dB
      rw [iL, dg, cI, bR] at h1
      try simp only [cond_false] at h1
      try simp only [cond_true] at h1
      obtain ⟨A2, n2, c2, w2, hrun, hn⟩ := dG.app (fM 2) fG h1 (m := s.dec.take ii) (La.o wi h1.low) (fun e => by cases e) (by have := HQ.o; have := HN.o; simp; omega)
      rw [HQ.o.2.2.2.1] at hrun; rw [List.nil_append] at hn; exact N.Gives.value (v := .slice A2 n2 c2) (w' := w2) (N.cH rfl zj e30 hrun) ⟨fun x h => (by cases h), by show ((D 17) = false -> dG 75 4 De.vals we (D 0) (cond (D 15) (V 15) (cond (D 10) (V 10) (cond true (Value.slice A2 n2 c2) (V 0)))) (cond (D 15) (s.dec.take ii ++ [(De.mk u yes)] ++ s.dec.drop ii) (cond (D 10) (s.dec.take ii ++ [(De.mk u yes)]) (cond true (s.dec.take ii) []))) (D 9) (V 9) (De.mk u yes) w2) /\ ((D 17) = true -> ∃ W0 A n c, dG 75 4 De.vals we true (.slice A n c) (s.dec.take ii ++ [(De.mk u yes)] ++ s.dec.drop ii) true (V 9) (De.mk u yes) W0 /\ n = (s.dec.take ii ++ [(De.mk u yes)] ++ s.dec.drop ii).length /\ w2 = W0.setCell ⟨w.heap.size, 6, none⟩ (.slice A n c)); rw [iL, cI, bR]; (try simp only [cond_false]); (try simp only [cond_true]); exact ⟨fun _ => hn, fun e => (by rw [dB] at e; cases e)⟩⟩
     ·have e4 : ρ (.tmp 4) = (au (w.heap.size + 1)) := hs 4; have dB : D 17 = false := hF 1 17; clear hT hF; have hL : Below we.heap.size we wi := (hI.1 dB).low; have hq := tX.o _ hL; obtain ⟨q0, q1, q2⟩ := hq.q3
      exact N.gi _ ⟨fun _ => N.oi, hI⟩
     ·have e2 : ρ (.tmp 2) = .bool yes := hs 2; clear hT hF hk
      exact N.gi _ ⟨fun _ => N.oi, hI⟩
     ·have zB := (hd 6 32).trans (hk 6 _ rfl); have Bk := (hd 7 33).trans (hk 7 _ rfl); clear hT hF hk
      exact N.gi _ ⟨fun _ => N.oi, hI⟩
     ·have Bj := (hd 8 34).trans (hk 8 _ rfl); have d_ : D 9 = false := cP; have dB : D 17 = false := hF 1 17; clear hT hF; have h1 := hI.1 dB
      rw [d_] at h1; exact N.Gives.value (v := .slice (some ⟨wi.heap.size, 0, none⟩) 1 1) (w' := wi.alloc (.cells #[iv u.node, iv u.epoch, iv u.seq, .bool yes] 75)) (by go_simp) ⟨fun x h => (by cases h), by show ((D 17) = false -> dG 75 4 De.vals we (D 0) (cond (D 15) (V 15) (cond (D 10) (V 10) (cond (D 5) (V 5) (V 0)))) (cond (D 15) (s.dec.take ii ++ [(De.mk u yes)] ++ s.dec.drop ii) (cond (D 10) (s.dec.take ii ++ [(De.mk u yes)]) (cond (D 5) (s.dec.take ii) []))) true (Value.slice (some ⟨wi.heap.size, 0, none⟩) 1 1) (De.mk u yes) (wi.alloc (.cells #[iv u.node, iv u.epoch, iv u.seq, .bool yes] 75))) /\ ((D 17) = true -> ∃ W0 A n c, dG 75 4 De.vals we true (.slice A n c) (s.dec.take ii ++ [(De.mk u yes)] ++ s.dec.drop ii) true (Value.slice (some ⟨wi.heap.size, 0, none⟩) 1 1) (De.mk u yes) W0 /\ n = (s.dec.take ii ++ [(De.mk u yes)] ++ s.dec.drop ii).length /\ (wi.alloc (.cells #[iv u.node, iv u.epoch, iv u.seq, .bool yes] 75)) = W0.setCell ⟨w.heap.size, 6, none⟩ (.slice A n c)); exact ⟨fun _ => h1.XK _ rfl, fun e => (by rw [dB] at e; cases e)⟩⟩
     ·have uQ : ρ (.tmp 31) = V 5 := hd 5 31; have r9 : ρ (.tmp 35) = V 9 := hd 9 35; have iL : D 0 = true := hT 2 0; have dg : D 5 = true := hT 1 5; have d_ : D 9 = true := hT 1 9; have cI : D 10 = false := cP; have bR : D 15 = false := hF 1 15; have dB : D 17 = false := hF 1 17; clear hT hF; have h1 := hI.1 dB
      rw [iL, dg, d_, cI, bR] at h1
      try simp only [cond_false] at h1
      try simp only [cond_true] at h1
      obtain ⟨g8, A2, n2, c2, w2, hx2, hrun, hn⟩ := dG.one (fM 2) fG h1 (by have := HQ.o; have := HN.o; simp; omega)
      rw [hx2] at r9; exact N.Gives.value (v := .slice A2 n2 c2) (w' := w2) (N.cH rfl uQ r9 hrun) ⟨fun x h => (by cases h), by show ((D 17) = false -> dG 75 4 De.vals we (D 0) (cond (D 15) (V 15) (cond true (Value.slice A2 n2 c2) (cond (D 5) (V 5) (V 0)))) (cond (D 15) (s.dec.take ii ++ [(De.mk u yes)] ++ s.dec.drop ii) (cond true (s.dec.take ii ++ [(De.mk u yes)]) (cond (D 5) (s.dec.take ii) []))) (D 9) (V 9) (De.mk u yes) w2) /\ ((D 17) = true -> ∃ W0 A n c, dG 75 4 De.vals we true (.slice A n c) (s.dec.take ii ++ [(De.mk u yes)] ++ s.dec.drop ii) true (V 9) (De.mk u yes) W0 /\ n = (s.dec.take ii ++ [(De.mk u yes)] ++ s.dec.drop ii).length /\ w2 = W0.setCell ⟨w.heap.size, 6, none⟩ (.slice A n c)); rw [iL, dg, d_, bR]; (try simp only [cond_false]); (try simp only [cond_true]); exact ⟨fun _ => hn, fun e => (by rw [dB] at e; cases e)⟩⟩
     ·clear hT hF hk
      exact N.gi _ ⟨fun _ => N.oi, hI⟩
     ·have zi := (hd 11 37).trans (hk 11 _ rfl); have dB : D 17 = false := hF 1 17; clear hT hF; have hL : Below we.heap.size we wi := (hI.1 dB).low; have x0 := jt.o _ hL
      exact N.gi _ ⟨fun _ => N.oi, hI⟩
     ·clear hT hF hk
      exact N.gi _ ⟨fun _ => N.oi, hI⟩
     ·have e38 := (hd 12 38).trans (hk 12 _ rfl); have e39 := (hd 13 39).trans (hk 13 _ rfl); clear hT hF; have z1 : ii <= n := HQ.o.1
      have z2 : ii <= dc := by have := HQ.o; omega
      have z3 : (0 : Int) <= (ii : Int) := by omega
      have z4 : (ii : Int) <= (n : Int) := by have := HQ.o; omega
      have z5 := HAD.o; exact N.gi _ ⟨fun _ => N.oi, hI⟩
     ·have r8 : ρ (.tmp 36) = V 10 := hd 10 36; have wS := (hd 14 40).trans (hk 14 _ rfl); have iL : D 0 = true := hT 3 0; have dg : D 5 = true := hT 2 5; have cI : D 10 = true := hT 1 10; have bR : D 15 = false := cP; have dB : D 17 = false := hF 1 17; clear hT hF; have h1 := hI.1 dB
      rw [iL, dg, cI, bR] at h1
      try simp only [cond_false] at h1
      try simp only [cond_true] at h1
      obtain ⟨A2, n2, c2, w2, hrun, hn⟩ := dG.app (fM 2) fG h1 (m := s.dec.drop ii) (Lr.o wi h1.low) (fun e => by cases e) (by have := HQ.o; have := HN.o; simp; omega)
      rw [HQ.o.2.2.2.2] at hrun; exact N.Gives.value (v := .slice A2 n2 c2) (w' := w2) (N.cH rfl r8 wS hrun) ⟨fun x h => (by cases h), by show ((D 17) = false -> dG 75 4 De.vals we (D 0) (cond true (Value.slice A2 n2 c2) (cond (D 10) (V 10) (cond (D 5) (V 5) (V 0)))) (cond true (s.dec.take ii ++ [(De.mk u yes)] ++ s.dec.drop ii) (cond (D 10) (s.dec.take ii ++ [(De.mk u yes)]) (cond (D 5) (s.dec.take ii) []))) (D 9) (V 9) (De.mk u yes) w2) /\ ((D 17) = true -> ∃ W0 A n c, dG 75 4 De.vals we true (.slice A n c) (s.dec.take ii ++ [(De.mk u yes)] ++ s.dec.drop ii) true (V 9) (De.mk u yes) W0 /\ n = (s.dec.take ii ++ [(De.mk u yes)] ++ s.dec.drop ii).length /\ w2 = W0.setCell ⟨w.heap.size, 6, none⟩ (.slice A n c)); rw [iL, dg, cI]; (try simp only [cond_false]); (try simp only [cond_true]); exact ⟨fun _ => hn, fun e => (by rw [dB] at e; cases e)⟩⟩
     ·clear hT hF hk
      exact N.gi _ ⟨fun _ => N.oi, hI⟩
     have DJ := (hd 16 42).trans (hk 16 _ rfl); have zA : ρ (.tmp 41) = V 15 := hd 15 41; have iL : D 0 = true := hT 1 0; have dg : D 5 = true := hT 1 5; have d_ : D 9 = true := hT 1 9; have cI : D 10 = true := hT 1 10; have bR : D 15 = true := hT 1 15; have dB : D 17 = false := cP; clear hT hF; have h1 := hI.1 dB
     rw [iL, dg, d_, cI, bR] at h1; simp only [cond_true] at h1; obtain ⟨A2, c2, hv⟩ := bD (h1.acc rfl); obtain ⟨n3, t_⟩ := ah ((s.dec.take ii ++ [(De.mk u yes)] ++ s.dec.drop ii).length); rw [t_] at hv; rw [hv] at zA h1; have hcs := zo.o _ h1.low; have x1 := hcs.cell (j := 6) rfl; have x2 := hcs.frozen (j := 6) (by simp); exact N.Gives.skip (w' := wi.setCell ⟨w.heap.size, 6, none⟩ (.slice A2 n3 c2)) (by go_simp) ⟨fun x h => (by cases h), by show (true = false -> dG 75 4 De.vals we (D 0) (cond (D 15) (V 15) (cond (D 10) (V 10) (cond (D 5) (V 5) (V 0)))) (cond (D 15) (s.dec.take ii ++ [(De.mk u yes)] ++ s.dec.drop ii) (cond (D 10) (s.dec.take ii ++ [(De.mk u yes)]) (cond (D 5) (s.dec.take ii) []))) (D 9) (V 9) (De.mk u yes) (wi.setCell ⟨w.heap.size, 6, none⟩ (.slice A2 n3 c2))) /\ (true = true -> ∃ W0 A n c, dG 75 4 De.vals we true (.slice A n c) (s.dec.take ii ++ [(De.mk u yes)] ++ s.dec.drop ii) true (V 9) (De.mk u yes) W0 /\ n = (s.dec.take ii ++ [(De.mk u yes)] ++ s.dec.drop ii).length /\ (wi.setCell ⟨w.heap.size, 6, none⟩ (.slice A2 n3 c2)) = W0.setCell ⟨w.heap.size, 6, none⟩ (.slice A n c)); exact ⟨fun e => (by cases e), fun _ => ⟨wi, A2, n3, c2, h1, t_.symm, rfl⟩⟩⟩
    intro V wf hk hI
    simp only [N.aP, List.foldl_cons, List.foldl_nil, Act.put, List.setIfInBounds_toArray, List.set_cons_succ, List.set_cons_zero]; replace hI : (true = false -> dG 75 4 De.vals we true (cond true (V 15) (cond true (V 10) (cond true (V 5) (V 0)))) (cond true (s.dec.take ii ++ [(De.mk u yes)] ++ s.dec.drop ii) (cond true (s.dec.take ii ++ [(De.mk u yes)]) (cond true (s.dec.take ii) []))) true (V 9) (De.mk u yes) wf) /\ (true = true -> ∃ W0 A n c, dG 75 4 De.vals we true (.slice A n c) (s.dec.take ii ++ [(De.mk u yes)] ++ s.dec.drop ii) true (V 9) (De.mk u yes) W0 /\ n = (s.dec.take ii ++ [(De.mk u yes)] ++ s.dec.drop ii).length /\ wf = W0.setCell ⟨w.heap.size, 6, none⟩ (.slice A n c)) := hI; clear hk; obtain ⟨_, U4⟩ := hI; obtain ⟨W0, A9, n9, c9, hap, tZ, hwf⟩ := U4 rfl; have Y5 := ak (hap.acc rfl); have F9 := ak hap.low; have YM := ak tZ; have dL := (zo.o W0 hap.low).fB 6 (.slice A9 n9 c9); rw [<- hwf] at dL; have hof : Only (fun k => k = w.heap.size) W0 wf := by rw [hwf]; exact Only.b_ W0 ⟨w.heap.size, 6, none⟩ _
    have I8 : Hid (Cells wf w.heap.size 41 [iv s.node, iv s.nodes, iv s.cells, iv s.epoch, .slice yP s.places.length yp, .slice yQ s.ay.length yq, .slice A9 n9 c9, .slice yC s.com.length yc]) := ak dL; have sL := ak (aJ ((sF.o.later jM.o).later hap.low) hof (by omega)); have Vn := ak hof; clear hap tZ hwf dL hof U4
    go_upto_region 5 with (fail)
    apply wp_region_lit
    refine aD rfl 41 _ rfl w.heap.size #[iv s.node, iv s.nodes, iv s.cells, iv s.epoch, .slice yP s.places.length yp, .slice yQ s.ay.length yq, .slice A9 n9 c9, .slice yC s.com.length yc] rfl rfl I8.o Tryz.underlying41 rfl (by kernel_rfl) ?_; refine aA rfl 41 _ _ rfl (w.heap.size + 2) #[iv s.node, iv s.nodes, iv s.cells, iv s.epoch, .slice yP s.places.length yp, .slice yQ s.ay.length yq, .slice A9 n9 c9, .slice yC s.com.length yc] [iv s.node, iv s.nodes, iv s.cells, iv s.epoch, .slice yP s.places.length yp, .slice yQ s.ay.length yq, .slice A9 n9 c9, .slice yC s.com.length yc] rfl rfl rfl sL.o rfl (by kernel_rfl) (by kernel_rfl) fun wv hpt hov => ?_
    have bU := ak hpt; have HO := ak hov; clear hpt hov
    go_wp2_with fail
    refine bodyPost_ret (v := .agg #[iv s.node, iv s.nodes, iv s.cells, iv s.epoch, .slice yP s.places.length yp, .slice yQ s.ay.length yq, .slice A9 n9 c9, .slice yC s.com.length yc]) ?_ rfl ?_
    ·exact (g_ (p := 6) (ty := 41) (by rfl) _ bU.o _ (by rfl) Tryz.underlying41 rfl (by kernel_rfl)).trans (by rfl)
    have hins : s.dec.take ii ++ [(De.mk u yes)] ++ s.dec.drop ii = gI s.dec (De.mk u yes) := by
     unfold gI; rw [sH.o, List.append_assoc]
     rfl
    have hac := Y5.o; rw [hins] at hac; have tZ := YM.o; rw [hins] at tZ; have hb3 := HB.o; have tV := jM.o; have h6 : Below w.heap.size w we := hb3.trans (tV.mono hb3.size); have h7 : Below w.heap.size w W0 := h6.trans (F9.o.mono h6.size); have hz := HZ.o; have hzz := tV.size; have hz0 := F9.o.size; have h8 : Below w.heap.size w wf := h7.trans (Vn.o.below h7.size fun k e => by omega); have h9 : Below w.heap.size w wv := h8.trans (HO.o.below h8.size fun k e => by omega); have hr1 := aF (aF hac Vn.o fun i hi e => by have := (hac.lt i hi).1; have e2 : i = w.heap.size := e; omega) HO.o fun i hi e => by have := (hac.lt i hi).1; have e2 : i = w.heap.size + 2 := e; omega
    have hr2 := cS (B := w.heap.size) (by omega) hr1; rw [tZ] at hr2; refine ⟨⟨A9, c9, ?_, hr2⟩, h9⟩; rw [tZ]
  obtain rfl : ii = n := by have := Jl.o; omega
  have mS := Jl; have tX := Jl; have sH : Hid (fC (s.dec.map fun x => ord x.tid u) = ii) := ak (by
   have h1 := Vi.o; have h3 := lC.o; rcases Nat.lt_trichotomy (fC (s.dec.map fun x => ord x.tid u)) ii with e | e | e
   ·exact absurd (HD.o _ e) (by have := h1.2 _ (Nat.le_refl _); omega)
   ·exact e
   omega)
  clear hlt
  go_upto_region 2 with (fail)
  refine N.rb 15 [15] (Kc w.heap.size gl ii dc) wr (fun V => [(some 8, V 0), (some 9, V 1), (some 10, V 2), (some 11, V 3), (some 12, V 4), (some 13, V 5), (some 14, V 6), (some 15, V 7), (some 16, V 8), (some 17, V 9), (some 18, V 10), (some 19, V 11), (some 20, V 12), (some 21, V 13), (some 22, V 14), (some 23, V 15)]) ?_ ?_
  ·intro i o ho
   have hi : i < 16 := (Array.getElem?_eq_some_iff.1 ho).1; rcases i with _ | _ | _ | _ | _ | _ | _ | _ | _ | _ | _ | _ | _ | _ | _ | _ | i
   rotate_right
   ·omega
   all_goals obtain rfl := Option.some.inj ho
   all_goals intro ρ wi hE hI hs hd
   all_goals try dsimp only at hI
   ·have e7 : ρ (.tmp 7) = iv (ii : Int) := hs 7; exact N.gw hI
   ·have e3 : ρ (.tmp 3) = (au w.heap.size) := hs 3; exact N.gw hI
   ·obtain ⟨_, rfl, e9⟩ := hd 1 9; have x0 := jt.o _ hI; exact N.gw hI
   ·obtain ⟨_, rfl, e10⟩ := hd 2 10; exact N.gw hI
   ·obtain ⟨_, rfl, e8⟩ := hd 0 8; obtain ⟨_, rfl, e11⟩ := hd 3 11
    have z1 : ¬ (ii : Int) < (ii : Int) := by omega
    have z2 : ¬ ii < ii := by omega
    exact N.gw hI
   ·obtain ⟨_, rfl, e12⟩ := hd 4 12; exact N.gw hI
   iterate 9 ·exact N.no hI
   obtain ⟨_, rfl, l5⟩ := hd 5 13; obtain ⟨_, rfl, wT⟩ := hd 14 22; have hc := hE.const; exact N.gw hI
  intro V wf hV hI
  have kq : V 15 = .bool false := hV 15 (by decide) rfl; simp only [N.aP, List.foldl_cons, List.foldl_nil, Act.put, List.setIfInBounds_toArray, List.set_cons_succ, List.set_cons_zero, kq]; replace hI : (fun a => Below wr.heap.size wr a) wf := hI; clear hV kq; have jM := ak (lX.o.trans (hI.mono lX.o.size)); clear hI; obtain ⟨we, jf⟩ := aj wf; subst jf; clear lX mS tX jt; have zo : Hid (∀ wi, Below we.heap.size we wi -> Cells wi w.heap.size 41 [iv s.node, iv s.nodes, iv s.cells, iv s.epoch, .slice yP s.places.length yp, .slice yQ s.ay.length yq, .slice (some ⟨gl, 0, none⟩) ii dc, .slice yC s.com.length yc]) := ak fun wi hb => (HC.o.later jM.o).later hb
  have jt : Hid (∀ wi, Below we.heap.size we wi -> wi.cell? ⟨w.heap.size, 6, none⟩ = some (.slice (some ⟨gl, 0, none⟩) ii dc)) := ak fun wi hb => (zo.o wi hb).cell (j := 6) rfl
  have tX : Hid (∀ wi, Below we.heap.size we wi -> Cells wi (w.heap.size + 1) 47 [iv u.node, iv u.epoch, iv u.seq]) := ak fun wi hb => (HU.o.later jM.o).later hb
  have Ge : Hid (∀ wi, Below we.heap.size we wi -> Sl wi (some ⟨gl, 0, none⟩) 4 (s.dec.map De.vals)) := ak fun wi hb => (HSL.o.later jM.o).later hb
  have La : Hid (∀ wi, Below we.heap.size we wi -> Sl wi (some ⟨gl, 0, none⟩) 4 ((s.dec.take ii).map De.vals)) := ak fun wi hb => by rw [List.map_take]; exact mC (Ge.o wi hb) ii
  have zV : Hid (∃ AD : Addr, (if dc = ii then some ⟨gl, 0, none⟩ else some ⟨gl, ii * 4, none⟩ : Option Addr) = some AD /\ ∀ wi, Below we.heap.size we wi -> Sl wi (some AD) 4 ((s.dec.drop ii).map De.vals)) := ak (by
   by_cases he : dc = ii
   ·refine ⟨_, if_pos he, fun wi hb => ?_⟩
    have h0 : s.dec.drop ii = [] := List.drop_eq_nil_iff.2 (by have := HN.o; have := JN.o; omega)
    rw [h0]; exact gN _ _ _
   refine ⟨_, if_neg he, fun wi hb => ?_⟩
   have := mD (Ge.o wi hb) ii; rw [Nat.zero_add] at this; rw [List.map_drop]; exact this)
  obtain ⟨AD, FZ, FX⟩ := zV.o; have HAD := ak FZ; have Lr := ak FX; have HQ : Hid (ii <= ii /\ ii <= dc /\ ii <= 900 /\ (s.dec.take ii).length = ii /\ (s.dec.drop ii).length = ii - ii) := ak ⟨Jl.o, JN.o, I4.o, by rw [List.length_take, HN.o]; have := Jl.o; omega, by rw [List.length_drop, HN.o]⟩; clear FZ FX
  go_upto_region 4 with (fail)
  refine N.bk (by kernel_rfl) (fun i => ([none, some (.pointer (some ⟨w.heap.size, 6, none⟩)), some (.slice (some ⟨gl, 0, none⟩) ii dc), some (iv (ii : Int)), some (.slice (some ⟨gl, 0, none⟩) ii dc), none, some (.agg #[iv u.node, iv u.epoch, iv u.seq]), some (.bool yes), some (.agg #[iv u.node, iv u.epoch, iv u.seq, .bool yes]), none, none, some (.pointer (some ⟨w.heap.size, 6, none⟩)), some (.slice (some ⟨gl, 0, none⟩) ii dc), some (iv (ii : Int)), some (.slice (some AD) (ii - ii) (dc - ii)), none, some (.pointer (some ⟨w.heap.size, 6, none⟩)), none] : List (Option Value)).getD i none) (fun D V W => ((D 17) = false -> dG 75 4 De.vals we (D 0) (cond (D 15) (V 15) (cond (D 10) (V 10) (cond (D 5) (V 5) (V 0)))) (cond (D 15) (s.dec.take ii ++ [(De.mk u yes)] ++ s.dec.drop ii) (cond (D 10) (s.dec.take ii ++ [(De.mk u yes)]) (cond (D 5) (s.dec.take ii) []))) (D 9) (V 9) (De.mk u yes) W) /\ ((D 17) = true -> ∃ W0 A n c, dG 75 4 De.vals we true (.slice A n c) (s.dec.take ii ++ [(De.mk u yes)] ++ s.dec.drop ii) true (V 9) (De.mk u yes) W0 /\ n = (s.dec.take ii ++ [(De.mk u yes)] ++ s.dec.drop ii).length /\ W = W0.setCell ⟨w.heap.size, 6, none⟩ (.slice A n c))) (fun V => [(some 26, V 0), (some 27, V 1), (some 28, V 2), (some 29, V 3), (some 30, V 4), (some 31, V 5), (some 32, V 6), (some 33, V 7), (some 34, V 8), (some 35, V 9), (some 36, V 10), (some 37, V 11), (some 38, V 12), (some 39, V 13), (some 40, V 14), (some 41, V 15), (some 42, V 16), (none, V 17)]) (by kernel_rfl) (by kernel_rfl) (fun V => rfl) ?_ ?_ ?_
  ·intro V
   exact ⟨fun _ => dG.start (Below.refl _ _).drew _ _ _ _, fun e => (by cases e)⟩
  ·intro i o ho
   have hi : i < 18 := (Array.getElem?_eq_some_iff.1 ho).1; rcases i with _ | _ | _ | _ | _ | _ | _ | _ | _ | _ | _ | _ | _ | _ | _ | _ | _ | _ | i
   rotate_right
   ·omega
   all_goals obtain rfl := Option.some.inj ho
   all_goals intro D V ρ wi hE hI cP hT hF hs hd hk
   all_goals (have e3 : ρ (.tmp 3) = (au w.heap.size) := hs 3; have e7 : ρ (.tmp 7) = iv (ii : Int) := hs 7)
   ·have iL : D 0 = false := cP; have dg : D 5 = false := hF 1 5; have cI : D 10 = false := hF 2 10; have bR : D 15 = false := hF 3 15; have dB : D 17 = false := hF 1 17; clear hT hF; have h1 := hI.1 dB
    rw [iL, dg, cI, bR] at h1; simp only [cond_false] at h1; exact N.Gives.value (v := .slice (some ⟨wi.heap.size, 0, none⟩) 0 0) (w' := wi.alloc (.cells #[] 75)) (by go_simp) ⟨fun x h => (by cases h), by show ((D 17) = false -> dG 75 4 De.vals we true (cond (D 15) (V 15) (cond (D 10) (V 10) (cond (D 5) (V 5) (Value.slice (some ⟨wi.heap.size, 0, none⟩) 0 0)))) (cond (D 15) (s.dec.take ii ++ [(De.mk u yes)] ++ s.dec.drop ii) (cond (D 10) (s.dec.take ii ++ [(De.mk u yes)]) (cond (D 5) (s.dec.take ii) []))) (D 9) (V 9) (De.mk u yes) (wi.alloc (.cells #[] 75))) /\ ((D 17) = true -> ∃ W0 A n c, dG 75 4 De.vals we true (.slice A n c) (s.dec.take ii ++ [(De.mk u yes)] ++ s.dec.drop ii) true (V 9) (De.mk u yes) W0 /\ n = (s.dec.take ii ++ [(De.mk u yes)] ++ s.dec.drop ii).length /\ (wi.alloc (.cells #[] 75)) = W0.setCell ⟨w.heap.size, 6, none⟩ (.slice A n c)); rw [dg, cI, bR]; simp only [cond_false]; exact ⟨fun _ => h1.W9, fun e => (by rw [dB] at e; cases e)⟩⟩
   ·clear hT hF hk
    exact N.gi _ ⟨fun _ => N.oi, hI⟩
   ·have Bn := (hd 1 27).trans (hk 1 _ rfl); have dB : D 17 = false := hF 1 17; clear hT hF; have hL : Below we.heap.size we wi := (hI.1 dB).low; have x0 := jt.o _ hL
    exact N.gi _ ⟨fun _ => N.oi, hI⟩
   ·clear hT hF hk
    exact N.gi _ ⟨fun _ => N.oi, hI⟩
   ·have Bl := (hd 2 28).trans (hk 2 _ rfl); have wK := (hd 3 29).trans (hk 3 _ rfl); clear hT hF
    have z0 : (0 : Int) <= (ii : Int) := by omega
    have z1 : (ii : Int) <= (dc : Int) := by have := HQ.o; omega
    have z2 : ii <= dc := by have := HQ.o; omega
    exact N.gi _ ⟨fun _ => N.oi, hI⟩
   ·have zj : ρ (.tmp 26) = V 0 := hd 0 26; have e30 := (hd 4 30).trans (hk 4 _ rfl); have iL : D 0 = true := hT 1 0; have dg : D 5 = false := cP; have cI : D 10 = false := hF 1 10; have bR : D 15 = false := hF 2 15; have dB : D 17 = false := hF 1 17; clear hT hF; have h1 := hI.1 dB
    rw [iL, dg, cI, bR] at h1
    try simp only [cond_false] at h1
    try simp only [cond_true] at h1
    obtain ⟨A2, n2, c2, w2, hrun, hn⟩ := dG.app (fM 2) fG h1 (m := s.dec.take ii) (La.o wi h1.low) (fun e => by cases e) (by have := HQ.o; have := HN.o; simp; omega)
    rw [HQ.o.2.2.2.1] at hrun; rw [List.nil_append] at hn; exact N.Gives.value (v := .slice A2 n2 c2) (w' := w2) (N.cH rfl zj e30 hrun) ⟨fun x h => (by cases h), by show ((D 17) = false -> dG 75 4 De.vals we (D 0) (cond (D 15) (V 15) (cond (D 10) (V 10) (cond true (Value.slice A2 n2 c2) (V 0)))) (cond (D 15) (s.dec.take ii ++ [(De.mk u yes)] ++ s.dec.drop ii) (cond (D 10) (s.dec.take ii ++ [(De.mk u yes)]) (cond true (s.dec.take ii) []))) (D 9) (V 9) (De.mk u yes) w2) /\ ((D 17) = true -> ∃ W0 A n c, dG 75 4 De.vals we true (.slice A n c) (s.dec.take ii ++ [(De.mk u yes)] ++ s.dec.drop ii) true (V 9) (De.mk u yes) W0 /\ n = (s.dec.take ii ++ [(De.mk u yes)] ++ s.dec.drop ii).length /\ w2 = W0.setCell ⟨w.heap.size, 6, none⟩ (.slice A n c)); rw [iL, cI, bR]; (try simp only [cond_false]); (try simp only [cond_true]); exact ⟨fun _ => hn, fun e => (by rw [dB] at e; cases e)⟩⟩
   ·have e4 : ρ (.tmp 4) = (au (w.heap.size + 1)) := hs 4; have dB : D 17 = false := hF 1 17; clear hT hF; have hL : Below we.heap.size we wi := (hI.1 dB).low; have hq := tX.o _ hL; obtain ⟨q0, q1, q2⟩ := hq.q3
    exact N.gi _ ⟨fun _ => N.oi, hI⟩
   ·have e2 : ρ (.tmp 2) = .bool yes := hs 2; clear hT hF hk
    exact N.gi _ ⟨fun _ => N.oi, hI⟩
   ·have zB := (hd 6 32).trans (hk 6 _ rfl); have Bk := (hd 7 33).trans (hk 7 _ rfl); clear hT hF hk
    exact N.gi _ ⟨fun _ => N.oi, hI⟩
   ·have Bj := (hd 8 34).trans (hk 8 _ rfl); have d_ : D 9 = false := cP; have dB : D 17 = false := hF 1 17; clear hT hF; have h1 := hI.1 dB
    rw [d_] at h1; exact N.Gives.value (v := .slice (some ⟨wi.heap.size, 0, none⟩) 1 1) (w' := wi.alloc (.cells #[iv u.node, iv u.epoch, iv u.seq, .bool yes] 75)) (by go_simp) ⟨fun x h => (by cases h), by show ((D 17) = false -> dG 75 4 De.vals we (D 0) (cond (D 15) (V 15) (cond (D 10) (V 10) (cond (D 5) (V 5) (V 0)))) (cond (D 15) (s.dec.take ii ++ [(De.mk u yes)] ++ s.dec.drop ii) (cond (D 10) (s.dec.take ii ++ [(De.mk u yes)]) (cond (D 5) (s.dec.take ii) []))) true (Value.slice (some ⟨wi.heap.size, 0, none⟩) 1 1) (De.mk u yes) (wi.alloc (.cells #[iv u.node, iv u.epoch, iv u.seq, .bool yes] 75))) /\ ((D 17) = true -> ∃ W0 A n c, dG 75 4 De.vals we true (.slice A n c) (s.dec.take ii ++ [(De.mk u yes)] ++ s.dec.drop ii) true (Value.slice (some ⟨wi.heap.size, 0, none⟩) 1 1) (De.mk u yes) W0 /\ n = (s.dec.take ii ++ [(De.mk u yes)] ++ s.dec.drop ii).length /\ (wi.alloc (.cells #[iv u.node, iv u.epoch, iv u.seq, .bool yes] 75)) = W0.setCell ⟨w.heap.size, 6, none⟩ (.slice A n c)); exact ⟨fun _ => h1.XK _ rfl, fun e => (by rw [dB] at e; cases e)⟩⟩
   ·have uQ : ρ (.tmp 31) = V 5 := hd 5 31; have r9 : ρ (.tmp 35) = V 9 := hd 9 35; have iL : D 0 = true := hT 2 0; have dg : D 5 = true := hT 1 5; have d_ : D 9 = true := hT 1 9; have cI : D 10 = false := cP; have bR : D 15 = false := hF 1 15; have dB : D 17 = false := hF 1 17; clear hT hF; have h1 := hI.1 dB
    rw [iL, dg, d_, cI, bR] at h1
    try simp only [cond_false] at h1
    try simp only [cond_true] at h1
    obtain ⟨g8, A2, n2, c2, w2, hx2, hrun, hn⟩ := dG.one (fM 2) fG h1 (by have := HQ.o; have := HN.o; simp; omega)
    rw [hx2] at r9; exact N.Gives.value (v := .slice A2 n2 c2) (w' := w2) (N.cH rfl uQ r9 hrun) ⟨fun x h => (by cases h), by show ((D 17) = false -> dG 75 4 De.vals we (D 0) (cond (D 15) (V 15) (cond true (Value.slice A2 n2 c2) (cond (D 5) (V 5) (V 0)))) (cond (D 15) (s.dec.take ii ++ [(De.mk u yes)] ++ s.dec.drop ii) (cond true (s.dec.take ii ++ [(De.mk u yes)]) (cond (D 5) (s.dec.take ii) []))) (D 9) (V 9) (De.mk u yes) w2) /\ ((D 17) = true -> ∃ W0 A n c, dG 75 4 De.vals we true (.slice A n c) (s.dec.take ii ++ [(De.mk u yes)] ++ s.dec.drop ii) true (V 9) (De.mk u yes) W0 /\ n = (s.dec.take ii ++ [(De.mk u yes)] ++ s.dec.drop ii).length /\ w2 = W0.setCell ⟨w.heap.size, 6, none⟩ (.slice A n c)); rw [iL, dg, d_, bR]; (try simp only [cond_false]); (try simp only [cond_true]); exact ⟨fun _ => hn, fun e => (by rw [dB] at e; cases e)⟩⟩
   ·clear hT hF hk
    exact N.gi _ ⟨fun _ => N.oi, hI⟩
   ·have zi := (hd 11 37).trans (hk 11 _ rfl); have dB : D 17 = false := hF 1 17; clear hT hF; have hL : Below we.heap.size we wi := (hI.1 dB).low; have x0 := jt.o _ hL
    exact N.gi _ ⟨fun _ => N.oi, hI⟩
   ·clear hT hF hk
    exact N.gi _ ⟨fun _ => N.oi, hI⟩
   ·have e38 := (hd 12 38).trans (hk 12 _ rfl); have e39 := (hd 13 39).trans (hk 13 _ rfl); clear hT hF; have z1 : ii <= ii := HQ.o.1
    have z2 : ii <= dc := by have := HQ.o; omega
    have z3 : (0 : Int) <= (ii : Int) := by omega
    have z4 : (ii : Int) <= (ii : Int) := by have := HQ.o; omega
    have z5 := HAD.o; exact N.gi _ ⟨fun _ => N.oi, hI⟩
   ·have r8 : ρ (.tmp 36) = V 10 := hd 10 36; have wS := (hd 14 40).trans (hk 14 _ rfl); have iL : D 0 = true := hT 3 0; have dg : D 5 = true := hT 2 5; have cI : D 10 = true := hT 1 10; have bR : D 15 = false := cP; have dB : D 17 = false := hF 1 17; clear hT hF; have h1 := hI.1 dB
    rw [iL, dg, cI, bR] at h1
    try simp only [cond_false] at h1
    try simp only [cond_true] at h1
    obtain ⟨A2, n2, c2, w2, hrun, hn⟩ := dG.app (fM 2) fG h1 (m := s.dec.drop ii) (Lr.o wi h1.low) (fun e => by cases e) (by have := HQ.o; have := HN.o; simp; omega)
    rw [HQ.o.2.2.2.2] at hrun; exact N.Gives.value (v := .slice A2 n2 c2) (w' := w2) (N.cH rfl r8 wS hrun) ⟨fun x h => (by cases h), by show ((D 17) = false -> dG 75 4 De.vals we (D 0) (cond true (Value.slice A2 n2 c2) (cond (D 10) (V 10) (cond (D 5) (V 5) (V 0)))) (cond true (s.dec.take ii ++ [(De.mk u yes)] ++ s.dec.drop ii) (cond (D 10) (s.dec.take ii ++ [(De.mk u yes)]) (cond (D 5) (s.dec.take ii) []))) (D 9) (V 9) (De.mk u yes) w2) /\ ((D 17) = true -> ∃ W0 A n c, dG 75 4 De.vals we true (.slice A n c) (s.dec.take ii ++ [(De.mk u yes)] ++ s.dec.drop ii) true (V 9) (De.mk u yes) W0 /\ n = (s.dec.take ii ++ [(De.mk u yes)] ++ s.dec.drop ii).length /\ w2 = W0.setCell ⟨w.heap.size, 6, none⟩ (.slice A n c)); rw [iL, dg, cI]; (try simp only [cond_false]); (try simp only [cond_true]); exact ⟨fun _ => hn, fun e => (by rw [dB] at e; cases e)⟩⟩
   ·clear hT hF hk
    exact N.gi _ ⟨fun _ => N.oi, hI⟩
   have DJ := (hd 16 42).trans (hk 16 _ rfl); have zA : ρ (.tmp 41) = V 15 := hd 15 41; have iL : D 0 = true := hT 1 0; have dg : D 5 = true := hT 1 5; have d_ : D 9 = true := hT 1 9; have cI : D 10 = true := hT 1 10; have bR : D 15 = true := hT 1 15; have dB : D 17 = false := cP; clear hT hF; have h1 := hI.1 dB
   rw [iL, dg, d_, cI, bR] at h1; simp only [cond_true] at h1; obtain ⟨A2, c2, hv⟩ := bD (h1.acc rfl); obtain ⟨n3, t_⟩ := ah ((s.dec.take ii ++ [(De.mk u yes)] ++ s.dec.drop ii).length); rw [t_] at hv; rw [hv] at zA h1; have hcs := zo.o _ h1.low; have x1 := hcs.cell (j := 6) rfl; have x2 := hcs.frozen (j := 6) (by simp); exact N.Gives.skip (w' := wi.setCell ⟨w.heap.size, 6, none⟩ (.slice A2 n3 c2)) (by go_simp) ⟨fun x h => (by cases h), by show (true = false -> dG 75 4 De.vals we (D 0) (cond (D 15) (V 15) (cond (D 10) (V 10) (cond (D 5) (V 5) (V 0)))) (cond (D 15) (s.dec.take ii ++ [(De.mk u yes)] ++ s.dec.drop ii) (cond (D 10) (s.dec.take ii ++ [(De.mk u yes)]) (cond (D 5) (s.dec.take ii) []))) (D 9) (V 9) (De.mk u yes) (wi.setCell ⟨w.heap.size, 6, none⟩ (.slice A2 n3 c2))) /\ (true = true -> ∃ W0 A n c, dG 75 4 De.vals we true (.slice A n c) (s.dec.take ii ++ [(De.mk u yes)] ++ s.dec.drop ii) true (V 9) (De.mk u yes) W0 /\ n = (s.dec.take ii ++ [(De.mk u yes)] ++ s.dec.drop ii).length /\ (wi.setCell ⟨w.heap.size, 6, none⟩ (.slice A2 n3 c2)) = W0.setCell ⟨w.heap.size, 6, none⟩ (.slice A n c)); exact ⟨fun e => (by cases e), fun _ => ⟨wi, A2, n3, c2, h1, t_.symm, rfl⟩⟩⟩
  intro V wf hk hI
  simp only [N.aP, List.foldl_cons, List.foldl_nil, Act.put, List.setIfInBounds_toArray, List.set_cons_succ, List.set_cons_zero]; replace hI : (true = false -> dG 75 4 De.vals we true (cond true (V 15) (cond true (V 10) (cond true (V 5) (V 0)))) (cond true (s.dec.take ii ++ [(De.mk u yes)] ++ s.dec.drop ii) (cond true (s.dec.take ii ++ [(De.mk u yes)]) (cond true (s.dec.take ii) []))) true (V 9) (De.mk u yes) wf) /\ (true = true -> ∃ W0 A n c, dG 75 4 De.vals we true (.slice A n c) (s.dec.take ii ++ [(De.mk u yes)] ++ s.dec.drop ii) true (V 9) (De.mk u yes) W0 /\ n = (s.dec.take ii ++ [(De.mk u yes)] ++ s.dec.drop ii).length /\ wf = W0.setCell ⟨w.heap.size, 6, none⟩ (.slice A n c)) := hI; clear hk; obtain ⟨_, U4⟩ := hI; obtain ⟨W0, A9, n9, c9, hap, tZ, hwf⟩ := U4 rfl; have Y5 := ak (hap.acc rfl); have F9 := ak hap.low; have YM := ak tZ; have dL := (zo.o W0 hap.low).fB 6 (.slice A9 n9 c9); rw [<- hwf] at dL; have hof : Only (fun k => k = w.heap.size) W0 wf := by rw [hwf]; exact Only.b_ W0 ⟨w.heap.size, 6, none⟩ _
  have I8 : Hid (Cells wf w.heap.size 41 [iv s.node, iv s.nodes, iv s.cells, iv s.epoch, .slice yP s.places.length yp, .slice yQ s.ay.length yq, .slice A9 n9 c9, .slice yC s.com.length yc]) := ak dL; have sL := ak (aJ ((sF.o.later jM.o).later hap.low) hof (by omega)); have Vn := ak hof; clear hap tZ hwf dL hof U4
  go_upto_region 5 with (fail)
  apply wp_region_lit
  refine aD rfl 41 _ rfl w.heap.size #[iv s.node, iv s.nodes, iv s.cells, iv s.epoch, .slice yP s.places.length yp, .slice yQ s.ay.length yq, .slice A9 n9 c9, .slice yC s.com.length yc] rfl rfl I8.o Tryz.underlying41 rfl (by kernel_rfl) ?_; refine aA rfl 41 _ _ rfl (w.heap.size + 2) #[iv s.node, iv s.nodes, iv s.cells, iv s.epoch, .slice yP s.places.length yp, .slice yQ s.ay.length yq, .slice A9 n9 c9, .slice yC s.com.length yc] [iv s.node, iv s.nodes, iv s.cells, iv s.epoch, .slice yP s.places.length yp, .slice yQ s.ay.length yq, .slice A9 n9 c9, .slice yC s.com.length yc] rfl rfl rfl sL.o rfl (by kernel_rfl) (by kernel_rfl) fun wv hpt hov => ?_
  have bU := ak hpt; have HO := ak hov; clear hpt hov
  go_wp2_with fail
  refine bodyPost_ret (v := .agg #[iv s.node, iv s.nodes, iv s.cells, iv s.epoch, .slice yP s.places.length yp, .slice yQ s.ay.length yq, .slice A9 n9 c9, .slice yC s.com.length yc]) ?_ rfl ?_
  ·exact (g_ (p := 6) (ty := 41) (by rfl) _ bU.o _ (by rfl) Tryz.underlying41 rfl (by kernel_rfl)).trans (by rfl)
  have hins : s.dec.take ii ++ [(De.mk u yes)] ++ s.dec.drop ii = gI s.dec (De.mk u yes) := by
   unfold gI; rw [sH.o, List.append_assoc]
   rfl
  have hac := Y5.o; rw [hins] at hac; have tZ := YM.o; rw [hins] at tZ; have hb3 := HB.o; have tV := jM.o; have h6 : Below w.heap.size w we := hb3.trans (tV.mono hb3.size); have h7 : Below w.heap.size w W0 := h6.trans (F9.o.mono h6.size); have hz := HZ.o; have hzz := tV.size; have hz0 := F9.o.size; have h8 : Below w.heap.size w wf := h7.trans (Vn.o.below h7.size fun k e => by omega); have h9 : Below w.heap.size w wv := h8.trans (HO.o.below h8.size fun k e => by omega); have hr1 := aF (aF hac Vn.o fun i hi e => by have := (hac.lt i hi).1; have e2 : i = w.heap.size := e; omega) HO.o fun i hi e => by have := (hac.lt i hi).1; have e2 : i = w.heap.size + 2 := e; omega
  have hr2 := cS (B := w.heap.size) (by omega) hr1; rw [tZ] at hr2; refine ⟨⟨A9, c9, ?_, hr2⟩, h9⟩; rw [tZ]
