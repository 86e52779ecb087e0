/- Part 19 of the proof. Conditions: none. -/
import Derived.Test.YtdkchpiinelmiaaGreatZ18
namespace Go.Proofs.YtdkchpiinelmiaaGreat.Led
set_option maxRecDepth 100000
open Go.RowKit Go.Deep Mem fN Rec
def H_ (s : St) (y : Sy) (r : Rc) (b : Nat) (g : Nat) : Nat -> Value -> World -> Prop := N.tb [.inl (.pointer (some ⟨b, 0, none⟩)), .inl (.pointer (some ⟨b, 0, none⟩)), .inl (s.val y), .inl (.pointer (some ⟨g, 9, none⟩)), .inl (.int .i64 r.cell), .inl (.bool (bp s r.cell)), .inl (.bool (!(bp s r.cell))), .inl (.bool (!(bp s r.cell)))]
def H9 (s : St) (y : Sy) (r : Rc) (b : Nat) (g : Nat) : Nat -> Value -> World -> Prop := N.tb [.inl (.pointer (some ⟨b, 0, none⟩)), .inl (.pointer (some ⟨b, 0, none⟩)), .inl (s.val y), .inl (.pointer (some ⟨g, 9, none⟩)), .inl (.int .i64 r.cell), .inl (.bool (owns s r.cell)), .inl (.bool (owns s r.cell))]
def H8 (s : St) (y : Sy) (r : Rc) (b : Nat) (g : Nat) (pb : Nat) (k : Nat) (pl : Pl) : Nat -> Value -> World -> Prop := N.tb [.inl (.pointer (some ⟨g, 11, none⟩)), .inl (.int .i64 r.hop), .inl (.pointer (some ⟨b, 0, none⟩)), .inl (.pointer (some ⟨b, 0, none⟩)), .inl (.pointer (some ⟨b, 4, none⟩)), .inl (.slice y.P s.places.length y.p), .inl (.pointer (some ⟨g, 9, none⟩)), .inl (.int .i64 r.cell), .inl (.pointer (some ⟨pb, k * 5, none⟩)), .inl (.pointer (some ⟨pb, k * 5 + 1, none⟩)), .inl (.int .i64 pl.hop), .inl (.bool (decide (r.hop <= pl.hop))), .inl (.bool (decide (r.hop <= pl.hop)))]
def sQ (s : St) (y : Sy) (r : Rc) (b : Nat) (g : Nat) (pb : Nat) (k : Nat) : Nat -> Value -> World -> Prop := N.tb [.inl (.pointer (some ⟨b, 0, none⟩)), .inl (.pointer (some ⟨b, 0, none⟩)), .inl (.pointer (some ⟨b, 4, none⟩)), .inl (.slice y.P s.places.length y.p), .inl (.pointer (some ⟨g, 9, none⟩)), .inl (.int .i64 r.cell), .inl (.pointer (some ⟨g, 11, none⟩)), .inl (.int .i64 r.hop), .inl (.pointer (some ⟨g, 12, none⟩)), .inl (.int .i64 r.version), .inl (.pointer (some ⟨g, 13, none⟩)), .inl (.int .i64 r.value), .inl (.agg #[.int .i64 1, .int .i64 r.hop, .int .i64 0, .int .i64 r.version, .int .i64 r.value]), .inl (.pointer (some ⟨pb, k * 5, none⟩)), .inr fun _ _ => True]
theorem uG {s : St} {y : Sy} {r : Rc} {b : Nat} {g : Nat} {pb : Nat} {k : Nat} {j : Nat} {v : Value} {w w' : World}  (h : sQ s y r b g pb k j v w) : sQ s y r b g pb k j v w' := by
 match j, h with
 | 0, h | 1, h | 2, h | 3, h | 4, h | 5, h | 6, h | 7, h | 8, h | 9, h | 10, h | 11, h | 12, h | 13, h | 14, h => exact h
 | _ + 15, _ => exact trivial
set_option maxHeartbeats 2000000 in
theorem T3 (s : St) (y : Sy) (r : Rc) (z : Lay) (base b : Nat) (w : World) (ho : Own base w b s y) (hh : Two w r.items r.nodes z) (hs : Small s) (hr : r.items.length <= 1000 /\ r.nodes.length <= 1000) :
  Calls Tryz.prog 64 #[(au b), r.val z] w fun e w' => e = .returned (iv (vG s r).2) /\ Step base b s y w (vG s r).1 w' := by
 obtain ⟨wb, hwb⟩ := aj (w.alloc (.cells #[iv r.kind, iv r.tid.node, iv r.tid.epoch, iv r.tid.seq, .slice z.A r.items.length z.c, .slice z.B r.nodes.length z.d, iv r.node, iv r.count, iv r.num, iv r.cell, iv r.status, iv r.hop, iv r.version, iv r.value, .bool r.yes] 51)); have hb : Below w.heap.size w wb := by rw [hwb]; exact av _ _
 have bG := ak (ho.later hb); have bh : Hid (Cells wb w.heap.size 51 (r.vals z)) := ak (by rw [hwb]; exact aB _ _ _ _ rfl); have bI := ak (hh.later hb); have bH := ak hb; have dU := ak hs; have dP := ak hr; obtain ⟨F, hF⟩ := ah (vG s r); have HF := ak hF.symm; rw [hF]; unfold Rc.val; clear ho hh hs hr hb hF
 go_enter Tryz.func64, Tryz.ntmps64
 go_wp2_with fail
 rw [<- hwb]; clear hwb; refine N.rb 7 [7] (H_ s y r b w.heap.size) wb (fun V => [(some 6, V 0), (some 7, V 1), (some 8, V 2), (some 9, V 3), (some 10, V 4), (some 11, V 5), (some 12, V 6), (some 5, V 7)]) ?_ ?_
 ·intro i o ho
  have hi : i < 8 := (Array.getElem?_eq_some_iff.1 ho).1; rcases i with _ | _ | _ | _ | _ | _ | _ | _ | i
  rotate_right
  ·omega
  all_goals obtain rfl := Option.some.inj ho
  all_goals intro ρ wi hE hI hs hd
  all_goals try dsimp only at hI
  ·have e0 : ρ (.tmp 0) = (au b) := hs 0; exact N.gw hI
  ·obtain ⟨_, rfl, e6⟩ := hd 0 6; exact N.gw hI
  ·obtain ⟨_, rfl, e7⟩ := hd 1 7
   exact N.Gives.value (v := s.val y) (w' := wi) (aQ _ _ rfl _ _ (by assumption) (aS (bG.o.later hI))) (N.bA.same hI rfl)
  ·have e3 : ρ (.tmp 3) = (au w.heap.size) := hs 3; exact N.gw hI
  ·obtain ⟨_, rfl, e9⟩ := hd 3 9; have x0 := (bh.o.later hI).cell (j := 9) rfl; exact N.gw hI
  ·obtain ⟨_, rfl, e8⟩ := hd 2 8; obtain ⟨_, rfl, e10⟩ := hd 4 10; have hf := hE.func
   refine N.Gives.call (f := 36) (args := #[s.val y, iv r.cell]) (w' := wi) (by go_simp) ?_; refine (fF s y r.cell wi).mono ?_; rintro e w'' ⟨rfl, hbb⟩; exact ⟨_, rfl, ⟨rfl, hI.trans (hbb.mono hI.size), fun j u _ _ h => N.tz h⟩⟩
  ·obtain ⟨_, rfl, e11⟩ := hd 5 11; exact N.gw hI
  obtain ⟨_, rfl, e12⟩ := hd 6 12; exact N.gw hI
 intro V wc hV hI
 have jr : V 7 = .bool (!(bp s r.cell)) := hV 7 (by decide) rfl; simp only [N.aP, List.foldl_cons, List.foldl_nil, Act.put, List.setIfInBounds_toArray, List.set_cons_succ, List.set_cons_zero, jr]; replace hI : (fun a => Below wb.heap.size wb a) wc := hI; clear hV jr; have aR := ak (bG.o.later hI); have bO := ak (bh.o.later hI); have cB := ak (bI.o.later hI); have bB := ak (bH.o.trans (hI.mono bH.o.size)); clear hI
 cases hh : bp s r.cell with
 | false =>
  have uS := ak hh; clear hh; have bf : Hid (F = (s, 1)) := ak (by rw [HF.o]; exact if_pos uS.o)
  go_wp2_with fail
  go_returns
  exact ⟨aL (by rw [bf.o]), by rw [bf.o]; exact Step.same aR.o bB.o⟩
 | true =>
  have lg := ak hh; clear hh
  go_upto_region 3 with (fail)
  refine N.rb 6 [6] (H9 s y r b w.heap.size) wc (fun V => [(some 14, V 0), (some 15, V 1), (some 16, V 2), (some 17, V 3), (some 18, V 4), (some 19, V 5), (some 13, V 6)]) ?_ ?_
  ·intro i o ho
   have hi : i < 7 := (Array.getElem?_eq_some_iff.1 ho).1; rcases i with _ | _ | _ | _ | _ | _ | _ | i
   rotate_right
   ·omega
   all_goals obtain rfl := Option.some.inj ho
   all_goals intro ρ wi hE hI hs hd
   all_goals try dsimp only at hI
   ·have e0 : ρ (.tmp 0) = (au b) := hs 0; exact N.gw hI
   ·obtain ⟨_, rfl, mZ⟩ := hd 0 14; exact N.gw hI
   ·obtain ⟨_, rfl, mY⟩ := hd 1 15
    exact N.Gives.value (v := s.val y) (w' := wi) (aQ _ _ rfl _ _ (by assumption) (aS (aR.o.later hI))) (N.bA.same hI rfl)
   ·have e3 : ρ (.tmp 3) = (au w.heap.size) := hs 3; exact N.gw hI
   ·obtain ⟨_, rfl, e17⟩ := hd 3 17; have x0 := (bO.o.later hI).cell (j := 9) rfl; exact N.gw hI
   ·obtain ⟨_, rfl, e16⟩ := hd 2 16; obtain ⟨_, rfl, e18⟩ := hd 4 18; have hf := hE.func
    refine N.Gives.call (f := 13) (args := #[s.val y, iv r.cell]) (w' := wi) (by go_simp) ?_; refine (jG s y r.cell wi (aR.o.later hI).sees).mono ?_; rintro e w'' ⟨rfl, hbb⟩; exact ⟨_, rfl, ⟨rfl, hI.trans (hbb.mono hI.size), fun j u _ _ h => N.tz h⟩⟩
   obtain ⟨_, rfl, e19⟩ := hd 5 19; exact N.gw hI
  intro V wd hV hI
  have qU : V 6 = .bool (owns s r.cell) := hV 6 (by decide) rfl; simp only [N.aP, List.foldl_cons, List.foldl_nil, Act.put, List.setIfInBounds_toArray, List.set_cons_succ, List.set_cons_zero, qU]; replace hI : (fun a => Below wc.heap.size wc a) wd := hI; clear hV qU; have cu := ak (aR.o.later hI); have fT := ak (bO.o.later hI); have jR := ak (cB.o.later hI); have ez := ak (bB.o.trans (hI.mono bB.o.size)); clear hI
  cases ha : owns s r.cell with
  | true =>
   have HA := ak ha; clear ha; have bf : Hid (F = (s, 9)) := ak (by rw [HF.o]; unfold vG; rw [lg.o, HA.o]; rfl)
   go_wp2_with fail
   go_returns
   exact ⟨aL (by rw [bf.o]), by rw [bf.o]; exact Step.same cu.o ez.o⟩
  | false =>
   have HA := ak ha; clear ha; obtain ⟨pb, k, pl, hP, hk, hkl, hpl, hpa⟩ := cu.o.place lg.o; have dX := ak (And.intro hP (And.intro hk (And.intro hkl hpl))); have rQ := ak hpa; have HK := ak hk; clear hP hk hkl hpl hpa
   go_upto_region 5 with (fail)
   refine N.rb 12 [12] (H8 s y r b w.heap.size pb k pl) wd (fun V => [(some 21, V 0), (some 22, V 1), (some 23, V 2), (some 24, V 3), (some 25, V 4), (some 26, V 5), (some 27, V 6), (some 28, V 7), (some 29, V 8), (some 30, V 9), (some 31, V 10), (some 32, V 11), (some 20, V 12)]) ?_ ?_
   ·intro i o ho
    have hi : i < 13 := (Array.getElem?_eq_some_iff.1 ho).1; rcases i with _ | _ | _ | _ | _ | _ | _ | _ | _ | _ | _ | _ | _ | i
    rotate_right
    ·omega
    all_goals obtain rfl := Option.some.inj ho
    all_goals intro ρ wi hE hI hs hd
    all_goals try dsimp only at hI
    all_goals (have e3 : ρ (.tmp 3) = (au w.heap.size) := hs 3)
    ·exact N.gw hI
    ·obtain ⟨_, rfl, ug⟩ := hd 0 21; have x0 := (fT.o.later hI).cell (j := 11) rfl; exact N.gw hI
    ·have e0 : ρ (.tmp 0) = (au b) := hs 0; exact N.gw hI
    ·obtain ⟨_, rfl, Fu⟩ := hd 2 23; exact N.gw hI
    ·obtain ⟨_, rfl, DL⟩ := hd 3 24; exact N.gw hI
    ·obtain ⟨_, rfl, DK⟩ := hd 4 25; have x0 := (cu.o.later hI).br.cell (j := 4) rfl; exact N.gw hI
    ·exact N.gw hI
    ·obtain ⟨_, rfl, Bn⟩ := hd 6 27; have x0 := (fT.o.later hI).cell (j := 9) rfl; exact N.gw hI
    ·obtain ⟨_, rfl, zj⟩ := hd 5 26; obtain ⟨_, rfl, Bl⟩ := hd 7 28; have hP := dX.o.1; have hk := dX.o.2.1; have hkl := dX.o.2.2.1; exact N.gw hI
    ·obtain ⟨_, rfl, wK⟩ := hd 8 29; exact N.gw hI
    ·obtain ⟨_, rfl, e30⟩ := hd 9 30; have x0 := (cu.o.later hI).bg dX.o.1 dX.o.2.2.2 (j := 1) rfl; exact N.gw hI
    ·obtain ⟨_, rfl, wT⟩ := hd 1 22; obtain ⟨_, rfl, uQ⟩ := hd 10 31; exact N.gw hI
    obtain ⟨_, rfl, zB⟩ := hd 11 32; exact N.gw hI
   intro V we hV hI
   have sB : V 12 = .bool (decide (r.hop <= pl.hop)) := hV 12 (by decide) rfl; simp only [N.aP, List.foldl_cons, List.foldl_nil, Act.put, List.setIfInBounds_toArray, List.set_cons_succ, List.set_cons_zero, sB]; replace hI : (fun a => Below wd.heap.size wd a) we := hI; clear hV sB; have fV := ak (cu.o.later hI); have lF := ak (fT.o.later hI); have vO := ak (jR.o.later hI); have jC := ak (ez.o.trans (hI.mono ez.o.size)); clear hI
   by_cases h1 : r.hop <= pl.hop
   ·have rS := ak h1
    have bf : Hid (F = (s, 10)) := ak (by rw [HF.o]; unfold vG; rw [lg.o, HA.o, rQ.o, if_pos rS.o]; rfl)
    go_wp2_with fail
    go_returns
    exact ⟨aL (by rw [bf.o]), by rw [bf.o]; exact Step.same fV.o jC.o⟩
   have bf : Hid (F = ({ s with places := s.places.set k ⟨1, r.hop, 0, r.version, r.value⟩ }, 0)) := ak (by rw [HF.o]; unfold vG bJ; rw [lg.o, HA.o, rQ.o, if_neg h1, HK.o]; rfl)
   go_upto_region 7 with (fail)
   refine N.fI (by kernel_rfl) 14 [] (sQ s y r b w.heap.size pb k) (fun a => Below we.heap.size we a) (fun a' => Own base a' b { s with places := s.places.set k ⟨1, r.hop, 0, r.version, r.value⟩ } y /\ Only (fun j => some j = blk y.P) we a') (fun V => [(some 33, V 0), (some 34, V 1), (some 35, V 2), (some 36, V 3), (some 37, V 4), (some 38, V 5), (some 39, V 6), (some 40, V 7), (some 41, V 8), (some 42, V 9), (some 43, V 10), (some 44, V 11), (some 45, V 12), (some 46, V 13), (none, V 14)]) (by kernel_rfl) (by kernel_rfl) (by kernel_rfl) (fun V => rfl) ?_ ?_ ?_
   ·exact (Below.refl _ _).drew
   ·intro i o ho
    have hi : i < 15 := (Array.getElem?_eq_some_iff.1 ho).1; rcases i with _ | _ | _ | _ | _ | _ | _ | _ | _ | _ | _ | _ | _ | _ | _ | i
    rotate_right
    ·omega
    all_goals obtain rfl := Option.some.inj ho
    all_goals intro ρ wi hE hI hs hd
    all_goals try dsimp only at hI
    all_goals (have e3 : ρ (.tmp 3) = (au w.heap.size) := hs 3)
    ·have e0 : ρ (.tmp 0) = (au b) := hs 0; exact N.gw hI
    ·obtain ⟨_, rfl, Bk⟩ := hd 0 33; exact N.gw hI
    ·obtain ⟨_, rfl, Bj⟩ := hd 1 34; exact N.gw hI
    ·obtain ⟨_, rfl, r9⟩ := hd 2 35; have x0 := (fV.o.later hI).br.cell (j := 4) rfl; exact N.gw hI
    ·exact N.gw hI
    ·obtain ⟨_, rfl, zi⟩ := hd 4 37; have x0 := (lF.o.later hI).cell (j := 9) rfl; exact N.gw hI
    ·exact N.gw hI
    ·obtain ⟨_, rfl, e39⟩ := hd 6 39; have x0 := (lF.o.later hI).cell (j := 11) rfl; exact N.gw hI
    ·exact N.gw hI
    ·obtain ⟨_, rfl, zA⟩ := hd 8 41; have x0 := (lF.o.later hI).cell (j := 12) rfl; exact N.gw hI
    ·exact N.gw hI
    ·obtain ⟨_, rfl, uP⟩ := hd 10 43; have x0 := (lF.o.later hI).cell (j := 13) rfl; exact N.gw hI
    ·obtain ⟨_, rfl, wS⟩ := hd 7 40; obtain ⟨_, rfl, DJ⟩ := hd 9 42; obtain ⟨_, rfl, uO⟩ := hd 11 44; have hc := hE.const; exact N.gw hI
    ·obtain ⟨_, rfl, r8⟩ := hd 3 36; obtain ⟨_, rfl, e38⟩ := hd 5 38; have hP := dX.o.1; have hk := dX.o.2.1; have hkl := dX.o.2.2.1; exact N.gw hI
    obtain ⟨_, rfl, F4⟩ := hd 13 46; obtain ⟨_, rfl, DI⟩ := hd 12 45
    obtain ⟨k1, k2, k3⟩ := (fV.o.later hI).putCells dX.o.1 ⟨1, r.hop, 0, r.version, r.value⟩ dX.o.2.2.1 [iv 1, iv r.hop, iv 0, iv r.version, iv r.value] 0 (by simp [Value.oneCell']) (Nat.le_refl _) (fun q _ => rfl); exact N.Gives.skip (eH 66 _ _ rfl pb (k * 5) #[iv 1, iv r.hop, iv 0, iv r.version, iv r.value] (by assumption) (by assumption) (run_storeVar_mid _ pb (k * 5) 66 #[iv 1, iv r.hop, iv 0, iv r.version, iv r.value] k3 (by kernel_rfl) (by simp [Value.oneCell']))) ⟨trivial, ⟨k1, (Only.of_below hI).trans k2 fun _ _ e => e⟩, fun _ _ _ _ h => uG h⟩
   intro V wf hV hI
   simp only [N.aP, List.foldl_cons, List.foldl_nil, Act.put, List.setIfInBounds_toArray, List.set_cons_succ, List.set_cons_zero]; replace hI : (fun a' => Own base a' b { s with places := s.places.set k ⟨1, r.hop, 0, r.version, r.value⟩ } y /\ Only (fun j => some j = blk y.P) we a') wf := hI; clear hV; have HN := ak hI; clear hI
   go_wp2_with fail
   go_returns
   exact ⟨aL (by rw [bf.o]), by rw [bf.o]; exact ⟨y, HN.o.1, (Only.of_below jC.o).trans HN.o.2 fun _ _ e => Or.inr (Or.inl e), fun k e => Or.inl e⟩⟩
def Ic (s : St) (y : Sy) (r : Rc) (b : Nat) (g : Nat) : Nat -> Value -> World -> Prop := N.tb [.inl (.pointer (some ⟨b, 0, none⟩)), .inl (.pointer (some ⟨b, 0, none⟩)), .inl (s.val y), .inl (.pointer (some ⟨g, 9, none⟩)), .inl (.int .i64 r.cell), .inl (.bool (bp s r.cell)), .inl (.bool (!(bp s r.cell))), .inl (.bool (!(bp s r.cell)))]
def Ib (s : St) (y : Sy) (r : Rc) (b : Nat) (g : Nat) (pb : Nat) (k : Nat) (pl : Pl) : Nat -> Value -> World -> Prop := N.tb [.inl (.pointer (some ⟨b, 0, none⟩)), .inl (.pointer (some ⟨b, 0, none⟩)), .inl (.pointer (some ⟨b, 4, none⟩)), .inl (.slice y.P s.places.length y.p), .inl (.pointer (some ⟨g, 9, none⟩)), .inl (.int .i64 r.cell), .inl (.pointer (some ⟨pb, k * 5, none⟩)), .inl (.pointer (some ⟨pb, k * 5, none⟩)), .inl (.int .i64 pl.status), .inl (.bool (pl.status != 2)), .inl (.bool (pl.status != 2))]
def Ia (s : St) (y : Sy) (r : Rc) (b : Nat) (g : Nat) (pb : Nat) (k : Nat) (pl : Pl) : Nat -> Value -> World -> Prop := N.tb [.inl (.pointer (some ⟨g, 11, none⟩)), .inl (.int .i64 r.hop), .inl (.pointer (some ⟨b, 0, none⟩)), .inl (.pointer (some ⟨b, 0, none⟩)), .inl (.pointer (some ⟨b, 4, none⟩)), .inl (.slice y.P s.places.length y.p), .inl (.pointer (some ⟨g, 9, none⟩)), .inl (.int .i64 r.cell), .inl (.pointer (some ⟨pb, k * 5, none⟩)), .inl (.pointer (some ⟨pb, k * 5 + 1, none⟩)), .inl (.int .i64 pl.hop), .inl (.bool (r.hop != pl.hop)), .inl (.bool (r.hop != pl.hop))]
def sS (s : St) (y : Sy) (r : Rc) (b : Nat) (g : Nat) (pb : Nat) (k : Nat) : Nat -> Value -> World -> Prop := N.tb [.inl (.pointer (some ⟨b, 0, none⟩)), .inl (.pointer (some ⟨b, 0, none⟩)), .inl (.pointer (some ⟨b, 4, none⟩)), .inl (.slice y.P s.places.length y.p), .inl (.pointer (some ⟨g, 9, none⟩)), .inl (.int .i64 r.cell), .inl (.pointer (some ⟨g, 11, none⟩)), .inl (.int .i64 r.hop), .inl (.agg #[.int .i64 0, .int .i64 r.hop, .int .i64 0, .int .i64 0, .int .i64 0]), .inl (.pointer (some ⟨pb, k * 5, none⟩)), .inr fun _ _ => True]
theorem uH {s : St} {y : Sy} {r : Rc} {b : Nat} {g : Nat} {pb : Nat} {k : Nat} {j : Nat} {v : Value} {w w' : World}  (h : sS s y r b g pb k j v w) : sS s y r b g pb k j v w' := by
 match j, h with
 | 0, h | 1, h | 2, h | 3, h | 4, h | 5, h | 6, h | 7, h | 8, h | 9, h | 10, h => exact h
 | _ + 11, _ => exact trivial
set_option maxHeartbeats 2000000 in
theorem Ix (s : St) (y : Sy) (r : Rc) (z : Lay) (base b : Nat) (w : World) (ho : Own base w b s y) (hh : Two w r.items r.nodes z) (hs : Small s) (hr : r.items.length <= 1000 /\ r.nodes.length <= 1000) :
  Calls Tryz.prog 65 #[(au b), r.val z] w fun e w' => e = .returned (iv (fY s r).2) /\ Step base b s y w (fY s r).1 w' := by
 obtain ⟨wb, hwb⟩ := aj (w.alloc (.cells #[iv r.kind, iv r.tid.node, iv r.tid.epoch, iv r.tid.seq, .slice z.A r.items.length z.c, .slice z.B r.nodes.length z.d, iv r.node, iv r.count, iv r.num, iv r.cell, iv r.status, iv r.hop, iv r.version, iv r.value, .bool r.yes] 51)); have hb : Below w.heap.size w wb := by rw [hwb]; exact av _ _
 have bG := ak (ho.later hb); have bh : Hid (Cells wb w.heap.size 51 (r.vals z)) := ak (by rw [hwb]; exact aB _ _ _ _ rfl); have bI := ak (hh.later hb); have bH := ak hb; have dU := ak hs; have dP := ak hr; obtain ⟨F, hF⟩ := ah (fY s r); have HF := ak hF.symm; rw [hF]; unfold Rc.val; clear ho hh hs hr hb hF
 go_enter Tryz.func65, Tryz.ntmps65
 go_wp2_with fail
 rw [<- hwb]; clear hwb; refine N.rb 7 [7] (Ic s y r b w.heap.size) wb (fun V => [(some 6, V 0), (some 7, V 1), (some 8, V 2), (some 9, V 3), (some 10, V 4), (some 11, V 5), (some 12, V 6), (some 5, V 7)]) ?_ ?_
 ·intro i o ho
  have hi : i < 8 := (Array.getElem?_eq_some_iff.1 ho).1; rcases i with _ | _ | _ | _ | _ | _ | _ | _ | i
  rotate_right
  ·omega
  all_goals obtain rfl := Option.some.inj ho
  all_goals intro ρ wi hE hI hs hd
  all_goals try dsimp only at hI
  ·have e0 : ρ (.tmp 0) = (au b) := hs 0; exact N.gw hI
  ·obtain ⟨_, rfl, e6⟩ := hd 0 6; exact N.gw hI
  ·obtain ⟨_, rfl, e7⟩ := hd 1 7
   exact N.Gives.value (v := s.val y) (w' := wi) (aQ _ _ rfl _ _ (by assumption) (aS (bG.o.later hI))) (N.bA.same hI rfl)
  ·have e3 : ρ (.tmp 3) = (au w.heap.size) := hs 3; exact N.gw hI
  ·obtain ⟨_, rfl, e9⟩ := hd 3 9; have x0 := (bh.o.later hI).cell (j := 9) rfl; exact N.gw hI
  ·obtain ⟨_, rfl, e8⟩ := hd 2 8; obtain ⟨_, rfl, e10⟩ := hd 4 10; have hf := hE.func
   refine N.Gives.call (f := 36) (args := #[s.val y, iv r.cell]) (w' := wi) (by go_simp) ?_; refine (fF s y r.cell wi).mono ?_; rintro e w'' ⟨rfl, hbb⟩; exact ⟨_, rfl, ⟨rfl, hI.trans (hbb.mono hI.size), fun j u _ _ h => N.tz h⟩⟩
  ·obtain ⟨_, rfl, e11⟩ := hd 5 11; exact N.gw hI
  obtain ⟨_, rfl, e12⟩ := hd 6 12; exact N.gw hI
 intro V wc hV hI
 have jr : V 7 = .bool (!(bp s r.cell)) := hV 7 (by decide) rfl; simp only [N.aP, List.foldl_cons, List.foldl_nil, Act.put, List.setIfInBounds_toArray, List.set_cons_succ, List.set_cons_zero, jr]; replace hI : (fun a => Below wb.heap.size wb a) wc := hI; clear hV jr; have aR := ak (bG.o.later hI); have bO := ak (bh.o.later hI); have cB := ak (bI.o.later hI); have bB := ak (bH.o.trans (hI.mono bH.o.size)); clear hI
 cases hh : bp s r.cell with
 | false =>
  have uS := ak hh; clear hh; have bf : Hid (F = (s, 1)) := ak (by rw [HF.o]; exact if_pos uS.o)
  go_wp2_with fail
  go_returns
  exact ⟨aL (by rw [bf.o]), by rw [bf.o]; exact Step.same aR.o bB.o⟩
 | true =>
  have lg := ak hh; clear hh; obtain ⟨pb, k, pl, hP, hk, hkl, hpl, hpa⟩ := aR.o.place lg.o; have dX := ak (And.intro hP (And.intro hk (And.intro hkl hpl))); have rQ := ak hpa; have HK := ak hk; clear hP hk hkl hpl hpa
  go_upto_region 3 with (fail)
  refine N.rb 10 [10] (Ib s y r b w.heap.size pb k pl) wc (fun V => [(some 14, V 0), (some 15, V 1), (some 16, V 2), (some 17, V 3), (some 18, V 4), (some 19, V 5), (some 20, V 6), (some 21, V 7), (some 22, V 8), (some 23, V 9), (some 13, V 10)]) ?_ ?_
  ·intro i o ho
   have hi : i < 11 := (Array.getElem?_eq_some_iff.1 ho).1; rcases i with _ | _ | _ | _ | _ | _ | _ | _ | _ | _ | _ | i
   rotate_right
   ·omega
   all_goals obtain rfl := Option.some.inj ho
   all_goals intro ρ wi hE hI hs hd
   all_goals try dsimp only at hI
   ·have e0 : ρ (.tmp 0) = (au b) := hs 0; exact N.gw hI
   ·obtain ⟨_, rfl, mZ⟩ := hd 0 14; exact N.gw hI
   ·obtain ⟨_, rfl, mY⟩ := hd 1 15; exact N.gw hI
   ·obtain ⟨_, rfl, e16⟩ := hd 2 16; have x0 := (aR.o.later hI).br.cell (j := 4) rfl; exact N.gw hI
   ·have e3 : ρ (.tmp 3) = (au w.heap.size) := hs 3; exact N.gw hI
   ·obtain ⟨_, rfl, e18⟩ := hd 4 18; have x0 := (bO.o.later hI).cell (j := 9) rfl; exact N.gw hI
   ·obtain ⟨_, rfl, e17⟩ := hd 3 17; obtain ⟨_, rfl, e19⟩ := hd 5 19; have hP := dX.o.1; have hk := dX.o.2.1; have hkl := dX.o.2.2.1; exact N.gw hI
   ·obtain ⟨_, rfl, wL⟩ := hd 6 20; exact N.gw hI
   ·obtain ⟨_, rfl, ug⟩ := hd 7 21; have x0 := (aR.o.later hI).bg dX.o.1 dX.o.2.2.2 (j := 0) rfl
    rw [Nat.add_zero] at x0; exact N.gw hI
   ·obtain ⟨_, rfl, wT⟩ := hd 8 22; have hc := hE.const; exact N.gw hI
   obtain ⟨_, rfl, Fu⟩ := hd 9 23; exact N.gw hI
  intro V wd hV hI
  have xk : V 10 = .bool (pl.status != 2) := hV 10 (by decide) rfl; simp only [N.aP, List.foldl_cons, List.foldl_nil, Act.put, List.setIfInBounds_toArray, List.set_cons_succ, List.set_cons_zero, xk]; replace hI : (fun a => Below wc.heap.size wc a) wd := hI; clear hV xk; have cu := ak (aR.o.later hI); have fT := ak (bO.o.later hI); have jR := ak (cB.o.later hI); have ez := ak (bB.o.trans (hI.mono bB.o.size)); clear hI
  by_cases h0 : pl.status = 2
  ·have HA := ak h0
   clear h0
   go_upto_region 5 with (first | fail | simp [HA.o])
   refine N.rb 12 [12] (Ia s y r b w.heap.size pb k pl) wd (fun V => [(some 25, V 0), (some 26, V 1), (some 27, V 2), (some 28, V 3), (some 29, V 4), (some 30, V 5), (some 31, V 6), (some 32, V 7), (some 33, V 8), (some 34, V 9), (some 35, V 10), (some 36, V 11), (some 24, V 12)]) ?_ ?_
   ·intro i o ho
    have hi : i < 13 := (Array.getElem?_eq_some_iff.1 ho).1; rcases i with _ | _ | _ | _ | _ | _ | _ | _ | _ | _ | _ | _ | _ | i
    rotate_right
    ·omega
    all_goals obtain rfl := Option.some.inj ho
    all_goals intro ρ wi hE hI hs hd
    all_goals try dsimp only at hI
    all_goals (have e3 : ρ (.tmp 3) = (au w.heap.size) := hs 3)
    ·exact N.gw hI
    ·obtain ⟨_, rfl, DK⟩ := hd 0 25; have x0 := (fT.o.later hI).cell (j := 11) rfl; exact N.gw hI
    ·have e0 : ρ (.tmp 0) = (au b) := hs 0; exact N.gw hI
    ·obtain ⟨_, rfl, Bn⟩ := hd 2 27; exact N.gw hI
    ·obtain ⟨_, rfl, Bl⟩ := hd 3 28; exact N.gw hI
    ·obtain ⟨_, rfl, wK⟩ := hd 4 29; have x0 := (cu.o.later hI).br.cell (j := 4) rfl; exact N.gw hI
    ·exact N.gw hI
    ·obtain ⟨_, rfl, uQ⟩ := hd 6 31; have x0 := (fT.o.later hI).cell (j := 9) rfl; exact N.gw hI
    ·obtain ⟨_, rfl, e30⟩ := hd 5 30; obtain ⟨_, rfl, zB⟩ := hd 7 32; have hP := dX.o.1; have hk := dX.o.2.1; have hkl := dX.o.2.2.1; exact N.gw hI
    ·obtain ⟨_, rfl, Bk⟩ := hd 8 33; exact N.gw hI
    ·obtain ⟨_, rfl, Bj⟩ := hd 9 34; have x0 := (cu.o.later hI).bg dX.o.1 dX.o.2.2.2 (j := 1) rfl; exact N.gw hI
    ·obtain ⟨_, rfl, zj⟩ := hd 1 26; obtain ⟨_, rfl, r9⟩ := hd 10 35; exact N.gw hI
    obtain ⟨_, rfl, r8⟩ := hd 11 36; exact N.gw hI
   intro V we hV hI
   have sB : V 12 = .bool (r.hop != pl.hop) := hV 12 (by decide) rfl; simp only [N.aP, List.foldl_cons, List.foldl_nil, Act.put, List.setIfInBounds_toArray, List.set_cons_succ, List.set_cons_zero, sB]; replace hI : (fun a => Below wd.heap.size wd a) we := hI; clear hV sB; have fV := ak (cu.o.later hI); have lF := ak (fT.o.later hI); have vO := ak (jR.o.later hI); have jC := ak (ez.o.trans (hI.mono ez.o.size)); clear hI
   by_cases h1 : r.hop = pl.hop
   ·have rS := ak h1
    have bf : Hid (F = ({ s with places := s.places.set k ⟨0, r.hop, 0, 0, 0⟩ }, 0)) := ak (by rw [HF.o]; unfold fY bJ; rw [lg.o, rQ.o, if_neg (by decide), if_neg (fun h => h HA.o), if_neg (fun h => h rS.o), HK.o]; rfl)
    go_upto_region 7 with (fail)
    refine N.fI (by kernel_rfl) 10 [] (sS s y r b w.heap.size pb k) (fun a => Below we.heap.size we a) (fun a' => Own base a' b { s with places := s.places.set k ⟨0, r.hop, 0, 0, 0⟩ } y /\ Only (fun j => some j = blk y.P) we a') (fun V => [(some 37, V 0), (some 38, V 1), (some 39, V 2), (some 40, V 3), (some 41, V 4), (some 42, V 5), (some 43, V 6), (some 44, V 7), (some 45, V 8), (some 46, V 9), (none, V 10)]) (by kernel_rfl) (by kernel_rfl) (by kernel_rfl) (fun V => rfl) ?_ ?_ ?_
    ·exact (Below.refl _ _).drew
    ·intro i o ho
     have hi : i < 11 := (Array.getElem?_eq_some_iff.1 ho).1; rcases i with _ | _ | _ | _ | _ | _ | _ | _ | _ | _ | _ | i
     rotate_right
     ·omega
     all_goals obtain rfl := Option.some.inj ho
     all_goals intro ρ wi hE hI hs hd
     all_goals try dsimp only at hI
     all_goals (have e3 : ρ (.tmp 3) = (au w.heap.size) := hs 3)
     ·have e0 : ρ (.tmp 0) = (au b) := hs 0; exact N.gw hI
     ·obtain ⟨_, rfl, zi⟩ := hd 0 37; exact N.gw hI
     ·obtain ⟨_, rfl, e38⟩ := hd 1 38; exact N.gw hI
     ·obtain ⟨_, rfl, e39⟩ := hd 2 39; have x0 := (fV.o.later hI).br.cell (j := 4) rfl; exact N.gw hI
     ·exact N.gw hI
     ·obtain ⟨_, rfl, zA⟩ := hd 4 41; have x0 := (lF.o.later hI).cell (j := 9) rfl; exact N.gw hI
     ·exact N.gw hI
     ·obtain ⟨_, rfl, uP⟩ := hd 6 43; have x0 := (lF.o.later hI).cell (j := 11) rfl; exact N.gw hI
     ·obtain ⟨_, rfl, uO⟩ := hd 7 44; have hc := hE.const; exact N.gw hI
     ·obtain ⟨_, rfl, wS⟩ := hd 3 40; obtain ⟨_, rfl, DJ⟩ := hd 5 42; have hP := dX.o.1; have hk := dX.o.2.1; have hkl := dX.o.2.2.1; exact N.gw hI
     obtain ⟨_, rfl, F4⟩ := hd 9 46; obtain ⟨_, rfl, DI⟩ := hd 8 45
     obtain ⟨k1, k2, k3⟩ := (fV.o.later hI).putCells dX.o.1 ⟨0, r.hop, 0, 0, 0⟩ dX.o.2.2.1 [iv 0, iv r.hop, iv 0, iv 0, iv 0] 0 (by simp [Value.oneCell']) (Nat.le_refl _) (fun q _ => rfl); exact N.Gives.skip (eH 66 _ _ rfl pb (k * 5) #[iv 0, iv r.hop, iv 0, iv 0, iv 0] (by assumption) (by assumption) (run_storeVar_mid _ pb (k * 5) 66 #[iv 0, iv r.hop, iv 0, iv 0, iv 0] k3 (by kernel_rfl) (by simp [Value.oneCell']))) ⟨trivial, ⟨k1, (Only.of_below hI).trans k2 fun _ _ e => e⟩, fun _ _ _ _ h => uH h⟩
    intro V wf hV hI
    simp only [N.aP, List.foldl_cons, List.foldl_nil, Act.put, List.setIfInBounds_toArray, List.set_cons_succ, List.set_cons_zero]; replace hI : (fun a' => Own base a' b { s with places := s.places.set k ⟨0, r.hop, 0, 0, 0⟩ } y /\ Only (fun j => some j = blk y.P) we a') wf := hI; clear hV; have HN := ak hI; clear hI
    go_wp2_with fail
    go_returns
    exact ⟨aL (by rw [bf.o]), by rw [bf.o]; exact ⟨y, HN.o.1, (Only.of_below jC.o).trans HN.o.2 fun _ _ e => Or.inr (Or.inl e), fun k e => Or.inl e⟩⟩
   have rS := ak h1
   have bf : Hid (F = (s, 10)) := ak (by rw [HF.o]; unfold fY; rw [lg.o, rQ.o, if_neg (by decide), if_neg (fun h => h HA.o), if_pos rS.o])
   go_wp2_with fail
   go_returns
   exact ⟨aL (by rw [bf.o]), by rw [bf.o]; exact Step.same fV.o jC.o⟩
  have HA := ak h0
  have bf : Hid (F = (s, 8)) := ak (by rw [HF.o]; unfold fY; rw [lg.o, rQ.o, if_neg (by decide), if_pos HA.o])
  go_wp2_with fail
  go_returns
  exact ⟨aL (by rw [bf.o]), by rw [bf.o]; exact Step.same cu.o ez.o⟩
