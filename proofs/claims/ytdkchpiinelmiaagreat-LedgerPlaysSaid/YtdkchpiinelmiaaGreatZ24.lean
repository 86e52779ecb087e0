/- Part 24 of the proof. Conditions: none. -/
import Derived.Test.YtdkchpiinelmiaaGreatZ22
namespace Go.Proofs.YtdkchpiinelmiaaGreat.Led
set_option maxRecDepth 100000
open Go.RowKit Go.Deep Mem fN Rec
def iz (s : St) (r : Rc) : St × Int := if bp s r.cell = false then (s, 1) else if r.node = s.node then (s, 1) else if above s [r.node] = true then (s, 1) else if owns s r.cell = false then (s, 8) else if locked s r.cell = true then (s, 12) else if r.hop ≠ IntKind.i64.wrap ((cw s r.cell).hop + 1) then (s, 10) else (bJ s r.cell ⟨2, r.hop, r.node, (cw s r.cell).version, (cw s r.cell).value⟩, 0)
def Ez (s : St) (y : Sy) (r : Rc) (b : Nat) (g : Nat) : Nat -> Value -> World -> Prop := N.tb [.inl (.pointer (some ⟨b, 0, none⟩)), .inl (.pointer (some ⟨b, 0, none⟩)), .inl (s.val y), .inl (.pointer (some ⟨g, 9, none⟩)), .inl (.int .i64 r.cell), .inl (.bool false), .inl (.bool true), .inl (.bool true), .inl (undef), .inl (undef), .inl (undef), .inl (undef), .inl (undef), .inl (undef), .inl (undef), .inl (.bool true), .inl (.bool true), .inl (undef), .inl (undef), .inl (undef), .inl (undef), .inl (undef), .inl (undef), .inl (undef), .inl (.bool true), .inl (.bool true)]
def Ey (s : St) (y : Sy) (r : Rc) (b : Nat) (g : Nat) : Nat -> Value -> World -> Prop := N.tb [.inl (.pointer (some ⟨b, 0, none⟩)), .inl (.pointer (some ⟨b, 0, none⟩)), .inl (s.val y), .inl (.pointer (some ⟨g, 9, none⟩)), .inl (.int .i64 r.cell), .inl (.bool true), .inl (.bool false), .inl (.bool false), .inl (.pointer (some ⟨g, 6, none⟩)), .inl (.int .i64 r.node), .inl (.pointer (some ⟨b, 0, none⟩)), .inl (.pointer (some ⟨b, 0, none⟩)), .inl (.pointer (some ⟨b, 0, none⟩)), .inl (.int .i64 s.node), .inl (.bool true), .inl (.bool true), .inl (.bool true), .inl (undef), .inl (undef), .inl (undef), .inl (undef), .inl (undef), .inl (undef), .inl (undef), .inl (.bool true), .inl (.bool true)]
def qN (s : St) (y : Sy) (r : Rc) (b : Nat) (g : Nat) : Nat -> Value -> World -> Prop := N.tb [.inl (.pointer (some ⟨b, 0, none⟩)), .inl (.pointer (some ⟨b, 0, none⟩)), .inl (s.val y), .inl (.pointer (some ⟨g, 9, none⟩)), .inl (.int .i64 r.cell), .inl (.bool true), .inl (.bool false), .inl (.bool false), .inl (.pointer (some ⟨g, 6, none⟩)), .inl (.int .i64 r.node), .inl (.pointer (some ⟨b, 0, none⟩)), .inl (.pointer (some ⟨b, 0, none⟩)), .inl (.pointer (some ⟨b, 0, none⟩)), .inl (.int .i64 s.node), .inl (.bool false), .inl (.bool false), .inl (.bool false), .inl (.pointer (some ⟨b, 0, none⟩)), .inl (.pointer (some ⟨b, 0, none⟩)), .inl (s.val y), .inl (.pointer (some ⟨g, 6, none⟩)), .inl (.int .i64 r.node), .inr fun v w => ∃ kk, v = .slice (some ⟨kk, 0, none⟩) 1 1 /\ Cells w kk 3 ([r.node].map (Value.int .i64)), .inl (.bool (above s [r.node])), .inl (.bool (above s [r.node])), .inl (.bool (above s [r.node]))]
theorem iD {s : St} {y : Sy} {r : Rc} {b : Nat} {g : Nat} {j : Nat} {v : Value} {w w' : World} (hb : Below w.heap.size w w') (h : qN s y r b g j v w) : qN s y r b g j v w' := by
 refine N.gA ?_ h; refine And.intro (fun v h => ?_) ?_
 ·obtain ⟨kk, h1, h2⟩ := h
  exact ⟨kk, h1, h2.later hb⟩
 exact trivial
def H7 (s : St) (y : Sy) (r : Rc) (b : Nat) (g : Nat) : Nat -> Value -> World -> Prop := N.tb [.inl (.pointer (some ⟨b, 0, none⟩)), .inl (.pointer (some ⟨b, 0, none⟩)), .inl (s.val y), .inl (.pointer (some ⟨g, 9, none⟩)), .inl (.int .i64 r.cell), .inl (.bool (owns s r.cell)), .inl (.bool (!(owns s r.cell))), .inl (.bool (!(owns s r.cell)))]
def H6 (s : St) (y : Sy) (r : Rc) (b : Nat) (g : Nat) : Nat -> Value -> World -> Prop := N.tb [.inl (.pointer (some ⟨b, 0, none⟩)), .inl (.pointer (some ⟨b, 0, none⟩)), .inl (s.val y), .inl (.pointer (some ⟨g, 9, none⟩)), .inl (.int .i64 r.cell), .inl (.bool (locked s r.cell)), .inl (.bool (locked s r.cell))]
def Hz (s : St) (y : Sy) (r : Rc) (b : Nat) (g : Nat) (pb : Nat) (k : Nat) (pl : Pl) : Nat -> Value -> World -> Prop := N.tb [.inl (.pointer (some ⟨g, 11, none⟩)), .inl (.int .i64 r.hop), .inl (.pointer (some ⟨b, 0, none⟩)), .inl (.pointer (some ⟨b, 0, none⟩)), .inl (.pointer (some ⟨b, 4, none⟩)), .inl (.slice y.P s.places.length y.p), .inl (.pointer (some ⟨g, 9, none⟩)), .inl (.int .i64 r.cell), .inl (.pointer (some ⟨pb, k * 5, none⟩)), .inl (.pointer (some ⟨pb, k * 5 + 1, none⟩)), .inl (.int .i64 pl.hop), .inl (.int .i64 (IntKind.i64.wrap (pl.hop + 1))), .inl (.bool (r.hop != (IntKind.i64.wrap (pl.hop + 1)))), .inl (.bool (r.hop != (IntKind.i64.wrap (pl.hop + 1))))]
def Hy (s : St) (y : Sy) (r : Rc) (b : Nat) (g : Nat) (pb : Nat) (k : Nat) : Nat -> Value -> World -> Prop := N.tb [.inl (.pointer (some ⟨b, 0, none⟩)), .inl (.pointer (some ⟨b, 0, none⟩)), .inl (.pointer (some ⟨b, 4, none⟩)), .inl (.slice y.P s.places.length y.p), .inl (.pointer (some ⟨g, 9, none⟩)), .inl (.int .i64 r.cell), .inl (.pointer (some ⟨pb, k * 5, none⟩)), .inl (.pointer (some ⟨pb, k * 5, none⟩))]
set_option maxHeartbeats 4000000 in
theorem J4 (s : St) (y : Sy) (r : Rc) (z : Lay) (base b : Nat) (w : World) (ho : Own base w b s y) (hh : Two w r.items r.nodes z) (hs : Small s) (hr : r.items.length <= 1000 /\ r.nodes.length <= 1000) :
  Calls Tryz.prog 63 #[(au b), r.val z] w fun e w' => e = .returned (iv (iz s r).2) /\ Step base b s y w (iz s r).1 w' := by
 obtain ⟨wb, hwb⟩ := aj (w.alloc (.cells #[iv r.kind, iv r.tid.node, iv r.tid.epoch, iv r.tid.seq, .slice z.A r.items.length z.c, .slice z.B r.nodes.length z.d, iv r.node, iv r.count, iv r.num, iv r.cell, iv r.status, iv r.hop, iv r.version, iv r.value, .bool r.yes] 51)); have hb : Below w.heap.size w wb := by rw [hwb]; exact av _ _
 have bG := ak (ho.later hb); have bh : Hid (Cells wb w.heap.size 51 (r.vals z)) := ak (by rw [hwb]; exact aB _ _ _ _ rfl); have bI := ak (hh.later hb); have bH := ak hb; have dU := ak hs; have dP := ak hr; have UD : Hid (¬ some w.heap.size = blk y.P) := ak fun e => by have := (ho.lists.lt (Or.inl e)).2; omega
 obtain ⟨F, hF⟩ := ah (iz s r); have HF := ak hF.symm; rw [hF]; unfold Rc.val; clear ho hh hs hr hb hF
 go_enter Tryz.func63, Tryz.ntmps63
 go_wp2_with fail
 rw [<- hwb]; clear hwb
 cases hh : bp s r.cell with
 | false =>
  have uS := ak hh; clear hh; refine N.rb 25 [25] (Ez s y r b w.heap.size) wb (fun V => [(some 7, V 0), (some 8, V 1), (some 9, V 2), (some 10, V 3), (some 11, V 4), (some 12, V 5), (some 13, V 6), (some 14, V 7), (some 15, V 8), (some 16, V 9), (some 17, V 10), (some 18, V 11), (some 19, V 12), (some 20, V 13), (some 21, V 14), (some 22, V 15), (some 23, V 16), (some 24, V 17), (some 25, V 18), (some 26, V 19), (some 27, V 20), (some 28, V 21), (some 29, V 22), (some 30, V 23), (some 31, V 24), (some 6, V 25)]) ?_ ?_
  ·intro i o ho
   have hi : i < 26 := (Array.getElem?_eq_some_iff.1 ho).1; rcases i with _ | _ | _ | _ | _ | _ | _ | _ | _ | _ | _ | _ | _ | _ | _ | _ | _ | _ | _ | _ | _ | _ | _ | _ | _ | _ | i
   rotate_right
   ·omega
   all_goals obtain rfl := Option.some.inj ho
   all_goals intro ρ wi hE hI hs hd
   all_goals try dsimp only at hI
   all_goals (have hc := hE.const)
   ·have e0 : ρ (.tmp 0) = (au b) := hs 0; exact N.gw hI
   ·obtain ⟨_, rfl, e7⟩ := hd 0 7; exact N.gw hI
   ·obtain ⟨_, rfl, e8⟩ := hd 1 8
    exact N.Gives.value (v := s.val y) (w' := wi) (aQ _ _ rfl _ _ (by assumption) (aS (bG.o.later hI))) (N.bA.same hI rfl)
   ·have e3 : ρ (.tmp 3) = (au w.heap.size) := hs 3; exact N.gw hI
   ·obtain ⟨_, rfl, e10⟩ := hd 3 10; have x0 := (bh.o.later hI).cell (j := 9) rfl; exact N.gw hI
   ·obtain ⟨_, rfl, e9⟩ := hd 2 9; obtain ⟨_, rfl, e11⟩ := hd 4 11; have hf := hE.func
    refine N.Gives.call (f := 36) (args := #[s.val y, iv r.cell]) (w' := wi) (by go_simp) ?_; refine (cG (fF s y r.cell wi) uS.o).mono ?_; rintro e w'' ⟨rfl, hbb⟩; exact ⟨_, rfl, ⟨rfl, hI.trans (hbb.mono hI.size), fun j u _ _ h => N.tz h⟩⟩
   ·obtain ⟨_, rfl, e12⟩ := hd 5 12; exact N.gw hI
   ·obtain ⟨_, rfl, l5⟩ := hd 6 13; exact N.gw hI
   iterate 7 ·exact N.no hI
   ·obtain ⟨_, rfl, mZ⟩ := hd 7 14; obtain ⟨_, rfl, ug⟩ := hd 14 21; exact N.gw hI
   ·obtain ⟨_, rfl, wT⟩ := hd 15 22; exact N.gw hI
   iterate 7 ·exact N.no hI
   ·obtain ⟨_, rfl, Fu⟩ := hd 16 23; obtain ⟨_, rfl, e30⟩ := hd 23 30; exact N.gw hI
   obtain ⟨_, rfl, uQ⟩ := hd 24 31; exact N.gw hI
  intro V wc hV hI
  have xg : V 25 = .bool true := hV 25 (by decide) rfl; simp only [N.aP, List.foldl_cons, List.foldl_nil, Act.put, List.setIfInBounds_toArray, List.set_cons_succ, List.set_cons_zero, xg]; replace hI : (fun a => Below wb.heap.size wb a) wc := hI; clear hV xg; have aR := ak (bG.o.later hI); have bO := ak (bh.o.later hI); have cB := ak (bI.o.later hI); have bB := ak (bH.o.trans (hI.mono bH.o.size)); clear hI; have bf : Hid (F = (s, 1)) := ak (by rw [HF.o]; exact if_pos uS.o)
  go_wp2_with fail
  go_returns
  exact ⟨aL (by rw [bf.o]), by rw [bf.o]; exact Step.same aR.o bB.o⟩
 | true =>
  have lg := ak hh; clear hh
  by_cases he : r.node = s.node
  ·have HE := ak he
   clear he; refine N.rb 25 [25] (Ey s y r b w.heap.size) wb (fun V => [(some 7, V 0), (some 8, V 1), (some 9, V 2), (some 10, V 3), (some 11, V 4), (some 12, V 5), (some 13, V 6), (some 14, V 7), (some 15, V 8), (some 16, V 9), (some 17, V 10), (some 18, V 11), (some 19, V 12), (some 20, V 13), (some 21, V 14), (some 22, V 15), (some 23, V 16), (some 24, V 17), (some 25, V 18), (some 26, V 19), (some 27, V 20), (some 28, V 21), (some 29, V 22), (some 30, V 23), (some 31, V 24), (some 6, V 25)]) ?_ ?_
   ·intro i o ho
    have hi : i < 26 := (Array.getElem?_eq_some_iff.1 ho).1; rcases i with _ | _ | _ | _ | _ | _ | _ | _ | _ | _ | _ | _ | _ | _ | _ | _ | _ | _ | _ | _ | _ | _ | _ | _ | _ | _ | i
    rotate_right
    ·omega
    all_goals obtain rfl := Option.some.inj ho
    all_goals intro ρ wi hE hI hs hd
    all_goals try dsimp only at hI
    all_goals (have e0 : ρ (.tmp 0) = (au b) := hs 0; have e3 : ρ (.tmp 3) = (au w.heap.size) := hs 3; have hc := hE.const)
    ·exact N.gw hI
    ·obtain ⟨_, rfl, e7⟩ := hd 0 7; exact N.gw hI
    ·obtain ⟨_, rfl, e8⟩ := hd 1 8
     exact N.Gives.value (v := s.val y) (w' := wi) (aQ _ _ rfl _ _ (by assumption) (aS (bG.o.later hI))) (N.bA.same hI rfl)
    ·exact N.gw hI
    ·obtain ⟨_, rfl, e10⟩ := hd 3 10; have x0 := (bh.o.later hI).cell (j := 9) rfl; exact N.gw hI
    ·obtain ⟨_, rfl, e9⟩ := hd 2 9; obtain ⟨_, rfl, e11⟩ := hd 4 11; have hf := hE.func
     refine N.Gives.call (f := 36) (args := #[s.val y, iv r.cell]) (w' := wi) (by go_simp) ?_; refine (cG (fF s y r.cell wi) lg.o).mono ?_; rintro e w'' ⟨rfl, hbb⟩; exact ⟨_, rfl, ⟨rfl, hI.trans (hbb.mono hI.size), fun j u _ _ h => N.tz h⟩⟩
    ·obtain ⟨_, rfl, e12⟩ := hd 5 12; exact N.gw hI
    ·obtain ⟨_, rfl, l5⟩ := hd 6 13; exact N.gw hI
    ·refine N.yes ?_
     exact N.gw hI
    ·obtain ⟨_, rfl, mY⟩ := hd 8 15
     refine N.yes ?_; have x0 := (bh.o.later hI).cell (j := 6) rfl; exact N.gw hI
    ·refine N.yes ?_
     exact N.gw hI
    ·obtain ⟨_, rfl, e17⟩ := hd 10 17
     refine N.yes ?_; exact N.gw hI
    ·obtain ⟨_, rfl, e18⟩ := hd 11 18
     refine N.yes ?_; exact N.gw hI
    ·obtain ⟨_, rfl, e19⟩ := hd 12 19
     refine N.yes ?_; have x0 := (bG.o.later hI).br.cell (j := 0) rfl; exact N.gw hI
    ·obtain ⟨_, rfl, e16⟩ := hd 9 16; obtain ⟨_, rfl, wL⟩ := hd 13 20
     refine N.yes ?_; have hne := HE.o; exact N.gw hI
    ·obtain ⟨_, rfl, mZ⟩ := hd 7 14; obtain ⟨_, rfl, ug⟩ := hd 14 21; exact N.gw hI
    ·obtain ⟨_, rfl, wT⟩ := hd 15 22; exact N.gw hI
    iterate 7 ·exact N.no hI
    ·obtain ⟨_, rfl, Fu⟩ := hd 16 23; obtain ⟨_, rfl, e30⟩ := hd 23 30; exact N.gw hI
    obtain ⟨_, rfl, uQ⟩ := hd 24 31; exact N.gw hI
   intro V wc hV hI
   have xg : V 25 = .bool true := hV 25 (by decide) rfl; simp only [N.aP, List.foldl_cons, List.foldl_nil, Act.put, List.setIfInBounds_toArray, List.set_cons_succ, List.set_cons_zero, xg]; replace hI : (fun a => Below wb.heap.size wb a) wc := hI; clear hV xg; have aR := ak (bG.o.later hI); have bO := ak (bh.o.later hI); have cB := ak (bI.o.later hI); have bB := ak (bH.o.trans (hI.mono bH.o.size)); clear hI; have bf : Hid (F = (s, 1)) := ak (by rw [HF.o]; unfold iz; rw [lg.o, if_neg (by decide), if_pos HE.o])
   go_wp2_with fail
   go_returns
   exact ⟨aL (by rw [bf.o]), by rw [bf.o]; exact Step.same aR.o bB.o⟩
  have HE := ak he
  clear he; refine N.rb 25 [25] (qN s y r b w.heap.size) wb (fun V => [(some 7, V 0), (some 8, V 1), (some 9, V 2), (some 10, V 3), (some 11, V 4), (some 12, V 5), (some 13, V 6), (some 14, V 7), (some 15, V 8), (some 16, V 9), (some 17, V 10), (some 18, V 11), (some 19, V 12), (some 20, V 13), (some 21, V 14), (some 22, V 15), (some 23, V 16), (some 24, V 17), (some 25, V 18), (some 26, V 19), (some 27, V 20), (some 28, V 21), (some 29, V 22), (some 30, V 23), (some 31, V 24), (some 6, V 25)]) ?_ ?_
  ·intro i o ho
   have hi : i < 26 := (Array.getElem?_eq_some_iff.1 ho).1; rcases i with _ | _ | _ | _ | _ | _ | _ | _ | _ | _ | _ | _ | _ | _ | _ | _ | _ | _ | _ | _ | _ | _ | _ | _ | _ | _ | i
   rotate_right
   ·omega
   all_goals obtain rfl := Option.some.inj ho
   all_goals intro ρ wi hE hI hs hd
   all_goals try dsimp only at hI
   all_goals (have e0 : ρ (.tmp 0) = (au b) := hs 0; have e3 : ρ (.tmp 3) = (au w.heap.size) := hs 3; have hc := hE.const; have hf := hE.func)
   ·exact N.gw hI
   ·obtain ⟨_, rfl, e7⟩ := hd 0 7; exact N.gw hI
   ·obtain ⟨_, rfl, e8⟩ := hd 1 8
    exact N.Gives.value (v := s.val y) (w' := wi) (aQ _ _ rfl _ _ (by assumption) (aS (bG.o.later hI))) (N.bA.same hI rfl)
   ·exact N.gw hI
   ·obtain ⟨_, rfl, e10⟩ := hd 3 10; have x0 := (bh.o.later hI).cell (j := 9) rfl; exact N.gw hI
   ·obtain ⟨_, rfl, e9⟩ := hd 2 9; obtain ⟨_, rfl, e11⟩ := hd 4 11
    refine N.Gives.call (f := 36) (args := #[s.val y, iv r.cell]) (w' := wi) (by go_simp) ?_; refine (cG (fF s y r.cell wi) lg.o).mono ?_; rintro e w'' ⟨rfl, hbb⟩; exact ⟨_, rfl, ⟨rfl, hI.trans (hbb.mono hI.size), fun j u _ _ h => iD hbb h⟩⟩
   ·obtain ⟨_, rfl, e12⟩ := hd 5 12; exact N.gw hI
   ·obtain ⟨_, rfl, l5⟩ := hd 6 13; exact N.gw hI
   ·refine N.yes ?_
    exact N.gw hI
   ·obtain ⟨_, rfl, mY⟩ := hd 8 15
    refine N.yes ?_; have x0 := (bh.o.later hI).cell (j := 6) rfl; exact N.gw hI
   ·refine N.yes ?_
    exact N.gw hI
   ·obtain ⟨_, rfl, e17⟩ := hd 10 17
    refine N.yes ?_; exact N.gw hI
   ·obtain ⟨_, rfl, e18⟩ := hd 11 18
    refine N.yes ?_; exact N.gw hI
   ·obtain ⟨_, rfl, e19⟩ := hd 12 19
    refine N.yes ?_; have x0 := (bG.o.later hI).br.cell (j := 0) rfl; exact N.gw hI
   ·obtain ⟨_, rfl, e16⟩ := hd 9 16; obtain ⟨_, rfl, wL⟩ := hd 13 20
    refine N.yes ?_; have hne := HE.o; exact N.gw hI
   ·obtain ⟨_, rfl, mZ⟩ := hd 7 14; obtain ⟨_, rfl, ug⟩ := hd 14 21; exact N.gw hI
   ·obtain ⟨_, rfl, wT⟩ := hd 15 22; exact N.gw hI
   ·refine N.yes ?_
    exact N.gw hI
   ·obtain ⟨_, rfl, DL⟩ := hd 17 24
    refine N.yes ?_; exact N.gw hI
   ·obtain ⟨_, rfl, DK⟩ := hd 18 25
    refine N.yes ?_; exact N.Gives.value (v := s.val y) (w' := wi) (aQ _ _ rfl _ _ (by assumption) (aS (bG.o.later hI))) (N.bA.same hI rfl)
   ·refine N.yes ?_
    exact N.gw hI
   ·obtain ⟨_, rfl, Bn⟩ := hd 20 27
    refine N.yes ?_; have x0 := (bh.o.later hI).cell (j := 6) rfl; exact N.gw hI
   ·obtain ⟨_, rfl, Bl⟩ := hd 21 28
    refine N.yes ?_; have hal := av wi (.cells #[iv r.node] 3); exact N.Gives.value (v := .slice (some ⟨wi.heap.size, 0, none⟩) 1 1) (w' := wi.alloc (.cells #[iv r.node] 3)) (by go_simp) ⟨⟨_, rfl, aB wi _ _ _ rfl⟩, hI.trans (hal.mono hI.size), fun j u _ _ h => iD hal h⟩
   ·obtain ⟨_, rfl, zj⟩ := hd 19 26; obtain ⟨u29, K8, wK⟩ := hd 22 29
    refine N.yes ?_; obtain ⟨kk, rfl, gH⟩ := K8; refine N.Gives.call (f := 89) (args := #[s.val y, .slice (some ⟨kk, 0, none⟩) 1 1]) (w' := wi) (by go_simp) ?_; refine (fH s y (some ⟨kk, 0, none⟩) [r.node] 1 wi (fun j hj => ⟨kk, 0, rfl, eI gH j hj⟩) (by simp)).mono ?_; rintro e w'' ⟨rfl, hbb⟩; exact ⟨_, rfl, ⟨rfl, hI.trans (hbb.mono hI.size), fun j u _ _ h => iD hbb h⟩⟩
   ·obtain ⟨_, rfl, Fu⟩ := hd 16 23; obtain ⟨_, rfl, e30⟩ := hd 23 30; exact N.gw hI
   obtain ⟨_, rfl, uQ⟩ := hd 24 31; exact N.gw hI
  intro V wc hV hI
  have xg : V 25 = .bool (above s [r.node]) := hV 25 (by decide) rfl; simp only [N.aP, List.foldl_cons, List.foldl_nil, Act.put, List.setIfInBounds_toArray, List.set_cons_succ, List.set_cons_zero, xg]; replace hI : (fun a => Below wb.heap.size wb a) wc := hI; clear hV xg; have aR := ak (bG.o.later hI); have bO := ak (bh.o.later hI); have cB := ak (bI.o.later hI); have bB := ak (bH.o.trans (hI.mono bH.o.size)); clear hI
  cases ha : above s [r.node] with
  | true =>
   have HA := ak ha; clear ha; have bf : Hid (F = (s, 1)) := ak (by rw [HF.o]; unfold iz; rw [lg.o, if_neg (by decide), if_neg HE.o, HA.o]; rfl)
   go_wp2_with fail
   go_returns
   exact ⟨aL (by rw [bf.o]), by rw [bf.o]; exact Step.same aR.o bB.o⟩
  | false =>
   have HA := ak ha; clear ha
   go_upto_region 3 with (fail)
   refine N.rb 7 [7] (H7 s y r b w.heap.size) wc (fun V => [(some 33, V 0), (some 34, V 1), (some 35, V 2), (some 36, V 3), (some 37, V 4), (some 38, V 5), (some 39, V 6), (some 32, V 7)]) ?_ ?_
   ·intro i o ho
    have hi : i < 8 := (Array.getElem?_eq_some_iff.1 ho).1; rcases i with _ | _ | _ | _ | _ | _ | _ | _ | i
    rotate_right
    ·omega
    all_goals obtain rfl := Option.some.inj ho
    all_goals intro ρ wi hE hI hs hd
    all_goals try dsimp only at hI
    ·have e0 : ρ (.tmp 0) = (au b) := hs 0; exact N.gw hI
    ·obtain ⟨_, rfl, Bk⟩ := hd 0 33; exact N.gw hI
    ·obtain ⟨_, rfl, Bj⟩ := hd 1 34
     exact N.Gives.value (v := s.val y) (w' := wi) (aQ _ _ rfl _ _ (by assumption) (aS (aR.o.later hI))) (N.bA.same hI rfl)
    ·have e3 : ρ (.tmp 3) = (au w.heap.size) := hs 3; exact N.gw hI
    ·obtain ⟨_, rfl, r8⟩ := hd 3 36; have x0 := (bO.o.later hI).cell (j := 9) rfl; exact N.gw hI
    ·obtain ⟨_, rfl, r9⟩ := hd 2 35; obtain ⟨_, rfl, zi⟩ := hd 4 37; have hf := hE.func
     refine N.Gives.call (f := 13) (args := #[s.val y, iv r.cell]) (w' := wi) (by go_simp) ?_; refine (jG s y r.cell wi (aR.o.later hI).sees).mono ?_; rintro e w'' ⟨rfl, hbb⟩; exact ⟨_, rfl, ⟨rfl, hI.trans (hbb.mono hI.size), fun j u _ _ h => N.tz h⟩⟩
    ·obtain ⟨_, rfl, e38⟩ := hd 5 38; exact N.gw hI
    obtain ⟨_, rfl, e39⟩ := hd 6 39; exact N.gw hI
   intro V wd hV hI
   have jr : V 7 = .bool (!(owns s r.cell)) := hV 7 (by decide) rfl; simp only [N.aP, List.foldl_cons, List.foldl_nil, Act.put, List.setIfInBounds_toArray, List.set_cons_succ, List.set_cons_zero, jr]; replace hI : (fun a => Below wc.heap.size wc a) wd := hI; clear hV jr; have cu := ak (aR.o.later hI); have fT := ak (bO.o.later hI); have jR := ak (cB.o.later hI); have ez := ak (bB.o.trans (hI.mono bB.o.size)); clear hI
   cases hw : owns s r.cell with
   | false =>
    have HW := ak hw; clear hw; have bf : Hid (F = (s, 8)) := ak (by rw [HF.o]; unfold iz; rw [lg.o, if_neg (by decide), if_neg HE.o, HA.o, HW.o]; rfl)
    go_wp2_with fail
    go_returns
    exact ⟨aL (by rw [bf.o]), by rw [bf.o]; exact Step.same cu.o ez.o⟩
   | true =>
    have HW := ak hw; clear hw
    go_upto_region 5 with (fail)
    refine N.rb 6 [6] (H6 s y r b w.heap.size) wd (fun V => [(some 41, V 0), (some 42, V 1), (some 43, V 2), (some 44, V 3), (some 45, V 4), (some 46, V 5), (some 40, V 6)]) ?_ ?_
    ·intro i o ho
     have hi : i < 7 := (Array.getElem?_eq_some_iff.1 ho).1; rcases i with _ | _ | _ | _ | _ | _ | _ | i
     rotate_right
     ·omega
     all_goals obtain rfl := Option.some.inj ho
     all_goals intro ρ wi hE hI hs hd
     all_goals try dsimp only at hI
     ·have e0 : ρ (.tmp 0) = (au b) := hs 0; exact N.gw hI
     ·obtain ⟨_, rfl, zA⟩ := hd 0 41; exact N.gw hI
     ·obtain ⟨_, rfl, DJ⟩ := hd 1 42
      exact N.Gives.value (v := s.val y) (w' := wi) (aQ _ _ rfl _ _ (by assumption) (aS (cu.o.later hI))) (N.bA.same hI rfl)
     ·have e3 : ρ (.tmp 3) = (au w.heap.size) := hs 3; exact N.gw hI
     ·obtain ⟨_, rfl, uO⟩ := hd 3 44; have x0 := (fT.o.later hI).cell (j := 9) rfl; exact N.gw hI
     ·obtain ⟨_, rfl, uP⟩ := hd 2 43; obtain ⟨_, rfl, DI⟩ := hd 4 45; have hf := hE.func
      refine N.Gives.call (f := 15) (args := #[s.val y, iv r.cell]) (w' := wi) (by go_simp) ?_; refine (j6 s y r.cell wi (cu.o.later hI).sees ⟨Nat.le_trans dU.o.ay (by decide), fun p hp => Nat.le_trans (dU.o.pin p hp).1 (by decide)⟩).mono ?_; rintro e w'' ⟨rfl, hbb⟩; exact ⟨_, rfl, ⟨rfl, hI.trans (hbb.mono hI.size), fun j u _ _ h => N.tz h⟩⟩
     obtain ⟨_, rfl, F4⟩ := hd 5 46; exact N.gw hI
    intro V we hV hI
    have qU : V 6 = .bool (locked s r.cell) := hV 6 (by decide) rfl; simp only [N.aP, List.foldl_cons, List.foldl_nil, Act.put, List.setIfInBounds_toArray, List.set_cons_succ, List.set_cons_zero, qU]; replace hI : (fun a => Below wd.heap.size wd a) we := hI; clear hV qU; have fV := ak (cu.o.later hI); have lF := ak (fT.o.later hI); have vO := ak (jR.o.later hI); have jC := ak (ez.o.trans (hI.mono ez.o.size)); clear hI
    cases hl : locked s r.cell with
    | true =>
     have HL := ak hl; clear hl; have bf : Hid (F = (s, 12)) := ak (by rw [HF.o]; unfold iz; rw [lg.o, if_neg (by decide), if_neg HE.o, HA.o, HW.o, HL.o]; rfl)
     go_wp2_with fail
     go_returns
     exact ⟨aL (by rw [bf.o]), by rw [bf.o]; exact Step.same fV.o jC.o⟩
    | false =>
     have HL := ak hl; clear hl; obtain ⟨pb, k, pl, hP, hk, hkl, hpl, hpa⟩ := fV.o.place lg.o; have dX := ak (And.intro hP (And.intro hk (And.intro hkl hpl))); have rQ := ak hpa; clear hP hk hkl hpl hpa
     go_upto_region 7 with (fail)
     refine N.rb 13 [13] (Hz s y r b w.heap.size pb k pl) we (fun V => [(some 48, V 0), (some 49, V 1), (some 50, V 2), (some 51, V 3), (some 52, V 4), (some 53, V 5), (some 54, V 6), (some 55, V 7), (some 56, V 8), (some 57, V 9), (some 58, V 10), (some 59, V 11), (some 60, V 12), (some 47, V 13)]) ?_ ?_
     ·intro i o ho
      have hi : i < 14 := (Array.getElem?_eq_some_iff.1 ho).1; rcases i with _ | _ | _ | _ | _ | _ | _ | _ | _ | _ | _ | _ | _ | _ | i
      rotate_right
      ·omega
      all_goals obtain rfl := Option.some.inj ho
      all_goals intro ρ wi hE hI hs hd
      all_goals try dsimp only at hI
      all_goals (have e3 : ρ (.tmp 3) = (au w.heap.size) := hs 3)
      ·exact N.gw hI
      ·obtain ⟨_, rfl, Jh⟩ := hd 0 48; have x0 := (lF.o.later hI).cell (j := 11) rfl; exact N.gw hI
      ·have e0 : ρ (.tmp 0) = (au b) := hs 0; exact N.gw hI
      ·obtain ⟨_, rfl, e50⟩ := hd 2 50; exact N.gw hI
      ·obtain ⟨_, rfl, Xm⟩ := hd 3 51; exact N.gw hI
      ·obtain ⟨_, rfl, e52⟩ := hd 4 52; have x0 := (fV.o.later hI).br.cell (j := 4) rfl; exact N.gw hI
      ·exact N.gw hI
      ·obtain ⟨_, rfl, Xk⟩ := hd 6 54; have x0 := (lF.o.later hI).cell (j := 9) rfl; exact N.gw hI
      ·obtain ⟨_, rfl, Xl⟩ := hd 5 53; obtain ⟨_, rfl, e55⟩ := hd 7 55; have hP := dX.o.1; have hk := dX.o.2.1; have hkl := dX.o.2.2.1; exact N.gw hI
      ·obtain ⟨_, rfl, e56⟩ := hd 8 56; exact N.gw hI
      ·obtain ⟨_, rfl, e57⟩ := hd 9 57; have x0 := (fV.o.later hI).bg dX.o.1 dX.o.2.2.2 (j := 1) rfl; exact N.gw hI
      ·obtain ⟨_, rfl, e58⟩ := hd 10 58; have hc := hE.const; exact N.gw hI
      ·obtain ⟨_, rfl, U5⟩ := hd 1 49; obtain ⟨_, rfl, e59⟩ := hd 11 59; exact N.gw hI
      obtain ⟨_, rfl, e60⟩ := hd 12 60; exact N.gw hI
     intro V wf hV hI
     have VN : V 13 = .bool (r.hop != (IntKind.i64.wrap (pl.hop + 1))) := hV 13 (by decide) rfl; simp only [N.aP, List.foldl_cons, List.foldl_nil, Act.put, List.setIfInBounds_toArray, List.set_cons_succ, List.set_cons_zero, VN]; replace hI : (fun a => Below we.heap.size we a) wf := hI; clear hV VN; have Tn := ak (fV.o.later hI); have Wo := ak (lF.o.later hI); have aax := ak (vO.o.later hI); have TD := ak (jC.o.trans (hI.mono jC.o.size)); clear hI; obtain ⟨nh, XT⟩ := ah (IntKind.i64.wrap (pl.hop + 1)); have HNH := ak XT; simp only [XT]; clear XT
     by_cases h1 : r.hop = nh
     ·have rS := ak h1
      have bf : Hid (F = (kK s k pl 2 r.hop r.node 0 0 true true true false false, 0)) := ak (by
       rw [HF.o]; unfold iz bJ kK; rw [lg.o, if_neg (by decide), if_neg HE.o, HA.o, HW.o, HL.o, rQ.o, HNH.o, dX.o.2.1, Int.toNat_natCast]
       simp [rS.o])
      go_upto_region 9 with (fail)
      refine N.rb 7 [7] (Hy s y r b w.heap.size pb k) wf (fun V => [(some 61, V 0), (some 62, V 1), (some 63, V 2), (some 64, V 3), (some 65, V 4), (some 66, V 5), (some 67, V 6), (some 5, V 7)]) ?_ ?_
      ·intro i o ho
       have hi : i < 8 := (Array.getElem?_eq_some_iff.1 ho).1; rcases i with _ | _ | _ | _ | _ | _ | _ | _ | i
       rotate_right
       ·omega
       all_goals obtain rfl := Option.some.inj ho
       all_goals intro ρ wi hE hI hs hd
       all_goals try dsimp only at hI
       ·have e0 : ρ (.tmp 0) = (au b) := hs 0; exact N.gw hI
       ·obtain ⟨_, rfl, e61⟩ := hd 0 61; exact N.gw hI
       ·obtain ⟨_, rfl, e62⟩ := hd 1 62; exact N.gw hI
       ·obtain ⟨_, rfl, e63⟩ := hd 2 63; have x0 := (Tn.o.later hI).br.cell (j := 4) rfl; exact N.gw hI
       ·have e3 : ρ (.tmp 3) = (au w.heap.size) := hs 3; exact N.gw hI
       ·obtain ⟨_, rfl, e65⟩ := hd 4 65; have x0 := (Wo.o.later hI).cell (j := 9) rfl; exact N.gw hI
       ·obtain ⟨_, rfl, Yk⟩ := hd 3 64; obtain ⟨_, rfl, e66⟩ := hd 5 66; have hP := dX.o.1; have hk := dX.o.2.1; have hkl := dX.o.2.2.1; exact N.gw hI
       obtain ⟨_, rfl, e67⟩ := hd 6 67; exact N.gw hI
      intro V wg hV hI
      have jr : V 7 = .pointer (some ⟨pb, k * 5, none⟩) := hV 7 (by decide) rfl; simp only [N.aP, List.foldl_cons, List.foldl_nil, Act.put, List.setIfInBounds_toArray, List.set_cons_succ, List.set_cons_zero, jr]; replace hI : (fun a => Below wf.heap.size wf a) wg := hI; clear hV jr; have aas := ak (Tn.o.later hI); have aap := ak (Wo.o.later hI); have afW := ak (aax.o.later hI); have aaC := ak (TD.o.trans (hI.mono TD.o.size)); clear hI; have HI : Own base wg.drew b (kK s k pl 2 r.hop r.node 0 0 false false false false false) y /\ Only (fun j => some j = blk y.P) wg wg.drew /\ Cells wg.drew w.heap.size 51 (r.vals z) := ⟨by rw [xD dX.o.2.2.2]; exact aas.o.later (Below.refl _ _).drew, Only.of_below (Below.refl _ _).drew, aap.o.later (Below.refl _ _).drew⟩
      go_upto_region 10 with (fail)
      refine N.bk (by kernel_rfl) (fun i => ([some (.pointer (some ⟨pb, k * 5, none⟩)), some (.pointer (some ⟨pb, k * 5, none⟩)), some (.pointer (some ⟨pb, k * 5, none⟩)), some (.pointer (some ⟨w.heap.size, 11, none⟩)), some (iv r.hop), some (.pointer (some ⟨w.heap.size, 6, none⟩)), some (iv r.node), some (.pointer (some ⟨pb, k * 5, none⟩)), some (.pointer (some ⟨pb, k * 5, none⟩)), none, some (.pointer (some ⟨pb, k * 5, none⟩)), some (.pointer (some ⟨pb, k * 5 + 1, none⟩)), none, some (.pointer (some ⟨pb, k * 5, none⟩)), some (.pointer (some ⟨pb, k * 5 + 2, none⟩)), none] : List (Option Value)).getD i none) (fun D V W => Own base W b (kK s k pl 2 r.hop r.node 0 0 (D 9) (D 12) (D 15) false false) y /\ Only (fun j => some j = blk y.P) wg W /\ Cells W w.heap.size 51 (r.vals z)) (fun V => [(some 68, V 0), (some 69, V 1), (some 70, V 2), (some 71, V 3), (some 72, V 4), (some 73, V 5), (some 74, V 6), (some 75, V 7), (some 76, V 8), (none, V 9), (some 77, V 10), (some 78, V 11), (none, V 12), (some 79, V 13), (some 80, V 14), (none, V 15)]) (by kernel_rfl) (by kernel_rfl) (fun V => rfl) ?_ ?_ ?_
      ·intro V
       exact HI
      ·intro i o ho
       have hi : i < 16 := (Array.getElem?_eq_some_iff.1 ho).1; rcases i with _ | _ | _ | _ | _ | _ | _ | _ | _ | _ | _ | _ | _ | _ | _ | _ | i
       rotate_right
       ·omega
       all_goals obtain rfl := Option.some.inj ho
       all_goals intro D V ρ wi hE hI cP hT hF hs hd hk
       all_goals (have e5 : ρ (.tmp 5) = .pointer (some ⟨pb, k * 5, none⟩) := hs 5; have e3 : ρ (.tmp 3) = (au w.heap.size) := hs 3)
       ·clear hT hF hk
        exact N.gi _ ⟨fun _ => N.oi, hI⟩
       ·clear hT hF hk
        exact N.gi _ ⟨fun _ => N.oi, hI⟩
       ·clear hT hF hk
        exact N.gi _ ⟨fun _ => N.oi, hI⟩
       ·clear hT hF hk
        exact N.gi _ ⟨fun _ => N.oi, hI⟩
       ·have e71 := (hd 3 71).trans (hk 3 _ rfl); clear hT hF; have x0 := hI.2.2.cell (j := 11) rfl
        exact N.gi _ ⟨fun _ => N.oi, hI⟩
       ·clear hT hF hk
        exact N.gi _ ⟨fun _ => N.oi, hI⟩
       ·have e73 := (hd 5 73).trans (hk 5 _ rfl); clear hT hF; have x0 := hI.2.2.cell (j := 6) rfl
        exact N.gi _ ⟨fun _ => N.oi, hI⟩
       ·have e68 := (hd 0 68).trans (hk 0 _ rfl); clear hT hF hk
        exact N.gi _ ⟨fun _ => N.oi, hI⟩
       ·have e75 := (hd 7 75).trans (hk 7 _ rfl); clear hT hF hk
        exact N.gi _ ⟨fun _ => N.oi, hI⟩
       ·have e76 := (hd 8 76).trans (hk 8 _ rfl); have hc := hE.const; have d_ : D 9 = false := cP; clear hT hF
        rw [d_] at hI; have x0 := hI.1.bg dX.o.1 (iV dX.o.2.2.1) (j := 0) rfl; have x1 := hI.1.gP dX.o.1 (k := k) (by rw [gT]; exact dX.o.2.2.1) (j := 0) (by decide); rw [Nat.add_zero] at x0 x1; obtain ⟨i1, i2⟩ := JZ hI.1 dX.o.1 dX.o.2.2.1; rw [Nat.add_zero] at i1 i2; exact N.Gives.skip (w' := wi.setCell ⟨pb, k * 5, none⟩ (iv (2))) (by go_simp) ⟨fun x h => (by cases h), by show Own base (wi.setCell ⟨pb, k * 5, none⟩ (iv (2))) b (kK s k pl 2 r.hop r.node 0 0 true (D 12) (D 15) false false) y /\ Only (fun j => some j = blk y.P) wg (wi.setCell ⟨pb, k * 5, none⟩ (iv (2))) /\ Cells (wi.setCell ⟨pb, k * 5, none⟩ (iv (2))) w.heap.size 51 (r.vals z); exact ⟨i1, hI.2.1.trans i2 fun _ _ e => e, aJ hI.2.2 i2 UD.o⟩⟩
       ·have e69 := (hd 1 69).trans (hk 1 _ rfl); clear hT hF hk
        exact N.gi _ ⟨fun _ => N.oi, hI⟩
       ·have Yj := (hd 10 77).trans (hk 10 _ rfl); clear hT hF hk
        exact N.gi _ ⟨fun _ => N.oi, hI⟩
       ·have e78 := (hd 11 78).trans (hk 11 _ rfl); have Un := (hd 4 72).trans (hk 4 _ rfl); have D8 : D 12 = false := cP; clear hT hF
        rw [D8] at hI; have x0 := hI.1.bg dX.o.1 (iV dX.o.2.2.1) (j := 1) rfl; have x1 := hI.1.gP dX.o.1 (k := k) (by rw [gT]; exact dX.o.2.2.1) (j := 1) (by decide); obtain ⟨i1, i2⟩ := JY hI.1 dX.o.1 dX.o.2.2.1; exact N.Gives.skip (w' := wi.setCell ⟨pb, k * 5 + 1, none⟩ (iv (r.hop))) (by go_simp) ⟨fun x h => (by cases h), by show Own base (wi.setCell ⟨pb, k * 5 + 1, none⟩ (iv (r.hop))) b (kK s k pl 2 r.hop r.node 0 0 (D 9) true (D 15) false false) y /\ Only (fun j => some j = blk y.P) wg (wi.setCell ⟨pb, k * 5 + 1, none⟩ (iv (r.hop))) /\ Cells (wi.setCell ⟨pb, k * 5 + 1, none⟩ (iv (r.hop))) w.heap.size 51 (r.vals z); exact ⟨i1, hI.2.1.trans i2 fun _ _ e => e, aJ hI.2.2 i2 UD.o⟩⟩
       ·have e70 := (hd 2 70).trans (hk 2 _ rfl); clear hT hF hk
        exact N.gi _ ⟨fun _ => N.oi, hI⟩
       ·have e79 := (hd 13 79).trans (hk 13 _ rfl); clear hT hF hk
        exact N.gi _ ⟨fun _ => N.oi, hI⟩
       have Yi := (hd 14 80).trans (hk 14 _ rfl); have e74 := (hd 6 74).trans (hk 6 _ rfl); have bR : D 15 = false := cP; clear hT hF
       rw [bR] at hI; have x0 := hI.1.bg dX.o.1 (iV dX.o.2.2.1) (j := 2) rfl; have x1 := hI.1.gP dX.o.1 (k := k) (by rw [gT]; exact dX.o.2.2.1) (j := 2) (by decide); obtain ⟨i1, i2⟩ := JX hI.1 dX.o.1 dX.o.2.2.1; exact N.Gives.skip (w' := wi.setCell ⟨pb, k * 5 + 2, none⟩ (iv (r.node))) (by go_simp) ⟨fun x h => (by cases h), by show Own base (wi.setCell ⟨pb, k * 5 + 2, none⟩ (iv (r.node))) b (kK s k pl 2 r.hop r.node 0 0 (D 9) (D 12) true false false) y /\ Only (fun j => some j = blk y.P) wg (wi.setCell ⟨pb, k * 5 + 2, none⟩ (iv (r.node))) /\ Cells (wi.setCell ⟨pb, k * 5 + 2, none⟩ (iv (r.node))) w.heap.size 51 (r.vals z); exact ⟨i1, hI.2.1.trans i2 fun _ _ e => e, aJ hI.2.2 i2 UD.o⟩⟩
      intro V wh hk hI
      simp only [N.aP, List.foldl_cons, List.foldl_nil, Act.put, List.setIfInBounds_toArray, List.set_cons_succ, List.set_cons_zero]; replace hI : Own base wh b (kK s k pl 2 r.hop r.node 0 0 true true true false false) y /\ Only (fun j => some j = blk y.P) wg wh /\ Cells wh w.heap.size 51 (r.vals z) := hI; clear hk; have HN := ak hI; clear hI HI
      go_wp2_with fail
      go_returns
      exact ⟨aL (by rw [bf.o]), by rw [bf.o]; exact ⟨y, HN.o.1, (Only.of_below aaC.o).trans HN.o.2.1 fun _ _ e => Or.inr (Or.inl e), fun k e => Or.inl e⟩⟩
     have rS := ak h1
     have bf : Hid (F = (s, 10)) := ak (by rw [HF.o]; unfold iz; rw [lg.o, if_neg (by decide), if_neg HE.o, HA.o, HW.o, HL.o, rQ.o, HNH.o]; simp [rS.o])
     go_wp2_with fail
     go_returns
     exact ⟨aL (by rw [bf.o]), by rw [bf.o]; exact Step.same Tn.o TD.o⟩
