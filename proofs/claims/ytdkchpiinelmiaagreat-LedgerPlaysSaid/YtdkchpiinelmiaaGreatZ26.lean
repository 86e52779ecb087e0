/- Part 26 of the proof. Conditions: none. -/
import Derived.Test.YtdkchpiinelmiaaGreatZ22
namespace Go.Proofs.YtdkchpiinelmiaaGreat.Led
set_option maxRecDepth 100000
open Go.RowKit Go.Deep Mem fN Rec
section
variable {base b : Nat} {s : St} {y : Sy} {w w0 w1 w' : World}
theorem GD {A : Option Addr} {c : Nat} {cs' : List Lay} {n j : Nat} (hnew : ∀ j, blk A = some j -> blk y.C = some j \/ n <= j) (e : rowsOf { y with C := A, c := c, cs := cs' } j) : rowsOf y j \/ n <= j := by
 rcases e with e | e | e | e
 ·exact Or.inl (Or.inl e)
 ·exact Or.inl (Or.inr (Or.inl e))
 ·exact Or.inl (Or.inr (Or.inr (Or.inl e)))
 exact (grown hnew e).imp_left fun h => Or.inr (Or.inr (Or.inr h))
theorem frC {A : Option Addr} {c : Nat} {cs' : List Lay} {x : List It} {n : List Int} {lay : Lay} (ho : Only (fun k => some k = blk y.C) w w1) (hnew : ∀ j, blk A = some j -> blk y.C = some j \/ w.heap.size <= j) (hf : Fr (fun j => sb b j \/ rowsOf y j) w x n lay) : Fr (fun j => sb b j \/ rowsOf { y with C := A, c := c, cs := cs' } j) w1 x n lay :=
 hf.next (ho.mono fun _ _ e => Or.inr (Or.inr (Or.inr (Or.inr e)))) fun j e => by
  rcases e with e | e
  ·exact Or.inl (Or.inl e)
  exact (GD hnew e).imp_left Or.inr
def vM (base b : Nat) (y : Sy) (l' : List Co) (cs' : List Lay) (w0 : World) (v : Value) (w : World) : Prop := ∃ A c, v = .slice A l'.length c /\ w.ownsRow base 80 6 (.slice A l'.length c) l'.length (List.zipWith Co.vals l' cs').flatten /\ Only (fun k => some k = blk y.C) w0 w /\ (∀ j, blk A = some j -> blk y.C = some j \/ w0.heap.size <= j) /\ cs'.length = l'.length /\
 ∀ k (h : k < l'.length) (h' : k < cs'.length), Fr (fun j => sb b j \/ rowsOf { y with C := A, c := c, cs := cs' } j) w l'[k].items l'[k].nodes cs'[k]
theorem EN {l' : List Co} {cs' : List Lay} {v : Value} (h0 : Own base w0 b s y) (h : vM base b y l' cs' w0 v w) : Step base b s y w0 { s with com := l' } (w.setCell ⟨b, 7, none⟩ v) := by
 obtain ⟨A, c, rfl, h1, h2, h3, h4, h5⟩ := h; have cV := aJ h0.br h2 (fun e => h0.off (Or.inr (Or.inr (Or.inr e)))); refine ⟨_, h0.newC (l' := l') h2 h1 h4 h3 h5 (Only.b_ w ⟨b, 7, none⟩ _) (cV.fB 7 _), (h2.mono fun k _ e => Or.inr (Or.inr (Or.inr (Or.inr e)))).trans (Only.b_ w ⟨b, 7, none⟩ _) fun k _ e => Or.inl e, fun k e => ?_⟩; rcases e with e | e
 ·exact Or.inl (Or.inl e)
 exact (GD h3 e).imp_left Or.inr
theorem Az {l' : List Co} {cs' : List Lay} {v : Value} (h0 : Own base w0 b s y) (h : vM base b y l' cs' w0 v w) : ∃ A n c, v = .slice A n c /\ w.cell? ⟨b, 7, none⟩ = some (.slice y.C s.com.length y.c) /\ w.frozen? ⟨b, 7, none⟩ = false := by
 obtain ⟨A, c, rfl, h1, h2, h3, _⟩ := h; have cV := aJ h0.br h2 (fun e => h0.off (Or.inr (Or.inr (Or.inr e)))); exact ⟨A, _, c, rfl, cV.cell (j := 7) rfl, cV.frozen (j := 7) (by unfold St.vals; simp)⟩
def KC (b : Nat) (y : Sy) (p : Co) (w0 : World) (v : Value) (W : World) : Prop := Below w0.heap.size w0 W /\ ∃ lay, v = .agg (p.vals lay).toArray /\ Fr (fun j => sb b j \/ rowsOf y j) W p.items p.nodes lay
def KB (b : Nat) (y : Sy) (p : Co) (w0 : World) (v : Value) (W : World) : Prop := Below w0.heap.size w0 W /\ ∃ lay g, v = .slice (some ⟨g, 0, none⟩) 1 1 /\ Cells W g 80 (p.vals lay) /\ Fr (fun j => sb b j \/ rowsOf y j) W p.items p.nodes lay
theorem KC.make {p : Co} {lay : Lay} (h : Own base w b s y) (hb : Below w0.heap.size w0 w) (hf : qZ w.heap.size w' p.items p.nodes lay) (hb' : Below w.heap.size w w') : KC b y p w0 (.agg (p.vals lay).toArray) w' :=
 ⟨hb.trans (hb'.mono hb.size), lay, rfl, (Fr.mF hf).next (Only.refl _ _) fun _ e => Or.inl (h.KJ e)⟩
theorem KB.append {p : Co} {v : Value} (h0 : Own base w0 b s y) (hbase : base <= w0.heap.size) (hs : s.com.length <= 100000) (h : KB b y p w0 v w) : ∃ v' w', (Builtin.append_ #[30, 30] 30 #[.slice y.C s.com.length y.c, v]).run Tryz.prog w = .ok v' w' /\ ∃ cs', vM base b y (s.com ++ [p]) cs' w0 v' w' := by
 obtain ⟨hb, lay, g, rfl, hg, hf⟩ := h; have h := h0.later hb; have hcs := h.lists.cs; have hzl := cY Co.vals hcs; have hfx : Fit 6 [p.vals lay] := ⟨fun u hu => by rw [List.mem_singleton.1 hu]; rfl, fun u hu => by rw [List.mem_singleton.1 hu]; exact vQ p lay⟩; obtain ⟨v', w', hrun, hr2, hgr, hnew⟩ := aZ GV w 30 base (.slice y.C s.com.length y.c) (List.zipWith Co.vals s.com y.cs) [p.vals lay] (some ⟨g, 0, none⟩) 1 (iI _ _) hfx (by rw [hzl]; exact h.lists.jw) (cW (by simpa using hg) hfx.len) (fun e => by cases e) (by rw [hzl, List.length_singleton]; omega) (Nat.le_trans hbase hb.size); have e1 : List.zipWith Co.vals s.com y.cs ++ [p.vals lay] = List.zipWith Co.vals (s.com ++ [p]) (y.cs ++ [lay]) := by rw [List.zipWith_append hcs.symm]; rfl
 have hlen : (y.cs ++ [lay]).length = (s.com ++ [p]).length := by rw [List.length_append, List.length_append, hcs]; rfl
 rw [e1, cY Co.vals hlen] at hr2; obtain ⟨A, c, rfl⟩ := bD hr2; have hgo := Only.fP hgr; rw [aK, aK] at hnew; have vI : Only (fun k => some k = blk y.C) w w' := hgo.mono fun k _ e => by rw [aK] at e; exact e
 have tU : Only (fun k => some k = blk y.C) w0 w' := (Only.of_below hb).trans vI fun _ _ e => e
 have DA : ∀ j, blk A = some j -> blk y.C = some j \/ w.heap.size <= j := fun j e => by
  rcases hnew with e2 | e2
  ·exact Or.inl (e2.symm.trans e)
  have : j = w.heap.size := Option.some.inj (e.symm.trans e2)
  exact Or.inr (by omega)
 refine ⟨_, w', hrun, y.cs ++ [lay], A, c, rfl, hr2, tU, fun j e => (DA j e).imp_right fun h => Nat.le_trans hb.size h, hlen, fun j h1 h2 => ?_⟩
 by_cases hlt : j < s.com.length
 ·rw [List.getElem_append_left hlt, List.getElem_append_left (by omega)]
  exact frC vI DA (h.lists.cin j hlt (by omega))
 have hj : j = s.com.length := by simp at h1; omega
 subst hj; rw [List.getElem_append_right (Nat.le_refl _), List.getElem_append_right (by omega)]; simp only [Nat.sub_self, hcs, List.getElem_singleton]; exact frC vI DA hf
end
def dw (r : Rc) : Co := ⟨r.tid, r.items, r.nodes, false⟩
def cQ (s : St) (r : Rc) : St × Int := if r.tid.node ≠ s.node then (s, 1) else if above s r.nodes = true then (s, 1) else if 0 <= cE s r.tid then (s, 9) else if 512 <= s.com.length then (s, 6) else ({ s with com := s.com ++ [dw r] }, 0)
def EB (s : St) (r : Rc) (b : Nat) (g : Nat) : Nat -> Value -> World -> Prop := N.tb [.inl (.pointer (some ⟨g, 1, none⟩)), .inl (.pointer (some ⟨g, 1, none⟩)), .inl (.int .i64 r.tid.node), .inl (.pointer (some ⟨b, 0, none⟩)), .inl (.pointer (some ⟨b, 0, none⟩)), .inl (.pointer (some ⟨b, 0, none⟩)), .inl (.int .i64 s.node), .inl (.bool true), .inl (.bool true), .inl (undef), .inl (undef), .inl (undef), .inl (undef), .inl (undef), .inl (undef), .inl (.bool true), .inl (.bool true)]
def EA (s : St) (y : Sy) (r : Rc) (z : Lay) (b : Nat) (g : Nat) : Nat -> Value -> World -> Prop := N.tb [.inl (.pointer (some ⟨g, 1, none⟩)), .inl (.pointer (some ⟨g, 1, none⟩)), .inl (.int .i64 r.tid.node), .inl (.pointer (some ⟨b, 0, none⟩)), .inl (.pointer (some ⟨b, 0, none⟩)), .inl (.pointer (some ⟨b, 0, none⟩)), .inl (.int .i64 s.node), .inl (.bool false), .inl (.bool false), .inl (.pointer (some ⟨b, 0, none⟩)), .inl (.pointer (some ⟨b, 0, none⟩)), .inl (s.val y), .inl (.pointer (some ⟨g, 5, none⟩)), .inl (.slice z.B r.nodes.length z.d), .inl (.bool (above s r.nodes)), .inl (.bool (above s r.nodes)), .inl (.bool (above s r.nodes))]
def Ih (s : St) (y : Sy) (r : Rc) (b : Nat) (g : Nat) : Nat -> Value -> World -> Prop := N.tb [.inl (.pointer (some ⟨b, 0, none⟩)), .inl (.pointer (some ⟨b, 0, none⟩)), .inl (s.val y), .inl (.pointer (some ⟨g, 1, none⟩)), .inl (.agg #[.int .i64 r.tid.node, .int .i64 r.tid.epoch, .int .i64 r.tid.seq]), .inl (.int .i64 (cE s r.tid)), .inl (.bool (decide (0 <= (cE s r.tid)))), .inl (.bool (decide (0 <= (cE s r.tid))))]
set_option maxHeartbeats 4000000 in
theorem AY (s : St) (y : Sy) (r : Rc) (z : Lay) (base b : Nat) (w : World) (ho : Own base w b s y) (hh : Two w r.items r.nodes z) (hs : Small s) (hr : r.items.length <= 1000 /\ r.nodes.length <= 1000) :
  Calls Tryz.prog 61 #[(au b), r.val z] w fun e w' => e = .returned (iv (cQ s r).2) /\ Step base b s y w (cQ s r).1 w' := by
 obtain ⟨wb, hwb⟩ := aj (w.alloc (.cells #[iv r.kind, iv r.tid.node, iv r.tid.epoch, iv r.tid.seq, .slice z.A r.items.length z.c, .slice z.B r.nodes.length z.d, iv r.node, iv r.count, iv r.num, iv r.cell, iv r.status, iv r.hop, iv r.version, iv r.value, .bool r.yes] 51)); have hb : Below w.heap.size w wb := by rw [hwb]; exact av _ _
 have bG := ak (ho.later hb); have bh : Hid (Cells wb w.heap.size 51 (r.vals z)) := ak (by rw [hwb]; exact aB _ _ _ _ rfl); have bI := ak (hh.later hb); have bH := ak hb; have dU := ak hs; have dP := ak hr; have F9 : Hid (base <= w.heap.size) := ak (Nat.le_trans ho.low (Nat.le_of_lt ho.br.lt)); obtain ⟨F, hF⟩ := ah (cQ s r); have HF := ak hF.symm; rw [hF]; unfold Rc.val; clear ho hh hs hr hb hF
 go_enter Tryz.func61, Tryz.ntmps61
 go_wp2_with fail
 rw [<- hwb]; clear hwb
 by_cases he : r.tid.node = s.node
 ·have HE := ak he
  clear he; refine N.rb 16 [16] (EA s y r z b w.heap.size) wb (fun V => [(some 7, V 0), (some 8, V 1), (some 9, V 2), (some 10, V 3), (some 11, V 4), (some 12, V 5), (some 13, V 6), (some 14, V 7), (some 15, V 8), (some 16, V 9), (some 17, V 10), (some 18, V 11), (some 19, V 12), (some 20, V 13), (some 21, V 14), (some 22, V 15), (some 6, V 16)]) ?_ ?_
  ·intro i o ho
   have hi : i < 17 := (Array.getElem?_eq_some_iff.1 ho).1; rcases i with _ | _ | _ | _ | _ | _ | _ | _ | _ | _ | _ | _ | _ | _ | _ | _ | _ | i
   rotate_right
   ·omega
   all_goals obtain rfl := Option.some.inj ho
   all_goals intro ρ wi hE hI hs hd
   all_goals try dsimp only at hI
   all_goals (have e3 : ρ (.tmp 3) = (au w.heap.size) := hs 3; have e0 : ρ (.tmp 0) = (au b) := hs 0)
   ·exact N.gw hI
   ·obtain ⟨_, rfl, e7⟩ := hd 0 7; exact N.gw hI
   ·obtain ⟨_, rfl, e8⟩ := hd 1 8; have x0 := (bh.o.later hI).cell (j := 1) rfl; exact N.gw hI
   ·exact N.gw hI
   ·obtain ⟨_, rfl, e10⟩ := hd 3 10; exact N.gw hI
   ·obtain ⟨_, rfl, e11⟩ := hd 4 11; exact N.gw hI
   ·obtain ⟨_, rfl, e12⟩ := hd 5 12; have x0 := (bG.o.later hI).br.cell (j := 0) rfl; exact N.gw hI
   ·obtain ⟨_, rfl, e9⟩ := hd 2 9; obtain ⟨_, rfl, l5⟩ := hd 6 13; have hne := HE.o; exact N.gw hI
   ·obtain ⟨_, rfl, mZ⟩ := hd 7 14; exact N.gw hI
   ·refine N.yes ?_
    exact N.gw hI
   ·obtain ⟨_, rfl, e16⟩ := hd 9 16
    refine N.yes ?_; exact N.gw hI
   ·obtain ⟨_, rfl, e17⟩ := hd 10 17
    refine N.yes ?_; exact N.Gives.value (v := s.val y) (w' := wi) (aQ _ _ rfl _ _ (by assumption) (aS (bG.o.later hI))) (N.bA.same hI rfl)
   ·refine N.yes ?_
    exact N.gw hI
   ·obtain ⟨_, rfl, e19⟩ := hd 12 19
    refine N.yes ?_; have x0 := (bh.o.later hI).cell (j := 5) rfl; exact N.gw hI
   ·obtain ⟨_, rfl, e18⟩ := hd 11 18; obtain ⟨_, rfl, wL⟩ := hd 13 20; have hf := hE.func
    refine N.yes ?_; refine N.Gives.call (f := 89) (args := #[s.val y, .slice z.B r.nodes.length z.d]) (w' := wi) (by go_simp) ?_; refine (fH s y z.B r.nodes z.d wi (bI.o.later hI).2.1 (Nat.le_trans dP.o.2 (by decide))).mono ?_; rintro e w'' ⟨rfl, hbb⟩; exact ⟨_, rfl, ⟨rfl, hI.trans (hbb.mono hI.size), fun j u _ _ h => N.tz h⟩⟩
   ·obtain ⟨_, rfl, mY⟩ := hd 8 15; obtain ⟨_, rfl, ug⟩ := hd 14 21; have hc := hE.const; exact N.gw hI
   obtain ⟨_, rfl, wT⟩ := hd 15 22; exact N.gw hI
  intro V wc hV hI
  have jz : V 16 = .bool (above s r.nodes) := hV 16 (by decide) rfl; simp only [N.aP, List.foldl_cons, List.foldl_nil, Act.put, List.setIfInBounds_toArray, List.set_cons_succ, List.set_cons_zero, jz]; replace hI : (fun a => Below wb.heap.size wb a) wc := hI; clear hV jz; have aR := ak (bG.o.later hI); have bO := ak (bh.o.later hI); have cB := ak (bI.o.later hI); have bB := ak (bH.o.trans (hI.mono bH.o.size)); clear hI
  cases ha : above s r.nodes with
  | true =>
   have HA := ak ha; clear ha; have bf : Hid (F = (s, 1)) := ak (by rw [HF.o]; unfold cQ; rw [if_neg (fun h => h HE.o), HA.o]; rfl)
   go_wp2_with fail
   go_returns
   exact ⟨aL (by rw [bf.o]), by rw [bf.o]; exact Step.same aR.o bB.o⟩
  | false =>
   have HA := ak ha; clear ha
   go_upto_region 3 with (fail)
   refine N.rb 7 [7] (Ih s y r b w.heap.size) wc (fun V => [(some 24, V 0), (some 25, V 1), (some 26, V 2), (some 27, V 3), (some 28, V 4), (some 29, V 5), (some 30, V 6), (some 23, V 7)]) ?_ ?_
   ·intro i o ho
    have hi : i < 8 := (Array.getElem?_eq_some_iff.1 ho).1; rcases i with _ | _ | _ | _ | _ | _ | _ | _ | i
    rotate_right
    ·omega
    all_goals obtain rfl := Option.some.inj ho
    all_goals intro ρ wi hE hI hs hd
    all_goals try dsimp only at hI
    ·have e0 : ρ (.tmp 0) = (au b) := hs 0; exact N.gw hI
    ·obtain ⟨_, rfl, DL⟩ := hd 0 24; exact N.gw hI
    ·obtain ⟨_, rfl, DK⟩ := hd 1 25
     exact N.Gives.value (v := s.val y) (w' := wi) (aQ _ _ rfl _ _ (by assumption) (aS (aR.o.later hI))) (N.bA.same hI rfl)
    ·have e3 : ρ (.tmp 3) = (au w.heap.size) := hs 3; exact N.gw hI
    ·obtain ⟨_, rfl, Bn⟩ := hd 3 27; have x0 := (bO.o.later hI).cell (j := 1) rfl; have x1 := (bO.o.later hI).cell (j := 2) rfl; have x2 := (bO.o.later hI).cell (j := 3) rfl; exact N.gw hI
    ·obtain ⟨_, rfl, zj⟩ := hd 2 26; obtain ⟨_, rfl, Bl⟩ := hd 4 28; have hf := hE.func
     refine N.Gives.call (f := 23) (args := #[s.val y, .agg #[iv r.tid.node, iv r.tid.epoch, iv r.tid.seq]]) (w' := wi) (by go_simp) ?_; refine (tj s y r.tid wi (aR.o.later hI).sees (Nat.le_trans dU.o.com (by decide))).mono ?_; rintro e w'' ⟨rfl, hbb⟩; exact ⟨_, rfl, ⟨rfl, hI.trans (hbb.mono hI.size), fun j u _ _ h => N.tz h⟩⟩
    ·obtain ⟨_, rfl, wK⟩ := hd 5 29; have hc := hE.const; exact N.gw hI
    obtain ⟨_, rfl, e30⟩ := hd 6 30; exact N.gw hI
   intro V wd hV hI
   have jr : V 7 = .bool (decide (0 <= (cE s r.tid))) := hV 7 (by decide) rfl; simp only [N.aP, List.foldl_cons, List.foldl_nil, Act.put, List.setIfInBounds_toArray, List.set_cons_succ, List.set_cons_zero, jr]; replace hI : (fun a => Below wc.heap.size wc a) wd := hI; clear hV jr; have cu := ak (aR.o.later hI); have fT := ak (bO.o.later hI); have jR := ak (cB.o.later hI); have ez := ak (bB.o.trans (hI.mono bB.o.size)); clear hI
   by_cases h1 : 0 <= cE s r.tid
   ·have rS := ak h1
    have bf : Hid (F = (s, 9)) := ak (by rw [HF.o]; unfold cQ; rw [if_neg (fun h => h HE.o), HA.o, if_pos rS.o]; rfl)
    go_wp2_with fail
    go_returns
    exact ⟨aL (by rw [bf.o]), by rw [bf.o]; exact Step.same cu.o ez.o⟩
   have rS := ak h1
   have hq := cu.o.br; unfold St.vals at hq; have q7 := hq.cell (j := 7) rfl; have hcl := dU.o.com; clear hq
   by_cases h2 : 512 <= s.com.length
   ·have Jq := ak h2
    have h3 : (512 : Int) <= (s.com.length : Int) := by omega
    have bf : Hid (F = (s, 6)) := ak (by rw [HF.o]; unfold cQ; rw [if_neg (fun h => h HE.o), HA.o, if_neg rS.o, if_pos Jq.o]; rfl)
    go_wp2_with fail
    go_returns
    exact ⟨aL (by rw [bf.o]), by rw [bf.o]; exact Step.same cu.o ez.o⟩
   have Jq := ak h2
   have h3 : ¬ (512 : Int) <= (s.com.length : Int) := by omega
   have bf : Hid (F = ({ s with com := s.com ++ [dw r] }, 0)) := ak (by rw [HF.o]; unfold cQ; rw [if_neg (fun h => h HE.o), HA.o, if_neg rS.o, if_neg Jq.o]; rfl); have hx := fT.o; unfold Rc.vals at hx; obtain ⟨x0, x1, x2, x3, x4, x5, x6, x7, x8, x9, x10, eW, eV, eU, dZ⟩ := hx.iZ; clear hx
   go_upto_region 8 with (fail)
   clear h1 h2 h3 q7 hcl x0 x1 x2 x3 x4 x5 x6 x7 x8 x9 x10 eW eV eU dZ; obtain ⟨we, jf⟩ := aj (wd.alloc (.cells #[iv r.tid.node, iv r.tid.epoch, iv r.tid.seq, .slice z.A r.items.length z.c, .slice z.B r.nodes.length z.d, .bool false] 80)); have hI : Below wd.heap.size wd we := by rw [jf]; exact av _ _
   have Gr : Hid (Cells we wd.heap.size 80 [iv r.tid.node, iv r.tid.epoch, iv r.tid.seq, .slice z.A r.items.length z.c, .slice z.B r.nodes.length z.d, .bool false]) := ak (by rw [jf]; exact aB _ _ _ _ rfl); rw [<- jf]; clear jf; have fV := ak (cu.o.later hI); have lF := ak (fT.o.later hI); have vO := ak (jR.o.later hI); have jC := ak (ez.o.trans (hI.mono ez.o.size)); clear hI; have uT : Hid (base <= we.heap.size) := ak (Nat.le_trans F9.o jC.o.size); have HI : Hid (∀ V : Nat -> Value, cond false (Step base b s y we { s with com := s.com ++ [dw r] } we.drew) (cond false (∃ cs', vM base b y (s.com ++ [dw r]) cs' we (V 8) we.drew) (cond false (KB b y (dw r) we (V 7) we.drew) (cond false (KC b y (dw r) we (V 6) we.drew) (Below we.heap.size we we.drew))))) := ak fun V => (Below.refl _ _).drew
   refine N.bk (by kernel_rfl) (fun i => ([some ((au b)), some ((au b)), some ((au b)), some (.pointer (some ⟨b, 7, none⟩)), some (.slice y.C s.com.length y.c), some (.agg #[iv r.tid.node, iv r.tid.epoch, iv r.tid.seq, .slice z.A r.items.length z.c, .slice z.B r.nodes.length z.d, .bool false]), none, none, none, some ((au b)), some (.pointer (some ⟨b, 7, none⟩)), none] : List (Option Value)).getD i none) (fun D V W => cond (D 11) (Step base b s y we { s with com := s.com ++ [dw r] } W) (cond (D 8) (∃ cs', vM base b y (s.com ++ [dw r]) cs' we (V 8) W) (cond (D 7) (KB b y (dw r) we (V 7) W) (cond (D 6) (KC b y (dw r) we (V 6) W) (Below we.heap.size we W))))) (fun V => [(some 45, V 0), (some 46, V 1), (some 47, V 2), (some 48, V 3), (some 49, V 4), (some 50, V 5), (some 51, V 6), (some 52, V 7), (some 53, V 8), (some 54, V 9), (some 55, V 10), (none, V 11)]) (by kernel_rfl) (by kernel_rfl) (fun V => rfl) ?_ ?_ ?_
   ·intro V
    exact HI.o V
   ·intro i o ho
    have hi : i < 12 := (Array.getElem?_eq_some_iff.1 ho).1; rcases i with _ | _ | _ | _ | _ | _ | _ | _ | _ | _ | _ | _ | i
    rotate_right
    ·omega
    all_goals obtain rfl := Option.some.inj ho
    all_goals intro D V ρ wi hE hI cP hT hF hs hd hk
    all_goals (have e0 : ρ (.tmp 0) = (au b) := hs 0)
    ·clear hT hF hk
     exact N.gi _ ⟨fun _ => N.oi, hI⟩
    ·clear hT hF hk
     exact N.gi _ ⟨fun _ => N.oi, hI⟩
    ·have F4 := (hd 1 46).trans (hk 1 _ rfl); clear hT hF hk
     exact N.gi _ ⟨fun _ => N.oi, hI⟩
    ·have U6 := (hd 2 47).trans (hk 2 _ rfl); clear hT hF hk
     exact N.gi _ ⟨fun _ => N.oi, hI⟩
    ·have Jh := (hd 3 48).trans (hk 3 _ rfl); have rP : D 8 = false := hF 1 8; have fK : D 11 = false := hF 1 11; clear hT hF; have gX := hI
     simp only [rP, fK, cond_false] at hI; have fO : Below we.heap.size we wi := by revert hI; cases D 7 <;> cases D 6 <;> intro hI <;> first | exact hI | exact hI.1
     have x0 := (fV.o.later fO).br.cell (j := 7) rfl; clear hI; exact N.gi _ ⟨fun _ => N.oi, gX⟩
    ·have e5 : ρ (.tmp 5) = (au wd.heap.size) := hs 5; have FY : D 6 = false := hF 1 6; have dN : D 7 = false := hF 2 7; have rP : D 8 = false := hF 2 8; have fK : D 11 = false := hF 1 11; clear hT hF; have gX := hI
     simp only [FY, dN, rP, fK, cond_false] at hI; have hz := Gr.o.later hI; obtain ⟨x0, x1, x2, x3, x4, x5⟩ := hz.q6; clear hz; exact N.gi _ ⟨fun _ => N.oi, gX⟩
    ·have e50 := (hd 5 50).trans (hk 5 _ rfl); have hf := hE.func; have FY : D 6 = false := cP; have dN : D 7 = false := hF 1 7; have rP : D 8 = false := hF 1 8; have fK : D 11 = false := hF 1 11; clear hT hF
     simp only [FY, dN, rP, fK, cond_false] at hI; refine N.Gives.call (f := 55) (args := #[.agg #[iv r.tid.node, iv r.tid.epoch, iv r.tid.seq, .slice z.A r.items.length z.c, .slice z.B r.nodes.length z.d, .bool false]]) (w' := wi) (by go_simp) ?_; refine (vo (dw r) z wi (vO.o.later hI) ⟨Nat.le_trans dP.o.1 (by decide), Nat.le_trans dP.o.2 (by decide)⟩).mono ?_; rintro e w'' ⟨⟨lay, rfl, hfr⟩, hb'⟩; refine ⟨_, rfl, fun x h => (by cases h), ?_⟩; show cond (D 11) (Step base b s y we { s with com := s.com ++ [dw r] } w'') (cond (D 8) (∃ cs', vM base b y (s.com ++ [dw r]) cs' we (V 8) w'') (cond (D 7) (KB b y (dw r) we (V 7) w'') (cond true (KC b y (dw r) we (Value.agg ((dw r).vals lay).toArray) w'') (Below we.heap.size we w''))))
     rw [dN, rP, fK]; exact KC.make (fV.o.later hI) hI hfr hb'
    ·have Xm : ρ (.tmp 51) = V 6 := hd 6 51; have FY : D 6 = true := hT 1 6; have dN : D 7 = false := cP; have rP : D 8 = false := hF 1 8; have fK : D 11 = false := hF 1 11; clear hT hF
     simp only [FY, dN, rP, fK, cond_true, cond_false] at hI; obtain ⟨hb, lay, hv, hfr⟩ := hI; have aek : ρ (.tmp 51) = .agg #[iv r.tid.node, iv r.tid.epoch, iv r.tid.seq, .slice lay.A r.items.length lay.c, .slice lay.B r.nodes.length lay.d, .bool false] := Xm.trans hv; clear Xm; have hal := av wi (.cells #[iv r.tid.node, iv r.tid.epoch, iv r.tid.seq, .slice lay.A r.items.length lay.c, .slice lay.B r.nodes.length lay.d, .bool false] 80); exact N.Gives.value (v := .slice (some ⟨wi.heap.size, 0, none⟩) 1 1) (w' := wi.alloc (.cells #[iv r.tid.node, iv r.tid.epoch, iv r.tid.seq, .slice lay.A r.items.length lay.c, .slice lay.B r.nodes.length lay.d, .bool false] 80)) (by go_simp) ⟨fun x h => (by cases h), by show cond (D 11) (Step base b s y we { s with com := s.com ++ [dw r] } (wi.alloc (.cells #[iv r.tid.node, iv r.tid.epoch, iv r.tid.seq, .slice lay.A r.items.length lay.c, .slice lay.B r.nodes.length lay.d, .bool false] 80))) (cond (D 8) (∃ cs', vM base b y (s.com ++ [dw r]) cs' we (V 8) (wi.alloc (.cells #[iv r.tid.node, iv r.tid.epoch, iv r.tid.seq, .slice lay.A r.items.length lay.c, .slice lay.B r.nodes.length lay.d, .bool false] 80))) (cond true (KB b y (dw r) we (Value.slice (some ⟨wi.heap.size, 0, none⟩) 1 1) (wi.alloc (.cells #[iv r.tid.node, iv r.tid.epoch, iv r.tid.seq, .slice lay.A r.items.length lay.c, .slice lay.B r.nodes.length lay.d, .bool false] 80))) (cond (D 6) (KC b y (dw r) we (V 6) (wi.alloc (.cells #[iv r.tid.node, iv r.tid.epoch, iv r.tid.seq, .slice lay.A r.items.length lay.c, .slice lay.B r.nodes.length lay.d, .bool false] 80))) (Below we.heap.size we (wi.alloc (.cells #[iv r.tid.node, iv r.tid.epoch, iv r.tid.seq, .slice lay.A r.items.length lay.c, .slice lay.B r.nodes.length lay.d, .bool false] 80)))))); rw [rP, fK]; exact ⟨hb.trans (hal.mono hb.size), lay, _, rfl, aB wi _ _ _ rfl, hfr.later hal⟩⟩
    ·have U5 := (hd 4 49).trans (hk 4 _ rfl); have e52 : ρ (.tmp 52) = V 7 := hd 7 52; have dN : D 7 = true := hT 1 7; have rP : D 8 = false := cP; have fK : D 11 = false := hF 1 11; clear hT hF
     simp only [dN, rP, fK, cond_true, cond_false] at hI; obtain ⟨v', w', hrun, hins⟩ := hI.append fV.o uT.o dU.o.com; exact N.Gives.value (v := v') (w' := w') (N.cH rfl (by assumption) (by assumption) hrun) ⟨fun x h => (by cases h), by show cond (D 11) (Step base b s y we { s with com := s.com ++ [dw r] } w') (cond true (∃ cs', vM base b y (s.com ++ [dw r]) cs' we v' w') (cond (D 7) (KB b y (dw r) we (V 7) w') (cond (D 6) (KC b y (dw r) we (V 6) w') (Below we.heap.size we w')))); rw [fK]; exact hins⟩
    ·have DI := (hd 0 45).trans (hk 0 _ rfl); clear hT hF hk
     exact N.gi _ ⟨fun _ => N.oi, hI⟩
    ·have Xk := (hd 9 54).trans (hk 9 _ rfl); clear hT hF hk
     exact N.gi _ ⟨fun _ => N.oi, hI⟩
    have e55 := (hd 10 55).trans (hk 10 _ rfl); have Xl : ρ (.tmp 53) = V 8 := hd 8 53; have rP : D 8 = true := hT 1 8; have fK : D 11 = false := cP; clear hT hF
    simp only [rP, fK, cond_true, cond_false] at hI; obtain ⟨cs', hI⟩ := hI; obtain ⟨A9, n9, c9, f1, x0, x1⟩ := Az fV.o hI; have aej := Xl.trans f1; clear Xl; exact N.Gives.skip (w' := wi.setCell ⟨b, 7, none⟩ (V 8)) (by rw [f1]; clear f1; go_simp) ⟨fun x h => (by cases h), EN fV.o hI⟩
   intro V wf hk hI
   simp only [N.aP, List.foldl_cons, List.foldl_nil, Act.put, List.setIfInBounds_toArray, List.set_cons_succ, List.set_cons_zero]; replace hI : cond true (Step base b s y we { s with com := s.com ++ [dw r] } wf) (cond true (∃ cs', vM base b y (s.com ++ [dw r]) cs' we (V 8) wf) (cond true (KB b y (dw r) we (V 7) wf) (cond true (KC b y (dw r) we (V 6) wf) (Below we.heap.size we wf)))) := hI; clear hk; have HN := ak hI; clear hI HI
   go_wp2_with fail
   go_returns
   exact ⟨aL (by rw [bf.o]), by rw [bf.o]; exact Step.before jC.o HN.o⟩
 have HE := ak he
 clear he; refine N.rb 16 [16] (EB s r b w.heap.size) wb (fun V => [(some 7, V 0), (some 8, V 1), (some 9, V 2), (some 10, V 3), (some 11, V 4), (some 12, V 5), (some 13, V 6), (some 14, V 7), (some 15, V 8), (some 16, V 9), (some 17, V 10), (some 18, V 11), (some 19, V 12), (some 20, V 13), (some 21, V 14), (some 22, V 15), (some 6, V 16)]) ?_ ?_
 ·intro i o ho
  have hi : i < 17 := (Array.getElem?_eq_some_iff.1 ho).1; rcases i with _ | _ | _ | _ | _ | _ | _ | _ | _ | _ | _ | _ | _ | _ | _ | _ | _ | i
  rotate_right
  ·omega
  all_goals obtain rfl := Option.some.inj ho
  all_goals intro ρ wi hE hI hs hd
  all_goals try dsimp only at hI
  ·have e3 : ρ (.tmp 3) = (au w.heap.size) := hs 3; exact N.gw hI
  ·obtain ⟨_, rfl, e7⟩ := hd 0 7; exact N.gw hI
  ·obtain ⟨_, rfl, e8⟩ := hd 1 8; have x0 := (bh.o.later hI).cell (j := 1) rfl; exact N.gw hI
  ·have e0 : ρ (.tmp 0) = (au b) := hs 0; exact N.gw hI
  ·obtain ⟨_, rfl, e10⟩ := hd 3 10; exact N.gw hI
  ·obtain ⟨_, rfl, e11⟩ := hd 4 11; exact N.gw hI
  ·obtain ⟨_, rfl, e12⟩ := hd 5 12; have x0 := (bG.o.later hI).br.cell (j := 0) rfl; exact N.gw hI
  ·obtain ⟨_, rfl, e9⟩ := hd 2 9; obtain ⟨_, rfl, l5⟩ := hd 6 13; have hne := HE.o; exact N.gw hI
  ·obtain ⟨_, rfl, mZ⟩ := hd 7 14; exact N.gw hI
  iterate 6 ·exact N.no hI
  ·obtain ⟨_, rfl, mY⟩ := hd 8 15; obtain ⟨_, rfl, ug⟩ := hd 14 21; have hc := hE.const; exact N.gw hI
  obtain ⟨_, rfl, wT⟩ := hd 15 22; exact N.gw hI
 intro V wc hV hI
 have jz : V 16 = .bool true := hV 16 (by decide) rfl; simp only [N.aP, List.foldl_cons, List.foldl_nil, Act.put, List.setIfInBounds_toArray, List.set_cons_succ, List.set_cons_zero, jz]; replace hI : (fun a => Below wb.heap.size wb a) wc := hI; clear hV jz; have aR := ak (bG.o.later hI); have bO := ak (bh.o.later hI); have cB := ak (bI.o.later hI); have bB := ak (bH.o.trans (hI.mono bH.o.size)); clear hI; have bf : Hid (F = (s, 1)) := ak (by rw [HF.o]; unfold cQ; rw [if_pos HE.o])
 go_wp2_with fail
 go_returns
 exact ⟨aL (by rw [bf.o]), by rw [bf.o]; exact Step.same aR.o bB.o⟩
