/- Part 27 of the proof. Conditions: none. -/
import Derived.Test.YtdkchpiinelmiaaGreatZ22
namespace Go.Proofs.YtdkchpiinelmiaaGreat.Led
set_option maxRecDepth 100000
open Go.RowKit Go.Deep Mem fN Rec
def cX (s : St) (l : List Int) : Bool := l.any fun x => decide (x = s.node)
def jO (l : List Pr) (p : Pr) : Nat := fC (l.map fun x => ord x.tid p.tid)
theorem vT (l : List Pr) (p : Pr) : jO l p <= l.length := by
 have h := mB (l.map fun x => ord x.tid p.tid); rw [List.length_map] at h; exact h
def fU {α : Type} (l : List α) (i : Nat) (x : α) : List α := l.take i ++ x :: l.drop i
theorem kU {α : Type} {l : List α} {i : Nat} (x : α) (h : i <= l.length) : (fU l i x).length = l.length + 1 := by unfold fU; simp; omega
theorem xR {α : Type} {l : List α} {i j : Nat} {x : α} (hi : i <= l.length) : (fU l i x)[j]? = if j < i then l[j]? else if j = i then some x else l[j - 1]? := by
 unfold fU; rw [List.getElem?_append, List.length_take, Nat.min_eq_left hi]
 split
 ·rename_i h
  rw [List.getElem?_take_of_lt h]
 rename_i h
 split
 ·rename_i h2
  rw [h2, Nat.sub_self]
  rfl
 rename_i h2
 obtain ⟨m, hm⟩ : ∃ m, j - i = m + 1 := ⟨j - i - 1, by omega⟩; rw [hm, List.getElem?_cons_succ, List.getElem?_drop]
 congr 1
 omega
theorem JT (l : List Pr) (ys : List Lay) (i : Nat) (p : Pr) (lay : Lay) (hy : ys.length = l.length) : List.zipWith Pr.vals (fU l i p) (fU ys i lay) = (List.zipWith Pr.vals l ys).take i ++ p.vals lay :: (List.zipWith Pr.vals l ys).drop i := by
 unfold fU; rw [List.zipWith_append (by rw [List.length_take, List.length_take]; omega), List.take_zipWith, List.zipWith_cons_cons, List.drop_zipWith]
section
variable {base b : Nat} {s : St} {y : Sy} {w w0 w1 w' : World}
def KP (b : Nat) (y : Sy) (p : Pr) (w0 : World) (v : Value) (W : World) : Prop := Below w0.heap.size w0 W /\ ∃ lay, v = .agg (p.vals lay).toArray /\ Fr (fun j => sb b j \/ rowsOf y j) W p.items p.nodes lay
theorem KP.make {p : Pr} {lay : Lay} (h : Own base w b s y) (hb : Below w0.heap.size w0 w) (hf : qZ w.heap.size w' p.items p.nodes lay) (hb' : Below w.heap.size w w') : KP b y p w0 (.agg (p.vals lay).toArray) w' :=
 ⟨hb.trans (hb'.mono hb.size), lay, rfl, (Fr.mF hf).next (Only.refl _ _) fun _ e => Or.inl (h.KJ e)⟩
theorem EJ {p : Pr} {lay : Lay} (h0 : Own base w0 b s y) (hb : Below w0.heap.size w0 w) (hbase : base <= w0.heap.size) (hs : s.ay.length <= 100000) (hf : Fr (fun j => sb b j \/ rowsOf y j) w p.items p.nodes lay) :
  Calls Tryz.prog 95 #[.slice y.Q s.ay.length y.q, .func (.func 42) #[] #[], .agg (p.vals lay).toArray] w fun e w' => ∃ v, e = .returned v /\ fX base b y (fU s.ay (jO s.ay p) p) (fU y.ps (jO s.ay p) lay) w0 v w' := by
 have h := h0.later hb; have hps := h.lists.ps; have hzl := cY Pr.vals hps; have hi := yR (.slice y.Q s.ay.length y.q) (List.zipWith Pr.vals s.ay y.ps) (s.ay.map fun x => ord x.tid p.tid) p lay base w (Nat.le_trans hbase hb.size) (h_ _ _) (by rw [hzl]; exact h.lists.jk) (by rw [List.length_map, hzl]) (by rw [hzl]; exact hs) (fun k hk hk' => ⟨s.ay[k]'(by simpa using hk'), y.ps[k]'(by rw [hzl] at hk; omega), by rw [List.getElem_zipWith], by rw [List.getElem_map]⟩); refine hi.mono ?_; rintro e w' ⟨v, rfl, h1, h2, h3⟩; have hle := vT s.ay p; have hl2 : (fU y.ps (jO s.ay p) lay).length = (fU s.ay (jO s.ay p) p).length := by rw [kU _ (by omega), kU _ hle, hps]
 have e1 := JT s.ay y.ps (jO s.ay p) p lay hps
 change w'.ownsRow base 78 5 v ((List.zipWith Pr.vals s.ay y.ps).take (jO s.ay p) ++ p.vals lay :: (List.zipWith Pr.vals s.ay y.ps).drop (jO s.ay p)).length ((List.zipWith Pr.vals s.ay y.ps).take (jO s.ay p) ++ p.vals lay :: (List.zipWith Pr.vals s.ay y.ps).drop (jO s.ay p)).flatten at h1
 rw [<- e1, cY Pr.vals hl2] at h1; obtain ⟨A, c, rfl⟩ := bD h1; rw [aK, aK] at h3; have Jt : Only (fun k => some k = blk y.Q) w w' := h2.mono fun k _ e => by rw [aK] at e; exact e
 have DA : ∀ j, blk A = some j -> blk y.Q = some j \/ w.heap.size <= j := fun j e => by
  rcases h3 with h3 | ⟨k, h3, hk⟩
  ·exact Or.inl (h3.symm.trans e)
  have : j = k := Option.some.inj (e.symm.trans h3)
  exact Or.inr (by omega)
 refine ⟨_, rfl, A, c, rfl, h1, (Only.of_below hb).trans Jt fun _ _ e => e, fun j e => (DA j e).imp_right fun h => Nat.le_trans hb.size h, hl2, fun j j1 j2 => ?_⟩; have g1 := xR (l := s.ay) (j := j) (x := p) hle; have g2 := xR (l := y.ps) (j := j) (x := lay) (i := jO s.ay p) (by omega); rw [List.getElem?_eq_getElem j1] at g1; rw [List.getElem?_eq_getElem j2] at g2
 by_cases c1 : j < jO s.ay p
 ·rw [if_pos c1, List.getElem?_eq_getElem (by omega)] at g1 g2
  rw [Option.some.inj g1, Option.some.inj g2]; exact K9 Jt DA (h.lists.pin j (by omega) (by omega))
 rw [if_neg c1] at g1 g2
 by_cases c2 : j = jO s.ay p
 ·rw [if_pos c2] at g1 g2
  rw [Option.some.inj g1, Option.some.inj g2]; exact K9 Jt DA hf
 rw [kU _ hle] at j1
 rw [if_neg c2, List.getElem?_eq_getElem (by omega)] at g1 g2; rw [Option.some.inj g1, Option.some.inj g2]; exact K9 Jt DA (h.lists.pin (j - 1) (by omega) (by omega))
end
def bK (s : St) : List It -> Int
 | [] => 0
 | x :: l => if cC s x = 0 then bK s l else cC s x
def jy (r : Rc) : Pr := ⟨r.tid, r.items, r.nodes⟩
def eN (s : St) (r : Rc) : St := { s with ay := fU s.ay (jO s.ay (jy r)) (jy r) }
def bq (s : St) (r : Rc) : St × Int := if known s r.tid = true then (s, 9) else if jB s r.items = false then (s, 1) else if above s [r.tid.node] = true then (s, 1) else if above s r.nodes = true then (s, 1) else if cX s r.nodes = false then (s, 1) else if bK s r.items = 0 then (if room s = false then (s, 6) else (eN s r, 0)) else (s, bK s r.items)
def Hu (s : St) (y : Sy) (r : Rc) (b : Nat) (g : Nat) : Nat -> Value -> World -> Prop := N.tb [.inl (.pointer (some ⟨b, 0, none⟩)), .inl (.pointer (some ⟨b, 0, none⟩)), .inl (s.val y), .inl (.pointer (some ⟨g, 1, none⟩)), .inl (.agg #[.int .i64 r.tid.node, .int .i64 r.tid.epoch, .int .i64 r.tid.seq]), .inl (.bool (known s r.tid)), .inl (.bool (known s r.tid))]
def Ev (r : Rc) (z : Lay) (b : Nat) (g : Nat) : Nat -> Value -> World -> Prop := N.tb [.inl (.pointer (some ⟨b, 0, none⟩)), .inl (.pointer (some ⟨g, 4, none⟩)), .inl (.slice z.A r.items.length z.c), .inl (.bool false), .inl (.bool true), .inl (.bool true), .inl (undef), .inl (undef), .inl (undef), .inl (undef), .inl (undef), .inl (undef), .inl (undef), .inl (undef), .inl (.bool true), .inl (.bool true), .inl (undef), .inl (undef), .inl (undef), .inl (undef), .inl (undef), .inl (undef), .inl (.bool true), .inl (.bool true), .inl (undef), .inl (undef), .inl (undef), .inl (undef), .inl (undef), .inl (undef), .inl (undef), .inl (undef), .inl (.bool true), .inl (.bool true)]
def qL (s : St) (y : Sy) (r : Rc) (z : Lay) (b : Nat) (g : Nat) : Nat -> Value -> World -> Prop := N.tb [.inl (.pointer (some ⟨b, 0, none⟩)), .inl (.pointer (some ⟨g, 4, none⟩)), .inl (.slice z.A r.items.length z.c), .inl (.bool true), .inl (.bool false), .inl (.bool false), .inl (.pointer (some ⟨b, 0, none⟩)), .inl (.pointer (some ⟨b, 0, none⟩)), .inl (s.val y), .inl (.pointer (some ⟨g, 1, none⟩)), .inl (.pointer (some ⟨g, 1, none⟩)), .inl (.int .i64 r.tid.node), .inr fun v w => ∃ kk, v = .slice (some ⟨kk, 0, none⟩) 1 1 /\ Cells w kk 3 ([r.tid.node].map (Value.int .i64)), .inl (.bool true), .inl (.bool true), .inl (.bool true), .inl (undef), .inl (undef), .inl (undef), .inl (undef), .inl (undef), .inl (undef), .inl (.bool true), .inl (.bool true), .inl (undef), .inl (undef), .inl (undef), .inl (undef), .inl (undef), .inl (undef), .inl (undef), .inl (undef), .inl (.bool true), .inl (.bool true)]
theorem iB {s : St} {y : Sy} {r : Rc} {z : Lay} {b : Nat} {g : Nat} {j : Nat} {v : Value} {w w' : World} (hb : Below w.heap.size w w') (h : qL s y r z b g j v w) : qL s y r z b g j v w' := by
 refine N.gA ?_ h; refine And.intro (fun v h => ?_) ?_
 ·obtain ⟨kk, h1, h2⟩ := h
  exact ⟨kk, h1, h2.later hb⟩
 exact trivial
def qK (s : St) (y : Sy) (r : Rc) (z : Lay) (b : Nat) (g : Nat) : Nat -> Value -> World -> Prop := N.tb [.inl (.pointer (some ⟨b, 0, none⟩)), .inl (.pointer (some ⟨g, 4, none⟩)), .inl (.slice z.A r.items.length z.c), .inl (.bool true), .inl (.bool false), .inl (.bool false), .inl (.pointer (some ⟨b, 0, none⟩)), .inl (.pointer (some ⟨b, 0, none⟩)), .inl (s.val y), .inl (.pointer (some ⟨g, 1, none⟩)), .inl (.pointer (some ⟨g, 1, none⟩)), .inl (.int .i64 r.tid.node), .inr fun v w => ∃ kk, v = .slice (some ⟨kk, 0, none⟩) 1 1 /\ Cells w kk 3 ([r.tid.node].map (Value.int .i64)), .inl (.bool false), .inl (.bool false), .inl (.bool false), .inl (.pointer (some ⟨b, 0, none⟩)), .inl (.pointer (some ⟨b, 0, none⟩)), .inl (s.val y), .inl (.pointer (some ⟨g, 5, none⟩)), .inl (.slice z.B r.nodes.length z.d), .inl (.bool true), .inl (.bool true), .inl (.bool true), .inl (undef), .inl (undef), .inl (undef), .inl (undef), .inl (undef), .inl (undef), .inl (undef), .inl (undef), .inl (.bool true), .inl (.bool true)]
theorem fS {s : St} {y : Sy} {r : Rc} {z : Lay} {b : Nat} {g : Nat} {j : Nat} {v : Value} {w w' : World} (hb : Below w.heap.size w w') (h : qK s y r z b g j v w) : qK s y r z b g j v w' := by
 refine N.gA ?_ h; refine And.intro (fun v h => ?_) ?_
 ·obtain ⟨kk, h1, h2⟩ := h
  exact ⟨kk, h1, h2.later hb⟩
 exact trivial
def qJ (s : St) (y : Sy) (r : Rc) (z : Lay) (b : Nat) (g : Nat) : Nat -> Value -> World -> Prop := N.tb [.inl (.pointer (some ⟨b, 0, none⟩)), .inl (.pointer (some ⟨g, 4, none⟩)), .inl (.slice z.A r.items.length z.c), .inl (.bool true), .inl (.bool false), .inl (.bool false), .inl (.pointer (some ⟨b, 0, none⟩)), .inl (.pointer (some ⟨b, 0, none⟩)), .inl (s.val y), .inl (.pointer (some ⟨g, 1, none⟩)), .inl (.pointer (some ⟨g, 1, none⟩)), .inl (.int .i64 r.tid.node), .inr fun v w => ∃ kk, v = .slice (some ⟨kk, 0, none⟩) 1 1 /\ Cells w kk 3 ([r.tid.node].map (Value.int .i64)), .inl (.bool false), .inl (.bool false), .inl (.bool false), .inl (.pointer (some ⟨b, 0, none⟩)), .inl (.pointer (some ⟨b, 0, none⟩)), .inl (s.val y), .inl (.pointer (some ⟨g, 5, none⟩)), .inl (.slice z.B r.nodes.length z.d), .inl (.bool false), .inl (.bool false), .inl (.bool false), .inl (.pointer (some ⟨g, 5, none⟩)), .inl (.slice z.B r.nodes.length z.d), .inl (.pointer (some ⟨b, 0, none⟩)), .inl (.pointer (some ⟨b, 0, none⟩)), .inl (.pointer (some ⟨b, 0, none⟩)), .inl (.int .i64 s.node), .inl (.bool (cX s r.nodes)), .inl (.bool (!(cX s r.nodes))), .inl (.bool (!(cX s r.nodes))), .inl (.bool (!(cX s r.nodes)))]
theorem fR {s : St} {y : Sy} {r : Rc} {z : Lay} {b : Nat} {g : Nat} {j : Nat} {v : Value} {w w' : World} (hb : Below w.heap.size w w') (h : qJ s y r z b g j v w) : qJ s y r z b g j v w' := by
 refine N.gA ?_ h; refine And.intro (fun v h => ?_) ?_
 ·obtain ⟨kk, h1, h2⟩ := h
  exact ⟨kk, h1, h2.later hb⟩
 exact trivial
set_option maxHeartbeats 8000000 in
theorem yF (s : St) (y : Sy) (r : Rc) (z : Lay) (base b : Nat) (w : World) (ho : Own base w b s y) (hh : Two w r.items r.nodes z) (hs : Small s) (hr : r.items.length <= 1000 /\ r.nodes.length <= 1000) :
  Calls Tryz.prog 58 #[(au b), r.val z] w fun e w' => e = .returned (iv (bq s r).2) /\ Step base b s y w (bq s r).1 w' := by
 obtain ⟨wb, hwb⟩ := aj (w.alloc (.cells #[iv r.kind, iv r.tid.node, iv r.tid.epoch, iv r.tid.seq, .slice z.A r.items.length z.c, .slice z.B r.nodes.length z.d, iv r.node, iv r.count, iv r.num, iv r.cell, iv r.status, iv r.hop, iv r.version, iv r.value, .bool r.yes] 51)); have hb : Below w.heap.size w wb := by rw [hwb]; exact av _ _
 have bG := ak (ho.later hb); have bh : Hid (Cells wb w.heap.size 51 (r.vals z)) := ak (by rw [hwb]; exact aB _ _ _ _ rfl); have bI := ak (hh.later hb); have bH := ak hb; have dU := ak hs; have dP := ak hr; have F9 : Hid (base <= w.heap.size) := ak (Nat.le_trans ho.low (Nat.le_of_lt ho.br.lt)); obtain ⟨F, hF⟩ := ah (bq s r); have HF := ak hF.symm; rw [hF]; unfold Rc.val; clear ho hh hs hr hb hF
 go_enter Tryz.func58, Tryz.ntmps58
 go_wp2_with fail
 rw [<- hwb]; clear hwb; refine N.rb 6 [6] (Hu s y r b w.heap.size) wb (fun V => [(some 10, V 0), (some 11, V 1), (some 12, V 2), (some 13, V 3), (some 14, V 4), (some 15, V 5), (some 9, V 6)]) ?_ ?_
 ·intro i o ho
  have hi : i < 7 := (Array.getElem?_eq_some_iff.1 ho).1; rcases i with _ | _ | _ | _ | _ | _ | _ | i
  rotate_right
  ·omega
  all_goals obtain rfl := Option.some.inj ho
  all_goals intro ρ wi hE hI hs hd
  all_goals try dsimp only at hI
  ·have e0 : ρ (.tmp 0) = (au b) := hs 0; exact N.gw hI
  ·obtain ⟨_, rfl, e10⟩ := hd 0 10; exact N.gw hI
  ·obtain ⟨_, rfl, e11⟩ := hd 1 11
   exact N.Gives.value (v := s.val y) (w' := wi) (aQ _ _ rfl _ _ (by assumption) (aS (bG.o.later hI))) (N.bA.same hI rfl)
  ·have e3 : ρ (.tmp 3) = (au w.heap.size) := hs 3; exact N.gw hI
  ·obtain ⟨_, rfl, l5⟩ := hd 3 13; have x0 := (bh.o.later hI).cell (j := 1) rfl; have x1 := (bh.o.later hI).cell (j := 2) rfl; have x2 := (bh.o.later hI).cell (j := 3) rfl; exact N.gw hI
  ·obtain ⟨_, rfl, e12⟩ := hd 2 12; obtain ⟨_, rfl, mZ⟩ := hd 4 14; have hf := hE.func
   refine N.Gives.call (f := 90) (args := #[s.val y, .agg #[iv r.tid.node, iv r.tid.epoch, iv r.tid.seq]]) (w' := wi) (by go_simp) ?_; refine (uY s y r.tid wi (bG.o.later hI).sees (Nat.le_trans dU.o.ay (by decide)) (Nat.le_trans dU.o.dec (by decide))).mono ?_; rintro e w'' ⟨rfl, hbb⟩; exact ⟨_, rfl, ⟨rfl, hI.trans (hbb.mono hI.size), fun j u _ _ h => N.tz h⟩⟩
  obtain ⟨_, rfl, mY⟩ := hd 5 15; exact N.gw hI
 intro V wc hV hI
 have qU : V 6 = .bool (known s r.tid) := hV 6 (by decide) rfl; simp only [N.aP, List.foldl_cons, List.foldl_nil, Act.put, List.setIfInBounds_toArray, List.set_cons_succ, List.set_cons_zero, qU]; replace hI : (fun a => Below wb.heap.size wb a) wc := hI; clear hV qU; have aR := ak (bG.o.later hI); have bO := ak (bh.o.later hI); have cB := ak (bI.o.later hI); have bB := ak (bH.o.trans (hI.mono bH.o.size)); clear hI
 cases h0 : known s r.tid with
 | true =>
  have zG := ak h0; clear h0; have bf : Hid (F = (s, 9)) := ak (by rw [HF.o]; unfold bq; rw [if_pos zG.o])
  go_wp2_with fail
  go_returns
  exact ⟨aL (by rw [bf.o]), by rw [bf.o]; exact Step.same aR.o bB.o⟩
 | false =>
  have zG := ak h0; clear h0
  go_upto_region 3 with (fail)
  cases h1 : jB s r.items with
  | false =>
   have zF := ak h1; clear h1; refine N.rb 33 [33] (Ev r z b w.heap.size) wc (fun V => [(some 17, V 0), (some 18, V 1), (some 19, V 2), (some 20, V 3), (some 21, V 4), (some 22, V 5), (some 23, V 6), (some 24, V 7), (some 25, V 8), (some 26, V 9), (some 27, V 10), (some 28, V 11), (some 29, V 12), (some 30, V 13), (some 31, V 14), (some 32, V 15), (some 33, V 16), (some 34, V 17), (some 35, V 18), (some 36, V 19), (some 37, V 20), (some 38, V 21), (some 39, V 22), (some 40, V 23), (some 41, V 24), (some 42, V 25), (some 43, V 26), (some 44, V 27), (some 45, V 28), (some 46, V 29), (some 47, V 30), (some 48, V 31), (some 49, V 32), (some 16, V 33)]) ?_ ?_
   ·intro i o ho
    have hi : i < 34 := (Array.getElem?_eq_some_iff.1 ho).1; rcases i with _ | _ | _ | _ | _ | _ | _ | _ | _ | _ | _ | _ | _ | _ | _ | _ | _ | _ | _ | _ | _ | _ | _ | _ | _ | _ | _ | _ | _ | _ | _ | _ | _ | _ | i
    rotate_right
    ·omega
    all_goals obtain rfl := Option.some.inj ho
    all_goals intro ρ wi hE hI hs hd
    all_goals try dsimp only at hI
    all_goals (have hc := hE.const)
    ·have e0 : ρ (.tmp 0) = (au b) := hs 0; exact N.gw hI
    ·have e3 : ρ (.tmp 3) = (au w.heap.size) := hs 3; exact N.gw hI
    ·obtain ⟨_, rfl, e18⟩ := hd 1 18; have x0 := (bO.o.later hI).cell (j := 4) rfl; exact N.gw hI
    ·obtain ⟨_, rfl, e17⟩ := hd 0 17; obtain ⟨_, rfl, e19⟩ := hd 2 19; have hf := hE.func
     refine N.Gives.call (f := 91) (args := #[(au b), .slice z.A r.items.length z.c]) (w' := wi) (by go_simp) ?_; refine (cG (j4 s y z.A r.items z.c b wi (cB.o.later hI).1 (aR.o.later hI).br (Nat.le_trans dP.o.1 (by decide))) zF.o).mono ?_; rintro e w'' ⟨rfl, hbb⟩; exact ⟨_, rfl, ⟨rfl, hI.trans (hbb.mono hI.size), fun j u _ _ h => N.tz h⟩⟩
    ·obtain ⟨_, rfl, wL⟩ := hd 3 20; exact N.gw hI
    ·obtain ⟨_, rfl, ug⟩ := hd 4 21; exact N.gw hI
    iterate 8 ·exact N.no hI
    ·obtain ⟨_, rfl, wT⟩ := hd 5 22; obtain ⟨_, rfl, e30⟩ := hd 13 30; exact N.gw hI
    ·obtain ⟨_, rfl, uQ⟩ := hd 14 31; exact N.gw hI
    iterate 6 ·exact N.no hI
    ·obtain ⟨_, rfl, zB⟩ := hd 15 32; obtain ⟨_, rfl, e38⟩ := hd 21 38; exact N.gw hI
    ·obtain ⟨_, rfl, e39⟩ := hd 22 39; exact N.gw hI
    iterate 8 ·exact N.no hI
    ·obtain ⟨_, rfl, wS⟩ := hd 23 40; obtain ⟨_, rfl, Jh⟩ := hd 31 48; exact N.gw hI
    obtain ⟨_, rfl, U5⟩ := hd 32 49; exact N.gw hI
   intro V wd hV hI
   have su : V 33 = .bool true := hV 33 (by decide) rfl; simp only [N.aP, List.foldl_cons, List.foldl_nil, Act.put, List.setIfInBounds_toArray, List.set_cons_succ, List.set_cons_zero, su]; replace hI : (fun a => Below wc.heap.size wc a) wd := hI; clear hV su; have cu := ak (aR.o.later hI); have fT := ak (bO.o.later hI); have jR := ak (cB.o.later hI); have ez := ak (bB.o.trans (hI.mono bB.o.size)); clear hI; have bf : Hid (F = (s, 1)) := ak (by rw [HF.o]; unfold bq; rw [zG.o, if_neg (by decide), if_pos zF.o])
   go_wp2_with fail
   go_returns
   exact ⟨aL (by rw [bf.o]), by rw [bf.o]; exact Step.same cu.o ez.o⟩
  | true =>
   have zF := ak h1; clear h1
   cases h2 : above s [r.tid.node] with
   | true =>
    have I6 := ak h2; clear h2; refine N.rb 33 [33] (qL s y r z b w.heap.size) wc (fun V => [(some 17, V 0), (some 18, V 1), (some 19, V 2), (some 20, V 3), (some 21, V 4), (some 22, V 5), (some 23, V 6), (some 24, V 7), (some 25, V 8), (some 26, V 9), (some 27, V 10), (some 28, V 11), (some 29, V 12), (some 30, V 13), (some 31, V 14), (some 32, V 15), (some 33, V 16), (some 34, V 17), (some 35, V 18), (some 36, V 19), (some 37, V 20), (some 38, V 21), (some 39, V 22), (some 40, V 23), (some 41, V 24), (some 42, V 25), (some 43, V 26), (some 44, V 27), (some 45, V 28), (some 46, V 29), (some 47, V 30), (some 48, V 31), (some 49, V 32), (some 16, V 33)]) ?_ ?_
    ·intro i o ho
     have hi : i < 34 := (Array.getElem?_eq_some_iff.1 ho).1; rcases i with _ | _ | _ | _ | _ | _ | _ | _ | _ | _ | _ | _ | _ | _ | _ | _ | _ | _ | _ | _ | _ | _ | _ | _ | _ | _ | _ | _ | _ | _ | _ | _ | _ | _ | i
     rotate_right
     ·omega
     all_goals obtain rfl := Option.some.inj ho
     all_goals intro ρ wi hE hI hs hd
     all_goals try dsimp only at hI
     all_goals (have e0 : ρ (.tmp 0) = (au b) := hs 0; have e3 : ρ (.tmp 3) = (au w.heap.size) := hs 3; have hc := hE.const; have hf := hE.func)
     iterate 2 ·exact N.gw hI
     ·obtain ⟨_, rfl, e18⟩ := hd 1 18; have x0 := (bO.o.later hI).cell (j := 4) rfl; exact N.gw hI
     ·obtain ⟨_, rfl, e17⟩ := hd 0 17; obtain ⟨_, rfl, e19⟩ := hd 2 19
      refine N.Gives.call (f := 91) (args := #[(au b), .slice z.A r.items.length z.c]) (w' := wi) (by go_simp) ?_; refine (cG (j4 s y z.A r.items z.c b wi (cB.o.later hI).1 (aR.o.later hI).br (Nat.le_trans dP.o.1 (by decide))) zF.o).mono ?_; rintro e w'' ⟨rfl, hbb⟩; exact ⟨_, rfl, ⟨rfl, hI.trans (hbb.mono hI.size), fun j u _ _ h => iB hbb h⟩⟩
     ·obtain ⟨_, rfl, wL⟩ := hd 3 20; exact N.gw hI
     ·obtain ⟨_, rfl, ug⟩ := hd 4 21; exact N.gw hI
     ·refine N.yes ?_
      exact N.gw hI
     ·obtain ⟨_, rfl, Fu⟩ := hd 6 23
      refine N.yes ?_; exact N.gw hI
     ·obtain ⟨_, rfl, DL⟩ := hd 7 24
      refine N.yes ?_; exact N.Gives.value (v := s.val y) (w' := wi) (aQ _ _ rfl _ _ (by assumption) (aS (aR.o.later hI))) (N.bA.same hI rfl)
     ·refine N.yes ?_
      exact N.gw hI
     ·obtain ⟨_, rfl, zj⟩ := hd 9 26
      refine N.yes ?_; exact N.gw hI
     ·obtain ⟨_, rfl, Bn⟩ := hd 10 27
      refine N.yes ?_; have x0 := (bO.o.later hI).cell (j := 1) rfl; exact N.gw hI
     ·obtain ⟨_, rfl, Bl⟩ := hd 11 28
      refine N.yes ?_; have hal := av wi (.cells #[iv r.tid.node] 3); exact N.Gives.value (v := .slice (some ⟨wi.heap.size, 0, none⟩) 1 1) (w' := wi.alloc (.cells #[iv r.tid.node] 3)) (by go_simp) ⟨⟨_, rfl, aB wi _ _ _ rfl⟩, hI.trans (hal.mono hI.size), fun j u _ _ h => iB hal h⟩
     ·obtain ⟨_, rfl, DK⟩ := hd 8 25; obtain ⟨u29, K8, wK⟩ := hd 12 29
      refine N.yes ?_; obtain ⟨kk, rfl, gH⟩ := K8; refine N.Gives.call (f := 89) (args := #[s.val y, .slice (some ⟨kk, 0, none⟩) 1 1]) (w' := wi) (by go_simp) ?_; refine (cG (fH s y (some ⟨kk, 0, none⟩) [r.tid.node] 1 wi (fun j hj => ⟨kk, 0, rfl, eI gH j hj⟩) (by simp)) I6.o).mono ?_; rintro e w'' ⟨rfl, hbb⟩; exact ⟨_, rfl, ⟨rfl, hI.trans (hbb.mono hI.size), fun j u _ _ h => iB hbb h⟩⟩
     ·obtain ⟨_, rfl, wT⟩ := hd 5 22; obtain ⟨_, rfl, e30⟩ := hd 13 30; exact N.gw hI
     ·obtain ⟨_, rfl, uQ⟩ := hd 14 31; exact N.gw hI
     iterate 6 ·exact N.no hI
     ·obtain ⟨_, rfl, zB⟩ := hd 15 32; obtain ⟨_, rfl, e38⟩ := hd 21 38; exact N.gw hI
     ·obtain ⟨_, rfl, e39⟩ := hd 22 39; exact N.gw hI
     iterate 8 ·exact N.no hI
     ·obtain ⟨_, rfl, wS⟩ := hd 23 40; obtain ⟨_, rfl, Jh⟩ := hd 31 48; exact N.gw hI
     obtain ⟨_, rfl, U5⟩ := hd 32 49; exact N.gw hI
    intro V wd hV hI
    have su : V 33 = .bool true := hV 33 (by decide) rfl; simp only [N.aP, List.foldl_cons, List.foldl_nil, Act.put, List.setIfInBounds_toArray, List.set_cons_succ, List.set_cons_zero, su]; replace hI : (fun a => Below wc.heap.size wc a) wd := hI; clear hV su; have cu := ak (aR.o.later hI); have fT := ak (bO.o.later hI); have jR := ak (cB.o.later hI); have ez := ak (bB.o.trans (hI.mono bB.o.size)); clear hI; have bf : Hid (F = (s, 1)) := ak (by rw [HF.o]; unfold bq; rw [zG.o, if_neg (by decide), zF.o, if_neg (by decide), if_pos I6.o])
    go_wp2_with fail
    go_returns
    exact ⟨aL (by rw [bf.o]), by rw [bf.o]; exact Step.same cu.o ez.o⟩
   | false =>
    have I6 := ak h2; clear h2
    cases h3 : above s r.nodes with
    | true =>
     have DR := ak h3; clear h3; refine N.rb 33 [33] (qK s y r z b w.heap.size) wc (fun V => [(some 17, V 0), (some 18, V 1), (some 19, V 2), (some 20, V 3), (some 21, V 4), (some 22, V 5), (some 23, V 6), (some 24, V 7), (some 25, V 8), (some 26, V 9), (some 27, V 10), (some 28, V 11), (some 29, V 12), (some 30, V 13), (some 31, V 14), (some 32, V 15), (some 33, V 16), (some 34, V 17), (some 35, V 18), (some 36, V 19), (some 37, V 20), (some 38, V 21), (some 39, V 22), (some 40, V 23), (some 41, V 24), (some 42, V 25), (some 43, V 26), (some 44, V 27), (some 45, V 28), (some 46, V 29), (some 47, V 30), (some 48, V 31), (some 49, V 32), (some 16, V 33)]) ?_ ?_
     ·intro i o ho
      have hi : i < 34 := (Array.getElem?_eq_some_iff.1 ho).1; rcases i with _ | _ | _ | _ | _ | _ | _ | _ | _ | _ | _ | _ | _ | _ | _ | _ | _ | _ | _ | _ | _ | _ | _ | _ | _ | _ | _ | _ | _ | _ | _ | _ | _ | _ | i
      rotate_right
      ·omega
      all_goals obtain rfl := Option.some.inj ho
      all_goals intro ρ wi hE hI hs hd
      all_goals try dsimp only at hI
      all_goals (have e0 : ρ (.tmp 0) = (au b) := hs 0; have e3 : ρ (.tmp 3) = (au w.heap.size) := hs 3; have hc := hE.const; have hf := hE.func)
      iterate 2 ·exact N.gw hI
      ·obtain ⟨_, rfl, e18⟩ := hd 1 18; have x0 := (bO.o.later hI).cell (j := 4) rfl; exact N.gw hI
      ·obtain ⟨_, rfl, e17⟩ := hd 0 17; obtain ⟨_, rfl, e19⟩ := hd 2 19
       refine N.Gives.call (f := 91) (args := #[(au b), .slice z.A r.items.length z.c]) (w' := wi) (by go_simp) ?_; refine (cG (j4 s y z.A r.items z.c b wi (cB.o.later hI).1 (aR.o.later hI).br (Nat.le_trans dP.o.1 (by decide))) zF.o).mono ?_; rintro e w'' ⟨rfl, hbb⟩; exact ⟨_, rfl, ⟨rfl, hI.trans (hbb.mono hI.size), fun j u _ _ h => fS hbb h⟩⟩
      ·obtain ⟨_, rfl, wL⟩ := hd 3 20; exact N.gw hI
      ·obtain ⟨_, rfl, ug⟩ := hd 4 21; exact N.gw hI
      ·refine N.yes ?_
       exact N.gw hI
      ·obtain ⟨_, rfl, Fu⟩ := hd 6 23
       refine N.yes ?_; exact N.gw hI
      ·obtain ⟨_, rfl, DL⟩ := hd 7 24
       refine N.yes ?_; exact N.Gives.value (v := s.val y) (w' := wi) (aQ _ _ rfl _ _ (by assumption) (aS (aR.o.later hI))) (N.bA.same hI rfl)
      ·refine N.yes ?_
       exact N.gw hI
      ·obtain ⟨_, rfl, zj⟩ := hd 9 26
       refine N.yes ?_; exact N.gw hI
      ·obtain ⟨_, rfl, Bn⟩ := hd 10 27
       refine N.yes ?_; have x0 := (bO.o.later hI).cell (j := 1) rfl; exact N.gw hI
      ·obtain ⟨_, rfl, Bl⟩ := hd 11 28
       refine N.yes ?_; have hal := av wi (.cells #[iv r.tid.node] 3); exact N.Gives.value (v := .slice (some ⟨wi.heap.size, 0, none⟩) 1 1) (w' := wi.alloc (.cells #[iv r.tid.node] 3)) (by go_simp) ⟨⟨_, rfl, aB wi _ _ _ rfl⟩, hI.trans (hal.mono hI.size), fun j u _ _ h => fS hal h⟩
      ·obtain ⟨_, rfl, DK⟩ := hd 8 25; obtain ⟨u29, K8, wK⟩ := hd 12 29
       refine N.yes ?_; obtain ⟨kk, rfl, gH⟩ := K8; refine N.Gives.call (f := 89) (args := #[s.val y, .slice (some ⟨kk, 0, none⟩) 1 1]) (w' := wi) (by go_simp) ?_; refine (cG (fH s y (some ⟨kk, 0, none⟩) [r.tid.node] 1 wi (fun j hj => ⟨kk, 0, rfl, eI gH j hj⟩) (by simp)) I6.o).mono ?_; rintro e w'' ⟨rfl, hbb⟩; exact ⟨_, rfl, ⟨rfl, hI.trans (hbb.mono hI.size), fun j u _ _ h => fS hbb h⟩⟩
      ·obtain ⟨_, rfl, wT⟩ := hd 5 22; obtain ⟨_, rfl, e30⟩ := hd 13 30; exact N.gw hI
      ·obtain ⟨_, rfl, uQ⟩ := hd 14 31; exact N.gw hI
      ·refine N.yes ?_
       exact N.gw hI
      ·obtain ⟨_, rfl, Bk⟩ := hd 16 33
       refine N.yes ?_; exact N.gw hI
      ·obtain ⟨_, rfl, Bj⟩ := hd 17 34
       refine N.yes ?_; exact N.Gives.value (v := s.val y) (w' := wi) (aQ _ _ rfl _ _ (by assumption) (aS (aR.o.later hI))) (N.bA.same hI rfl)
      ·refine N.yes ?_
       exact N.gw hI
      ·obtain ⟨_, rfl, r8⟩ := hd 19 36
       refine N.yes ?_; have x0 := (bO.o.later hI).cell (j := 5) rfl; exact N.gw hI
      ·obtain ⟨_, rfl, r9⟩ := hd 18 35; obtain ⟨_, rfl, zi⟩ := hd 20 37
       refine N.yes ?_; refine N.Gives.call (f := 89) (args := #[s.val y, .slice z.B r.nodes.length z.d]) (w' := wi) (by go_simp) ?_; refine (cG (fH s y z.B r.nodes z.d wi (cB.o.later hI).2.1 (Nat.le_trans dP.o.2 (by decide))) DR.o).mono ?_; rintro e w'' ⟨rfl, hbb⟩; exact ⟨_, rfl, ⟨rfl, hI.trans (hbb.mono hI.size), fun j u _ _ h => fS hbb h⟩⟩
      ·obtain ⟨_, rfl, zB⟩ := hd 15 32; obtain ⟨_, rfl, e38⟩ := hd 21 38; exact N.gw hI
      ·obtain ⟨_, rfl, e39⟩ := hd 22 39; exact N.gw hI
      iterate 8 ·exact N.no hI
      ·obtain ⟨_, rfl, wS⟩ := hd 23 40; obtain ⟨_, rfl, Jh⟩ := hd 31 48; exact N.gw hI
      obtain ⟨_, rfl, U5⟩ := hd 32 49; exact N.gw hI
     intro V wd hV hI
     have su : V 33 = .bool true := hV 33 (by decide) rfl; simp only [N.aP, List.foldl_cons, List.foldl_nil, Act.put, List.setIfInBounds_toArray, List.set_cons_succ, List.set_cons_zero, su]; replace hI : (fun a => Below wc.heap.size wc a) wd := hI; clear hV su; have cu := ak (aR.o.later hI); have fT := ak (bO.o.later hI); have jR := ak (cB.o.later hI); have ez := ak (bB.o.trans (hI.mono bB.o.size)); clear hI; have bf : Hid (F = (s, 1)) := ak (by rw [HF.o]; unfold bq; rw [zG.o, if_neg (by decide), zF.o, if_neg (by decide), I6.o, if_neg (by decide), if_pos DR.o])
     go_wp2_with fail
     go_returns
     exact ⟨aL (by rw [bf.o]), by rw [bf.o]; exact Step.same cu.o ez.o⟩
    | false =>
     have DR := ak h3; clear h3; refine N.rb 33 [33] (qJ s y r z b w.heap.size) wc (fun V => [(some 17, V 0), (some 18, V 1), (some 19, V 2), (some 20, V 3), (some 21, V 4), (some 22, V 5), (some 23, V 6), (some 24, V 7), (some 25, V 8), (some 26, V 9), (some 27, V 10), (some 28, V 11), (some 29, V 12), (some 30, V 13), (some 31, V 14), (some 32, V 15), (some 33, V 16), (some 34, V 17), (some 35, V 18), (some 36, V 19), (some 37, V 20), (some 38, V 21), (some 39, V 22), (some 40, V 23), (some 41, V 24), (some 42, V 25), (some 43, V 26), (some 44, V 27), (some 45, V 28), (some 46, V 29), (some 47, V 30), (some 48, V 31), (some 49, V 32), (some 16, V 33)]) ?_ ?_
     ·intro i o ho
      have hi : i < 34 := (Array.getElem?_eq_some_iff.1 ho).1; rcases i with _ | _ | _ | _ | _ | _ | _ | _ | _ | _ | _ | _ | _ | _ | _ | _ | _ | _ | _ | _ | _ | _ | _ | _ | _ | _ | _ | _ | _ | _ | _ | _ | _ | _ | i
      rotate_right
      ·omega
      all_goals obtain rfl := Option.some.inj ho
      all_goals intro ρ wi hE hI hs hd
      all_goals try dsimp only at hI
      all_goals (have e0 : ρ (.tmp 0) = (au b) := hs 0; have e3 : ρ (.tmp 3) = (au w.heap.size) := hs 3; have hc := hE.const; have hf := hE.func)
      iterate 2 ·exact N.gw hI
      ·obtain ⟨_, rfl, e18⟩ := hd 1 18; have x0 := (bO.o.later hI).cell (j := 4) rfl; exact N.gw hI
      ·obtain ⟨_, rfl, e17⟩ := hd 0 17; obtain ⟨_, rfl, e19⟩ := hd 2 19
       refine N.Gives.call (f := 91) (args := #[(au b), .slice z.A r.items.length z.c]) (w' := wi) (by go_simp) ?_; refine (cG (j4 s y z.A r.items z.c b wi (cB.o.later hI).1 (aR.o.later hI).br (Nat.le_trans dP.o.1 (by decide))) zF.o).mono ?_; rintro e w'' ⟨rfl, hbb⟩; exact ⟨_, rfl, ⟨rfl, hI.trans (hbb.mono hI.size), fun j u _ _ h => fR hbb h⟩⟩
      ·obtain ⟨_, rfl, wL⟩ := hd 3 20; exact N.gw hI
      ·obtain ⟨_, rfl, ug⟩ := hd 4 21; exact N.gw hI
      ·refine N.yes ?_
       exact N.gw hI
      ·obtain ⟨_, rfl, Fu⟩ := hd 6 23
       refine N.yes ?_; exact N.gw hI
      ·obtain ⟨_, rfl, DL⟩ := hd 7 24
       refine N.yes ?_; exact N.Gives.value (v := s.val y) (w' := wi) (aQ _ _ rfl _ _ (by assumption) (aS (aR.o.later hI))) (N.bA.same hI rfl)
      ·refine N.yes ?_
       exact N.gw hI
      ·obtain ⟨_, rfl, zj⟩ := hd 9 26
       refine N.yes ?_; exact N.gw hI
      ·obtain ⟨_, rfl, Bn⟩ := hd 10 27
       refine N.yes ?_; have x0 := (bO.o.later hI).cell (j := 1) rfl; exact N.gw hI
      ·obtain ⟨_, rfl, Bl⟩ := hd 11 28
       refine N.yes ?_; have hal := av wi (.cells #[iv r.tid.node] 3); exact N.Gives.value (v := .slice (some ⟨wi.heap.size, 0, none⟩) 1 1) (w' := wi.alloc (.cells #[iv r.tid.node] 3)) (by go_simp) ⟨⟨_, rfl, aB wi _ _ _ rfl⟩, hI.trans (hal.mono hI.size), fun j u _ _ h => fR hal h⟩
      ·obtain ⟨_, rfl, DK⟩ := hd 8 25; obtain ⟨u29, K8, wK⟩ := hd 12 29
       refine N.yes ?_; obtain ⟨kk, rfl, gH⟩ := K8; refine N.Gives.call (f := 89) (args := #[s.val y, .slice (some ⟨kk, 0, none⟩) 1 1]) (w' := wi) (by go_simp) ?_; refine (cG (fH s y (some ⟨kk, 0, none⟩) [r.tid.node] 1 wi (fun j hj => ⟨kk, 0, rfl, eI gH j hj⟩) (by simp)) I6.o).mono ?_; rintro e w'' ⟨rfl, hbb⟩; exact ⟨_, rfl, ⟨rfl, hI.trans (hbb.mono hI.size), fun j u _ _ h => fR hbb h⟩⟩
      ·obtain ⟨_, rfl, wT⟩ := hd 5 22; obtain ⟨_, rfl, e30⟩ := hd 13 30; exact N.gw hI
      ·obtain ⟨_, rfl, uQ⟩ := hd 14 31; exact N.gw hI
      ·refine N.yes ?_
       exact N.gw hI
      ·obtain ⟨_, rfl, Bk⟩ := hd 16 33
       refine N.yes ?_; exact N.gw hI
      ·obtain ⟨_, rfl, Bj⟩ := hd 17 34
       refine N.yes ?_; exact N.Gives.value (v := s.val y) (w' := wi) (aQ _ _ rfl _ _ (by assumption) (aS (aR.o.later hI))) (N.bA.same hI rfl)
      ·refine N.yes ?_
       exact N.gw hI
      ·obtain ⟨_, rfl, r8⟩ := hd 19 36
       refine N.yes ?_; have x0 := (bO.o.later hI).cell (j := 5) rfl; exact N.gw hI
      ·obtain ⟨_, rfl, r9⟩ := hd 18 35; obtain ⟨_, rfl, zi⟩ := hd 20 37
       refine N.yes ?_; refine N.Gives.call (f := 89) (args := #[s.val y, .slice z.B r.nodes.length z.d]) (w' := wi) (by go_simp) ?_; refine (cG (fH s y z.B r.nodes z.d wi (cB.o.later hI).2.1 (Nat.le_trans dP.o.2 (by decide))) DR.o).mono ?_; rintro e w'' ⟨rfl, hbb⟩; exact ⟨_, rfl, ⟨rfl, hI.trans (hbb.mono hI.size), fun j u _ _ h => fR hbb h⟩⟩
      ·obtain ⟨_, rfl, zB⟩ := hd 15 32; obtain ⟨_, rfl, e38⟩ := hd 21 38; exact N.gw hI
      ·obtain ⟨_, rfl, e39⟩ := hd 22 39; exact N.gw hI
      ·refine N.yes ?_
       exact N.gw hI
      ·obtain ⟨_, rfl, zA⟩ := hd 24 41
       refine N.yes ?_; have x0 := (bO.o.later hI).cell (j := 5) rfl; exact N.gw hI
      ·refine N.yes ?_
       exact N.gw hI
      ·obtain ⟨_, rfl, uP⟩ := hd 26 43
       refine N.yes ?_; exact N.gw hI
      ·obtain ⟨_, rfl, uO⟩ := hd 27 44
       refine N.yes ?_; exact N.gw hI
      ·obtain ⟨_, rfl, DI⟩ := hd 28 45
       refine N.yes ?_; have x0 := (aR.o.later hI).br.cell (j := 0) rfl; exact N.gw hI
      ·obtain ⟨_, rfl, DJ⟩ := hd 25 42; obtain ⟨_, rfl, F4⟩ := hd 29 46
       refine N.yes ?_; refine N.Gives.call (f := 92) (args := #[.slice z.B r.nodes.length z.d, iv s.node]) (w' := wi) (by go_simp) ?_; refine (wE z.B r.nodes z.d s.node wi (cB.o.later hI).2.1 (Nat.le_trans dP.o.2 (by decide))).mono ?_; rintro e w'' ⟨rfl, rfl⟩; exact ⟨_, rfl, N.bA.same hI rfl⟩
      ·obtain ⟨_, rfl, U6⟩ := hd 30 47
       refine N.yes ?_; exact N.gw hI
      ·obtain ⟨_, rfl, wS⟩ := hd 23 40; obtain ⟨_, rfl, Jh⟩ := hd 31 48; exact N.gw hI
      obtain ⟨_, rfl, U5⟩ := hd 32 49; exact N.gw hI
     intro V wd hV hI
     have su : V 33 = .bool (!(cX s r.nodes)) := hV 33 (by decide) rfl; simp only [N.aP, List.foldl_cons, List.foldl_nil, Act.put, List.setIfInBounds_toArray, List.set_cons_succ, List.set_cons_zero, su]; replace hI : (fun a => Below wc.heap.size wc a) wd := hI; clear hV su; have cu := ak (aR.o.later hI); have fT := ak (bO.o.later hI); have jR := ak (cB.o.later hI); have ez := ak (bB.o.trans (hI.mono bB.o.size)); clear hI
     cases h4 : cX s r.nodes with
     | false =>
      have UC := ak h4; clear h4; have bf : Hid (F = (s, 1)) := ak (by rw [HF.o]; unfold bq; rw [zG.o, if_neg (by decide), zF.o, if_neg (by decide), I6.o, if_neg (by decide), DR.o, if_neg (by decide), if_pos UC.o])
      go_wp2_with fail
      go_returns
      exact ⟨aL (by rw [bf.o]), by rw [bf.o]; exact Step.same cu.o ez.o⟩
     | true =>
      have UC := ak h4; clear h4; have Vs : Hid (F = if bK s r.items = 0 then (if room s = false then (s, 6) else (eN s r, 0)) else (s, bK s r.items)) := ak (by rw [HF.o]; unfold bq; rw [zG.o, if_neg (by decide), zF.o, if_neg (by decide), I6.o, if_neg (by decide), DR.o, if_neg (by decide), UC.o, if_neg (by decide)]); have hx := fT.o; unfold Rc.vals at hx; have x4 := hx.cell (j := 4) rfl; clear hx; obtain ⟨n, hn⟩ := ah r.items.length; have HN := ak hn; have hn1 : n <= 1000 := by rw [<- hn]; exact dP.o.1
      go_wp2_with fail
      clear x4; simp only [hn]; clear hn
      go_loopw [53] (fun i wr => ∃ j0 : Nat, j0 <= n /\ i = iv (j0 : Int) /\ Hid (bK s (r.items.drop j0) = bK s r.items) /\ Hid (Below wd.heap.size wd wr)) (fun i _ => n - (intOf i).toNat)
      case atStart => exact ⟨0, Nat.zero_le _, rfl, ak (by rw [List.drop_zero]), ak (Below.refl _ _)⟩
      case round =>
       obtain ⟨j0, hj, rfl, HE, dA⟩ := hrel
       by_cases hlt : j0 < n
       ·have hlk : j0 < r.items.length := by have := HN.o; omega
        obtain ⟨ab, off, hA, hit⟩ := (jR.o.later dA.o).1 j0 hlk; obtain ⟨x, hx⟩ := ah (r.items[j0]); have rJ : Hid ((if cC s x = 0 then bK s (r.items.drop (j0 + 1)) else cC s x) = bK s r.items) := ak (by rw [<- HE.o, List.drop_eq_getElem_cons hlk, hx]; rfl); rw [hx] at hit; have z0 := hit.cell; have z1 := hit.version; have z2 := hit.value; have z3 := hit.write; have z4 := hit.new; have HZA := ak hA; clear hit hx hlk; obtain ⟨wx, hwx⟩ := aj (wr.alloc (.cells #[iv x.cell, iv x.version, iv x.value, .bool x.write, iv x.new] 64)); have uj : Hid (Below wd.heap.size wd wx) := ak (by rw [hwx]; exact dA.o.trans ((av _ _).mono dA.o.size)); simp only [hA]; clear hA
        go_wp2_with fail
        rw [<- hwx]; clear hwx z0 z1 z2 z3 z4; refine (wo s y x b wx (cu.o.later uj.o).sees (cu.o.later uj.o).br ⟨Nat.le_trans dU.o.ay (by decide), fun p hp => Nat.le_trans (dU.o.pin p hp).1 (by decide)⟩).mono ?_; rintro e w2 ⟨rfl, hb2⟩; have bZ := ak (uj.o.trans (hb2.mono uj.o.size)); clear hb2
        by_cases hl : cC s x = 0
        ·have HE3 : Hid (bK s (r.items.drop (j0 + 1)) = bK s r.items) := ak (by have h := rJ.o; rw [if_pos hl] at h; exact h)
         simp only [hl]; clear hl
         go_wp2_with fail
         go_roundw
         case rel => exact ⟨j0 + 1, by omega, by go_num, HE3, bZ⟩
         case measure => simp [intOf]; omega
        have Vo := ak hl
        have bf : Hid (F = (s, cC s x)) := ak (by rw [Vs.o, <- rJ.o, if_neg Vo.o, if_neg Vo.o]); obtain ⟨ec, UW⟩ := ah (cC s x); rw [UW] at bf hl ⊢; have hnz : (ec != 0) = true := by simpa using hl
        clear UW
        go_wp2_with fail
        go_returns
        exact ⟨aL (by rw [bf.o]), by rw [bf.o]; exact Step.same (cu.o.later bZ.o) (ez.o.trans (bZ.o.mono ez.o.size))⟩
       have HE0 : Hid (bK s r.items = 0) := ak (by rw [<- HE.o, List.drop_of_length_le (by have := HN.o; omega)]; rfl)
       have Wq := ak (cu.o.later dA.o); have aao := ak (fT.o.later dA.o); have aav := ak (jR.o.later dA.o); have WJ := ak (ez.o.trans (dA.o.mono ez.o.size)); have hq := Wq.o.br; unfold St.vals at hq; obtain ⟨q0, q1, q2, q3, q4, q5, q6, q7⟩ := hq.q8; clear hq
       go_wp2_with fail
       clear q0 q1 q2 q3 q4 q5 q6 q7; refine (xG s y wr (Nat.le_trans dU.o.ay (by decide)) (Nat.le_trans dU.o.dec (by decide))).mono ?_; rintro e wk ⟨he, hI⟩; replace he : e = .returned (.bool (room s)) := he; subst he; have Ws := ak (Wq.o.later hI); have Wn := ak (aao.o.later hI); have aaw := ak (aav.o.later hI); have TB := ak (WJ.o.trans (hI.mono WJ.o.size)); clear hI
       cases hl : room s with
       | false =>
        have HL := ak hl; clear hl; have bf : Hid (F = (s, 6)) := ak (by rw [Vs.o, if_pos HE0.o, if_pos HL.o])
        go_wp2_with fail
        go_returns
        exact ⟨aL (by rw [bf.o]), by rw [bf.o]; exact Step.same Ws.o TB.o⟩
       | true =>
        have HL := ak hl; clear hl; have bf : Hid (F = (eN s r, 0)) := ak (by rw [Vs.o, if_pos HE0.o, if_neg (by rw [HL.o]; decide)]); have hx := Wn.o; unfold Rc.vals at hx; obtain ⟨x0, x1, x2, x3, x4, x5, x6, x7, x8, x9, x10, eW, eV, eU, dZ⟩ := hx.iZ; clear hx
        go_upto_region 15 with (fail)
        clear x0 x1 x2 x3 x4 x5 x6 x7 x8 x9 x10 eW eV eU dZ; obtain ⟨we, jf⟩ := aj (wk.alloc (.cells #[iv r.tid.node, iv r.tid.epoch, iv r.tid.seq, .slice z.A r.items.length z.c, .slice z.B r.nodes.length z.d] 78)); have hI : Below wk.heap.size wk we := by rw [jf]; exact av _ _
        have Gr : Hid (Cells we wk.heap.size 78 [iv r.tid.node, iv r.tid.epoch, iv r.tid.seq, .slice z.A r.items.length z.c, .slice z.B r.nodes.length z.d]) := ak (by rw [jf]; exact aB _ _ _ _ rfl); rw [<- jf]; clear jf; have fV := ak (Ws.o.later hI); have lF := ak (Wn.o.later hI); have vO := ak (aaw.o.later hI); have jC := ak (TB.o.trans (hI.mono TB.o.size)); clear hI; have uT : Hid (base <= we.heap.size) := ak (Nat.le_trans F9.o jC.o.size); have HI : Hid (∀ V : Nat -> Value, cond false (Step base b s y we (eN s r) we.drew) (cond false (∃ ps', fX base b y (eN s r).ay ps' we (V 7) we.drew) (cond false (KP b y (jy r) we (V 6) we.drew) (Below we.heap.size we we.drew)))) := ak fun V => (Below.refl _ _).drew
        refine N.bk (by kernel_rfl) (fun i => ([some ((au b)), some ((au b)), some ((au b)), some (.pointer (some ⟨b, 5, none⟩)), some (.slice y.Q s.ay.length y.q), some (.agg #[iv r.tid.node, iv r.tid.epoch, iv r.tid.seq, .slice z.A r.items.length z.c, .slice z.B r.nodes.length z.d]), none, none, some ((au b)), some (.pointer (some ⟨b, 5, none⟩)), none] : List (Option Value)).getD i none) (fun D V W => cond (D 10) (Step base b s y we (eN s r) W) (cond (D 7) (∃ ps', fX base b y (eN s r).ay ps' we (V 7) W) (cond (D 6) (KP b y (jy r) we (V 6) W) (Below we.heap.size we W)))) (fun V => [(some 76, V 0), (some 77, V 1), (some 78, V 2), (some 79, V 3), (some 80, V 4), (some 81, V 5), (some 82, V 6), (some 83, V 7), (some 84, V 8), (some 85, V 9), (none, V 10)]) (by kernel_rfl) (by kernel_rfl) (fun V => rfl) ?_ ?_ ?_
        ·intro V
         exact HI.o V
        ·intro i o ho
         have hi : i < 11 := (Array.getElem?_eq_some_iff.1 ho).1; rcases i with _ | _ | _ | _ | _ | _ | _ | _ | _ | _ | _ | i
         rotate_right
         ·omega
         all_goals obtain rfl := Option.some.inj ho
         all_goals intro D V ρ wi hE hI cP hT hF hs hd hk
         all_goals (have e0 : ρ (.tmp 0) = (au b) := hs 0; have hf := hE.func)
         ·clear hT hF hk
          exact N.gi _ ⟨fun _ => N.oi, hI⟩
         ·clear hT hF hk
          exact N.gi _ ⟨fun _ => N.oi, hI⟩
         ·have Yj := (hd 1 77).trans (hk 1 _ rfl); clear hT hF hk
          exact N.gi _ ⟨fun _ => N.oi, hI⟩
         ·have e78 := (hd 2 78).trans (hk 2 _ rfl); clear hT hF hk
          exact N.gi _ ⟨fun _ => N.oi, hI⟩
         ·have e79 := (hd 3 79).trans (hk 3 _ rfl); have dN : D 7 = false := hF 1 7; have cI : D 10 = false := hF 1 10; clear hT hF; have gX := hI
          simp only [dN, cI, cond_false] at hI; have fO : Below we.heap.size we wi := by revert hI; cases D 6 <;> intro hI <;> first | exact hI | exact hI.1
          have x0 := (fV.o.later fO).br.cell (j := 5) rfl; clear hI; exact N.gi _ ⟨fun _ => N.oi, gX⟩
         ·have e8 : ρ (.tmp 8) = (au wk.heap.size) := hs 8; have FY : D 6 = false := hF 1 6; have dN : D 7 = false := hF 2 7; have cI : D 10 = false := hF 1 10; clear hT hF; have gX := hI
          simp only [FY, dN, cI, cond_false] at hI; have hz := Gr.o.later hI; obtain ⟨x0, x1, x2, x3, x4⟩ := hz.q5; clear hz; exact N.gi _ ⟨fun _ => N.oi, gX⟩
         ·have e81 := (hd 5 81).trans (hk 5 _ rfl); have FY : D 6 = false := cP; have dN : D 7 = false := hF 1 7; have cI : D 10 = false := hF 1 10; clear hT hF
          simp only [FY, dN, cI, cond_false] at hI; refine N.Gives.call (f := 53) (args := #[.agg #[iv r.tid.node, iv r.tid.epoch, iv r.tid.seq, .slice z.A r.items.length z.c, .slice z.B r.nodes.length z.d]]) (w' := wi) (by go_simp) ?_; refine (tJ (jy r) z wi (vO.o.later hI) ⟨Nat.le_trans dP.o.1 (by decide), Nat.le_trans dP.o.2 (by decide)⟩).mono ?_; rintro e w'' ⟨⟨lay, rfl, hfr⟩, hb'⟩; refine ⟨_, rfl, fun x h => (by cases h), ?_⟩; show cond (D 10) (Step base b s y we (eN s r) w'') (cond (D 7) (∃ ps', fX base b y (eN s r).ay ps' we (V 7) w'') (cond true (KP b y (jy r) we (Value.agg ((jy r).vals lay).toArray) w'') (Below we.heap.size we w'')))
          rw [dN, cI]; exact KP.make (fV.o.later hI) hI hfr hb'
         ·have Yi := (hd 4 80).trans (hk 4 _ rfl); have Xj : ρ (.tmp 82) = V 6 := hd 6 82; have FY : D 6 = true := hT 1 6; have dN : D 7 = false := cP; have cI : D 10 = false := hF 1 10; clear hT hF
          simp only [FY, dN, cI, cond_true, cond_false] at hI; obtain ⟨hb, lay, hv, hfr⟩ := hI; have aei : ρ (.tmp 82) = .agg #[iv r.tid.node, iv r.tid.epoch, iv r.tid.seq, .slice lay.A r.items.length lay.c, .slice lay.B r.nodes.length lay.d] := Xj.trans hv; clear Xj; refine N.Gives.call (f := 95) (args := #[.slice y.Q s.ay.length y.q, .func (.func 42) #[] #[], .agg #[iv r.tid.node, iv r.tid.epoch, iv r.tid.seq, .slice lay.A r.items.length lay.c, .slice lay.B r.nodes.length lay.d]]) (w' := wi) (by go_simp) ?_; refine (EJ (p := jy r) (lay := lay) fV.o hb uT.o dU.o.ay hfr).mono ?_; rintro e w'' ⟨v', rfl, hins⟩; refine ⟨_, rfl, fun x h => (by cases h), ?_⟩; show cond (D 10) (Step base b s y we (eN s r) w'') (cond true (∃ ps', fX base b y (eN s r).ay ps' we v' w'') (cond (D 6) (KP b y (jy r) we (V 6) w'') (Below we.heap.size we w'')))
          rw [cI]; exact ⟨_, hins⟩
         ·have e76 := (hd 0 76).trans (hk 0 _ rfl); clear hT hF hk
          exact N.gi _ ⟨fun _ => N.oi, hI⟩
         ·have Yh := (hd 8 84).trans (hk 8 _ rfl); clear hT hF hk
          exact N.gi _ ⟨fun _ => N.oi, hI⟩
         have e85 := (hd 9 85).trans (hk 9 _ rfl); have Xi : ρ (.tmp 83) = V 7 := hd 7 83; have dN : D 7 = true := hT 1 7; have cI : D 10 = false := cP; clear hT hF
         simp only [dN, cI, cond_true, cond_false] at hI; obtain ⟨ps', hI⟩ := hI; obtain ⟨A9, n9, c9, f1, x0, x1⟩ := iY fV.o hI; have aeh := Xi.trans f1; clear Xi; exact N.Gives.skip (w' := wi.setCell ⟨b, 5, none⟩ (V 7)) (by rw [f1]; clear f1; go_simp) ⟨fun x h => (by cases h), jI fV.o hI⟩
        intro V wf hk hI
        simp only [N.aP, List.foldl_cons, List.foldl_nil, Act.put, List.setIfInBounds_toArray, List.set_cons_succ, List.set_cons_zero]; replace hI : cond true (Step base b s y we (eN s r) wf) (cond true (∃ ps', fX base b y (eN s r).ay ps' we (V 7) wf) (cond true (KP b y (jy r) we (V 6) wf) (Below we.heap.size we wf))) := hI; clear hk; have iu := ak hI; clear hI HI
        go_wp2_with fail
        go_returns
        exact ⟨aL (by rw [bf.o]), by rw [bf.o]; exact Step.before jC.o iu.o⟩
