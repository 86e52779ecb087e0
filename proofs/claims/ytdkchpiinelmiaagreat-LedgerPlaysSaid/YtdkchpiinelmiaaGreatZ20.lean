/- Part 20 of the proof. Conditions: none. -/
import Derived.Test.YtdkchpiinelmiaaGreatZ18
namespace Go.Proofs.YtdkchpiinelmiaaGreat.Led
set_option maxRecDepth 100000
open Go.RowKit Go.Deep Mem fN Rec
def gI (l : List De) (d : De) : List De := l.take (fC (l.map fun x => ord x.tid d.tid)) ++ d :: l.drop (fC (l.map fun x => ord x.tid d.tid))
theorem Ip (l : List De) (d : De) : (gI l d).length = l.length + 1 := by
 have h := mB (l.map fun x => ord x.tid d.tid); rw [List.length_map] at h; unfold gI
 simp
 omega
def eX (s : St) (r : Rc) : St := { s with dec := gI s.dec ⟨r.tid, r.yes⟩ }
def dK (s : St) (r : Rc) : St × Int := if known s r.tid = true then (s, 9) else if above s [r.tid.node] = true then (s, 1) else if room s = false then (s, 6) else (eX s r, 0)
def dH (s : St) (r : Rc) : St × Int := if 0 <= dJ s r.tid then (s, 9) else if r.yes = true then (s, 10) else dK s r
def zN (base : Nat) (s : St) (y : Sy) (r : Rc) (w0 : World) (v : Value) (w : World) : Prop := ∃ A c, v = .slice A (eX s r).dec.length c /\ w.ownsRow base 79 4 (.slice A (eX s r).dec.length c) (eX s r).dec.length ((eX s r).dec.map De.vals).flatten /\ Only (fun k => some k = blk y.D) w0 w /\ ∀ j, blk A = some j -> blk y.D = some j \/ w0.heap.size <= j
theorem EM {base b : Nat} {s : St} {y : Sy} {w0 w : World} (r : Rc) (h : Own base w b s y) (hb : Below w0.heap.size w0 w) (hbase : base <= w0.heap.size) (hs : Small s) :
  Calls Tryz.prog 113 #[.slice y.D s.dec.length y.d, .func (.func 44) #[] #[], .agg #[iv r.tid.node, iv r.tid.epoch, iv r.tid.seq, .bool r.yes]] w fun e w' => ∃ v, e = .returned v /\ zN base s y r w0 v w' := by
 have hi := Av (.slice y.D s.dec.length y.d) (s.dec.map De.vals) (s.dec.map fun x => ord x.tid r.tid) ⟨r.tid, r.yes⟩ base w (Nat.le_trans hbase hb.size) (fG _) (by rw [List.length_map]; exact h.lists.jv) (by rw [List.length_map, List.length_map]) (by rw [List.length_map]; exact hs.dec) (fun k hk hk' => ⟨s.dec[k]'(by simpa using hk), by rw [List.getElem_map], by rw [List.getElem_map]⟩); refine hi.mono ?_; rintro e w' ⟨v, rfl, h1, h2, h3⟩; have e1 : (s.dec.map De.vals).take (fC (s.dec.map fun x => ord x.tid r.tid)) ++ De.vals ⟨r.tid, r.yes⟩ :: (s.dec.map De.vals).drop (fC (s.dec.map fun x => ord x.tid r.tid)) = (eX s r).dec.map De.vals := by
  unfold eX gI; rw [List.map_append, List.map_cons, List.map_take, List.map_drop]
 rw [e1, List.length_map] at h1; obtain ⟨A, c, rfl⟩ := bD h1; rw [aK, aK] at h3; refine ⟨_, rfl, A, c, rfl, h1, (Only.of_below hb).trans (h2.mono fun k _ e => by rw [aK] at e; exact e) fun _ _ e => e, fun j e => ?_⟩; rcases h3 with h3 | ⟨k, h3, hk⟩
 ·exact Or.inl (h3.symm.trans e)
 have : j = k := Option.some.inj (e.symm.trans h3)
 have := hb.size; exact Or.inr (by omega)
theorem EL {base b : Nat} {s : St} {y : Sy} {r : Rc} {w0 w : World} {v : Value} (h0 : Own base w0 b s y) (h : zN base s y r w0 v w) : Step base b s y w0 (eX s r) (w.setCell ⟨b, 6, none⟩ v) := by
 obtain ⟨A, c, rfl, h1, h2, h3⟩ := h; have cV := aJ h0.br h2 (fun e => h0.off (Or.inr (Or.inr (Or.inl e)))); have hb := cV.lt; refine ⟨_, h0.Zc (l' := (eX s r).dec) h2 h1 h3 (Only.b_ w ⟨b, 6, none⟩ _) (cV.fB 6 _), (h2.mono fun k _ e => Or.inr (Or.inr (Or.inr (Or.inl e)))).trans (Only.b_ w ⟨b, 6, none⟩ _) fun k _ e => Or.inl e, fun k e => ?_⟩; rcases e with e | e | e | e | e
 ·exact Or.inl (Or.inl e)
 ·exact Or.inl (Or.inr (Or.inl e))
 ·exact Or.inl (Or.inr (Or.inr (Or.inl e)))
 ·exact (grown h3 e).imp_left fun h => Or.inr (Or.inr (Or.inr (Or.inl h)))
 exact Or.inl (Or.inr (Or.inr (Or.inr (Or.inr e))))
theorem Ay {base b : Nat} {s : St} {y : Sy} {r : Rc} {w0 w : World} {v : Value} (h0 : Own base w0 b s y) (h : zN base s y r w0 v w) : ∃ A n c, v = .slice A n c /\ w.cell? ⟨b, 6, none⟩ = some (.slice y.D s.dec.length y.d) /\ w.frozen? ⟨b, 6, none⟩ = false := by
 obtain ⟨A, c, rfl, h1, h2, h3⟩ := h; have cV := aJ h0.br h2 (fun e => h0.off (Or.inr (Or.inr (Or.inl e)))); exact ⟨A, _, c, rfl, cV.cell (j := 6) rfl, cV.frozen (j := 6) (by unfold St.vals; simp)⟩
set_option maxHeartbeats 2000000 in
theorem gD (s : St) (y : Sy) (r : Rc) (z : Lay) (base b : Nat) (w : World) (ho : Own base w b s y) (hh : Two w r.items r.nodes z) (hs : Small s) (hr : r.items.length <= 1000 /\ r.nodes.length <= 1000) :
  Calls Tryz.prog 99 #[(au b), r.val z] w fun e w' => e = .returned (.tuple #[]) /\ Step base b s y w (eX s r) w' := by
 obtain ⟨wb, hwb⟩ := aj (w.alloc (.cells #[iv r.kind, iv r.tid.node, iv r.tid.epoch, iv r.tid.seq, .slice z.A r.items.length z.c, .slice z.B r.nodes.length z.d, iv r.node, iv r.count, iv r.num, iv r.cell, iv r.status, iv r.hop, iv r.version, iv r.value, .bool r.yes] 51)); have hb : Below w.heap.size w wb := by rw [hwb]; exact av _ _
 have bG := ak (ho.later hb); have bh : Hid (Cells wb w.heap.size 51 (r.vals z)) := ak (by rw [hwb]; exact aB _ _ _ _ rfl); have bI := ak (hh.later hb); have bH := ak hb; have dU := ak hs; have dP := ak hr; have uT : Hid (base <= wb.heap.size) := ak (Nat.le_trans ho.low (Nat.le_of_lt (Nat.lt_of_lt_of_le ho.br.lt hb.size))); have HI : Hid (∀ V : Nat -> Value, cond false (Step base b s y wb (eX s r) wb.drew) (cond false (zN base s y r wb (V 10) wb.drew) (Below wb.heap.size wb wb.drew))) := ak fun V => (Below.refl _ _).drew
 unfold Rc.val; clear ho hh hs hr hb
 go_enter Tryz.func99, Tryz.ntmps99
 go_wp2_with fail
 rw [<- hwb]; clear hwb; refine N.bk (by kernel_rfl) (fun i => ([some ((au b)), some ((au b)), some ((au b)), some (.pointer (some ⟨b, 6, none⟩)), some (.slice y.D s.dec.length y.d), some (.pointer (some ⟨w.heap.size, 1, none⟩)), some (.agg #[iv r.tid.node, iv r.tid.epoch, iv r.tid.seq]), some (.pointer (some ⟨w.heap.size, 14, none⟩)), some (.bool r.yes), some (.agg #[iv r.tid.node, iv r.tid.epoch, iv r.tid.seq, .bool r.yes]), none, some ((au b)), some (.pointer (some ⟨b, 6, none⟩)), none] : List (Option Value)).getD i none) (fun D V W => cond (D 13) (Step base b s y wb (eX s r) W) (cond (D 10) (zN base s y r wb (V 10) W) (Below wb.heap.size wb W))) (fun V => [(some 4, V 0), (some 5, V 1), (some 6, V 2), (some 7, V 3), (some 8, V 4), (some 9, V 5), (some 10, V 6), (some 11, V 7), (some 12, V 8), (some 13, V 9), (some 14, V 10), (some 15, V 11), (some 16, V 12), (none, V 13)]) (by kernel_rfl) (by kernel_rfl) (fun V => rfl) ?_ ?_ ?_
 ·intro V
  exact HI.o V
 ·intro i o ho
  have hi : i < 14 := (Array.getElem?_eq_some_iff.1 ho).1; rcases i with _ | _ | _ | _ | _ | _ | _ | _ | _ | _ | _ | _ | _ | _ | i
  rotate_right
  ·omega
  all_goals obtain rfl := Option.some.inj ho
  all_goals intro D V ρ wi hE hI cP hT hF hs hd hk
  all_goals (have e0 : ρ (.tmp 0) = (au b) := hs 0; have e3 : ρ (.tmp 3) = (au w.heap.size) := hs 3)
  ·clear hT hF hk
   exact N.gi _ ⟨fun _ => N.oi, hI⟩
  ·clear hT hF hk
   exact N.gi _ ⟨fun _ => N.oi, hI⟩
  ·have e5 := (hd 1 5).trans (hk 1 _ rfl); clear hT hF hk
   exact N.gi _ ⟨fun _ => N.oi, hI⟩
  ·have e6 := (hd 2 6).trans (hk 2 _ rfl); clear hT hF hk
   exact N.gi _ ⟨fun _ => N.oi, hI⟩
  ·have e7 := (hd 3 7).trans (hk 3 _ rfl); have cI : D 10 = false := hF 1 10; have dD : D 13 = false := hF 1 13; clear hT hF; have gX := hI
   simp only [cI, dD, cond_false] at hI; have x0 := (bG.o.later hI).br.cell (j := 6) rfl; exact N.gi _ ⟨fun _ => N.oi, gX⟩
  ·clear hT hF hk
   exact N.gi _ ⟨fun _ => N.oi, hI⟩
  ·have e9 := (hd 5 9).trans (hk 5 _ rfl); have cI : D 10 = false := hF 2 10; have dD : D 13 = false := hF 1 13; clear hT hF; have gX := hI
   simp only [cI, dD, cond_false] at hI; have x0 := (bh.o.later hI).cell (j := 1) rfl; have x1 := (bh.o.later hI).cell (j := 2) rfl; have x2 := (bh.o.later hI).cell (j := 3) rfl; exact N.gi _ ⟨fun _ => N.oi, gX⟩
  ·clear hT hF hk
   exact N.gi _ ⟨fun _ => N.oi, hI⟩
  ·have e11 := (hd 7 11).trans (hk 7 _ rfl); have cI : D 10 = false := hF 2 10; have dD : D 13 = false := hF 1 13; clear hT hF; have gX := hI
   simp only [cI, dD, cond_false] at hI; have x0 := (bh.o.later hI).cell (j := 14) rfl; exact N.gi _ ⟨fun _ => N.oi, gX⟩
  ·have e10 := (hd 6 10).trans (hk 6 _ rfl); have e12 := (hd 8 12).trans (hk 8 _ rfl); clear hT hF hk
   exact N.gi _ ⟨fun _ => N.oi, hI⟩
  ·have e8 := (hd 4 8).trans (hk 4 _ rfl); have l5 := (hd 9 13).trans (hk 9 _ rfl); have hf := hE.func; have cI : D 10 = false := cP; have dD : D 13 = false := hF 1 13; clear hT hF
   simp only [cI, dD, cond_false] at hI; refine N.Gives.call (f := 113) (args := #[.slice y.D s.dec.length y.d, .func (.func 44) #[] #[], .agg #[iv r.tid.node, iv r.tid.epoch, iv r.tid.seq, .bool r.yes]]) (w' := wi) (by go_simp) ?_; refine (EM r (bG.o.later hI) hI uT.o dU.o).mono ?_; rintro e w'' ⟨v', rfl, hins⟩; refine ⟨_, rfl, fun x h => (by cases h), ?_⟩; show cond (D 13) (Step base b s y wb (eX s r) w'') (cond true (zN base s y r wb v' w'') (Below wb.heap.size wb w''))
   rw [dD]; exact hins
  ·have e4 := (hd 0 4).trans (hk 0 _ rfl); clear hT hF hk
   exact N.gi _ ⟨fun _ => N.oi, hI⟩
  ·have mY := (hd 11 15).trans (hk 11 _ rfl); clear hT hF hk
   exact N.gi _ ⟨fun _ => N.oi, hI⟩
  have e16 := (hd 12 16).trans (hk 12 _ rfl); have mZ : ρ (.tmp 14) = V 10 := hd 10 14; have cI : D 10 = true := hT 1 10; have dD : D 13 = false := cP; clear hT hF
  simp only [cI, dD, cond_true, cond_false] at hI; obtain ⟨A9, n9, c9, f1, x0, x1⟩ := Ay bG.o hI; have afw := mZ.trans f1; clear mZ; exact N.Gives.skip (w' := wi.setCell ⟨b, 6, none⟩ (V 10)) (by rw [f1]; clear f1; go_simp) ⟨fun x h => (by cases h), EL bG.o hI⟩
 intro V wc hk hI
 simp only [N.aP, List.foldl_cons, List.foldl_nil, Act.put, List.setIfInBounds_toArray, List.set_cons_succ, List.set_cons_zero]; replace hI : cond true (Step base b s y wb (eX s r) wc) (cond true (zN base s y r wb (V 10) wc) (Below wb.heap.size wb wc)) := hI; clear hk; have HN := ak hI; clear hI
 go_wp2_with fail
 go_returns
 exact ⟨rfl, Step.before bH.o HN.o⟩
def Hw (s : St) (y : Sy) (r : Rc) (b : Nat) (g : Nat) : Nat -> Value -> World -> Prop := N.tb [.inl (.pointer (some ⟨b, 0, none⟩)), .inl (.pointer (some ⟨b, 0, none⟩)), .inl (s.val y), .inl (.pointer (some ⟨g, 1, none⟩)), .inl (.agg #[.int .i64 r.tid.node, .int .i64 r.tid.epoch, .int .i64 r.tid.seq]), .inl (.bool (known s r.tid)), .inl (.bool (known s r.tid))]
def sP (s : St) (y : Sy) (r : Rc) (b : Nat) (g : Nat) : Nat -> Value -> World -> Prop := N.tb [.inl (.pointer (some ⟨b, 0, none⟩)), .inl (.pointer (some ⟨b, 0, none⟩)), .inl (s.val y), .inl (.pointer (some ⟨g, 1, none⟩)), .inl (.pointer (some ⟨g, 1, none⟩)), .inl (.int .i64 r.tid.node), .inr fun v w => ∃ kk, v = .slice (some ⟨kk, 0, none⟩) 1 1 /\ Cells w kk 3 ([r.tid.node].map (Value.int .i64)), .inl (.bool (above s [r.tid.node])), .inl (.bool (above s [r.tid.node]))]
theorem kJ {s : St} {y : Sy} {r : Rc} {b : Nat} {g : Nat} {j : Nat} {v : Value} {w w' : World} (hb : Below w.heap.size w w') (h : sP s y r b g j v w) : sP s y r b g j v w' := by
 refine N.gA ?_ h; refine And.intro (fun v h => ?_) ?_
 ·obtain ⟨kk, h1, h2⟩ := h
  exact ⟨kk, h1, h2.later hb⟩
 exact trivial
set_option maxHeartbeats 2000000 in
theorem xJ (s : St) (y : Sy) (r : Rc) (z : Lay) (base b : Nat) (w : World) (ho : Own base w b s y) (hh : Two w r.items r.nodes z) (hs : Small s) (hr : r.items.length <= 1000 /\ r.nodes.length <= 1000) :
  Calls Tryz.prog 60 #[(au b), r.val z] w fun e w' => e = .returned (iv (dK s r).2) /\ Step base b s y w (dK s r).1 w' := by
 obtain ⟨wb, hwb⟩ := aj (w.alloc (.cells #[iv r.kind, iv r.tid.node, iv r.tid.epoch, iv r.tid.seq, .slice z.A r.items.length z.c, .slice z.B r.nodes.length z.d, iv r.node, iv r.count, iv r.num, iv r.cell, iv r.status, iv r.hop, iv r.version, iv r.value, .bool r.yes] 51)); have hb : Below w.heap.size w wb := by rw [hwb]; exact av _ _
 have bG := ak (ho.later hb); have bh : Hid (Cells wb w.heap.size 51 (r.vals z)) := ak (by rw [hwb]; exact aB _ _ _ _ rfl); have bI := ak (hh.later hb); have bH := ak hb; have dU := ak hs; have dP := ak hr; obtain ⟨F, hF⟩ := ah (dK s r); have HF := ak hF.symm; rw [hF]; unfold Rc.val; clear ho hh hs hr hb hF
 go_enter Tryz.func60, Tryz.ntmps60
 go_wp2_with fail
 rw [<- hwb]; clear hwb; refine N.rb 6 [6] (Hw s y r b w.heap.size) wb (fun V => [(some 6, V 0), (some 7, V 1), (some 8, V 2), (some 9, V 3), (some 10, V 4), (some 11, V 5), (some 5, V 6)]) ?_ ?_
 ·intro i o ho
  have hi : i < 7 := (Array.getElem?_eq_some_iff.1 ho).1; rcases i with _ | _ | _ | _ | _ | _ | _ | i
  rotate_right
  ·omega
  all_goals obtain rfl := Option.some.inj ho
  all_goals intro ρ wi hE hI hs hd
  all_goals try dsimp only at hI
  ·have e0 : ρ (.tmp 0) = (au b) := hs 0; exact N.gw hI
  ·obtain ⟨_, rfl, e6⟩ := hd 0 6; exact N.gw hI
  ·obtain ⟨_, rfl, e7⟩ := hd 1 7
   exact N.Gives.value (v := s.val y) (w' := wi) (aQ _ _ rfl _ _ (by assumption) (aS (bG.o.later hI))) (N.bA.same hI rfl)
  ·have e3 : ρ (.tmp 3) = (au w.heap.size) := hs 3; exact N.gw hI
  ·obtain ⟨_, rfl, e9⟩ := hd 3 9; have x0 := (bh.o.later hI).cell (j := 1) rfl; have x1 := (bh.o.later hI).cell (j := 2) rfl; have x2 := (bh.o.later hI).cell (j := 3) rfl; exact N.gw hI
  ·obtain ⟨_, rfl, e8⟩ := hd 2 8; obtain ⟨_, rfl, e10⟩ := hd 4 10; have hf := hE.func
   refine N.Gives.call (f := 90) (args := #[s.val y, .agg #[iv r.tid.node, iv r.tid.epoch, iv r.tid.seq]]) (w' := wi) (by go_simp) ?_; refine (uY s y r.tid wi (bG.o.later hI).sees (Nat.le_trans dU.o.ay (by decide)) (Nat.le_trans dU.o.dec (by decide))).mono ?_; rintro e w'' ⟨rfl, hbb⟩; exact ⟨_, rfl, ⟨rfl, hI.trans (hbb.mono hI.size), fun j u _ _ h => N.tz h⟩⟩
  obtain ⟨_, rfl, e11⟩ := hd 5 11; exact N.gw hI
 intro V wc hV hI
 have qU : V 6 = .bool (known s r.tid) := hV 6 (by decide) rfl; simp only [N.aP, List.foldl_cons, List.foldl_nil, Act.put, List.setIfInBounds_toArray, List.set_cons_succ, List.set_cons_zero, qU]; replace hI : (fun a => Below wb.heap.size wb a) wc := hI; clear hV qU; have aR := ak (bG.o.later hI); have bO := ak (bh.o.later hI); have cB := ak (bI.o.later hI); have bB := ak (bH.o.trans (hI.mono bH.o.size)); clear hI
 cases hh : known s r.tid with
 | true =>
  have uS := ak hh; clear hh; have bf : Hid (F = (s, 9)) := ak (by rw [HF.o]; exact if_pos uS.o)
  go_wp2_with fail
  go_returns
  exact ⟨aL (by rw [bf.o]), by rw [bf.o]; exact Step.same aR.o bB.o⟩
 | false =>
  have lg := ak hh; clear hh
  go_upto_region 3 with (fail)
  refine N.rb 8 [8] (sP s y r b w.heap.size) wc (fun V => [(some 13, V 0), (some 14, V 1), (some 15, V 2), (some 16, V 3), (some 17, V 4), (some 18, V 5), (some 19, V 6), (some 20, V 7), (some 12, V 8)]) ?_ ?_
  ·intro i o ho
   have hi : i < 9 := (Array.getElem?_eq_some_iff.1 ho).1; rcases i with _ | _ | _ | _ | _ | _ | _ | _ | _ | i
   rotate_right
   ·omega
   all_goals obtain rfl := Option.some.inj ho
   all_goals intro ρ wi hE hI hs hd
   all_goals try dsimp only at hI
   ·have e0 : ρ (.tmp 0) = (au b) := hs 0; exact N.gw hI
   ·obtain ⟨_, rfl, l5⟩ := hd 0 13; exact N.gw hI
   ·obtain ⟨_, rfl, mZ⟩ := hd 1 14
    exact N.Gives.value (v := s.val y) (w' := wi) (aQ _ _ rfl _ _ (by assumption) (aS (aR.o.later hI))) (N.bA.same hI rfl)
   ·have e3 : ρ (.tmp 3) = (au w.heap.size) := hs 3; exact N.gw hI
   ·obtain ⟨_, rfl, e16⟩ := hd 3 16; exact N.gw hI
   ·obtain ⟨_, rfl, e17⟩ := hd 4 17; have x0 := (bO.o.later hI).cell (j := 1) rfl; exact N.gw hI
   ·obtain ⟨_, rfl, e18⟩ := hd 5 18; have hal := av wi (.cells #[iv r.tid.node] 3)
    exact N.Gives.value (v := .slice (some ⟨wi.heap.size, 0, none⟩) 1 1) (w' := wi.alloc (.cells #[iv r.tid.node] 3)) (by go_simp) ⟨⟨_, rfl, aB wi _ _ _ rfl⟩, hI.trans (hal.mono hI.size), fun j u _ _ h => kJ hal h⟩
   ·obtain ⟨_, rfl, mY⟩ := hd 2 15; obtain ⟨u19, g19, e19⟩ := hd 6 19; have hf := hE.func; obtain ⟨kk, rfl, gH⟩ := g19
    refine N.Gives.call (f := 89) (args := #[s.val y, .slice (some ⟨kk, 0, none⟩) 1 1]) (w' := wi) (by go_simp) ?_; refine (fH s y (some ⟨kk, 0, none⟩) [r.tid.node] 1 wi (fun j hj => ⟨kk, 0, rfl, eI gH j hj⟩) (by simp)).mono ?_; rintro e w'' ⟨rfl, hbb⟩; exact ⟨_, rfl, ⟨rfl, hI.trans (hbb.mono hI.size), fun j u _ _ h => kJ hbb h⟩⟩
   obtain ⟨_, rfl, wL⟩ := hd 7 20; exact N.gw hI
  intro V wd hV hI
  have UY : V 8 = .bool (above s [r.tid.node]) := hV 8 (by decide) rfl; simp only [N.aP, List.foldl_cons, List.foldl_nil, Act.put, List.setIfInBounds_toArray, List.set_cons_succ, List.set_cons_zero, UY]; replace hI : (fun a => Below wc.heap.size wc a) wd := hI; clear hV UY; have cu := ak (aR.o.later hI); have fT := ak (bO.o.later hI); have jR := ak (cB.o.later hI); have ez := ak (bB.o.trans (hI.mono bB.o.size)); clear hI
  cases ha : above s [r.tid.node] with
  | true =>
   have HA := ak ha; clear ha; have bf : Hid (F = (s, 1)) := ak (by rw [HF.o]; unfold dK; rw [lg.o, HA.o]; rfl)
   go_wp2_with fail
   go_returns
   exact ⟨aL (by rw [bf.o]), by rw [bf.o]; exact Step.same cu.o ez.o⟩
  | false =>
   have HA := ak ha; clear ha; have hq := cu.o.br; unfold St.vals at hq; obtain ⟨q0, q1, q2, q3, q4, q5, q6, q7⟩ := hq.q8; clear hq
   go_wp2_with fail
   clear q0 q1 q2 q3 q4 q5 q6 q7; refine (xG s y wd (Nat.le_trans dU.o.ay (by decide)) (Nat.le_trans dU.o.dec (by decide))).mono ?_; rintro e we ⟨he, hI⟩; replace he : e = .returned (.bool (room s)) := he; subst he; have fV := ak (cu.o.later hI); have lF := ak (fT.o.later hI); have vO := ak (jR.o.later hI); have jC := ak (ez.o.trans (hI.mono ez.o.size)); clear hI
   cases hl : room s with
   | false =>
    have HL := ak hl; clear hl; have bf : Hid (F = (s, 6)) := ak (by rw [HF.o]; unfold dK; rw [lg.o, HA.o, HL.o]; rfl)
    go_wp2_with fail
    go_returns
    exact ⟨aL (by rw [bf.o]), by rw [bf.o]; exact Step.same fV.o jC.o⟩
   | true =>
    have HL := ak hl; clear hl; have bf : Hid (F = (eX s r, 0)) := ak (by rw [HF.o]; unfold dK; rw [lg.o, HA.o, HL.o]; rfl); have hx := lF.o; unfold Rc.vals at hx; obtain ⟨x0, x1, x2, x3, x4, x5, x6, x7, x8, x9, x10, eW, eV, eU, dZ⟩ := hx.iZ; clear hx
    go_wp2_with fail
    clear x0 x1 x2 x3 x4 x5 x6 x7 x8 x9 x10 eW eV eU dZ; refine (gD s y r z base b we fV.o vO.o dU.o dP.o).mono ?_; rintro e wf ⟨rfl, hst⟩; have HN := ak hst; clear hst
    go_wp2_with fail
    go_returns
    exact ⟨aL (by rw [bf.o]), by rw [bf.o]; exact Step.before jC.o HN.o⟩
def Ht (s : St) (y : Sy) (r : Rc) (b : Nat) (g : Nat) : Nat -> Value -> World -> Prop := N.tb [.inl (.pointer (some ⟨b, 0, none⟩)), .inl (.pointer (some ⟨b, 0, none⟩)), .inl (s.val y), .inl (.pointer (some ⟨g, 1, none⟩)), .inl (.agg #[.int .i64 r.tid.node, .int .i64 r.tid.epoch, .int .i64 r.tid.seq]), .inl (.int .i64 (dJ s r.tid)), .inl (.bool (decide (0 <= (dJ s r.tid)))), .inl (.bool (decide (0 <= (dJ s r.tid))))]
set_option maxHeartbeats 2000000 in
theorem Ad (s : St) (y : Sy) (r : Rc) (z : Lay) (base b : Nat) (w : World) (ho : Own base w b s y) (hh : Two w r.items r.nodes z) (hs : Small s) (hr : r.items.length <= 1000 /\ r.nodes.length <= 1000) :
  Calls Tryz.prog 96 #[(au b), r.val z] w fun e w' => e = .returned (iv (dH s r).2) /\ Step base b s y w (dH s r).1 w' := by
 obtain ⟨wb, hwb⟩ := aj (w.alloc (.cells #[iv r.kind, iv r.tid.node, iv r.tid.epoch, iv r.tid.seq, .slice z.A r.items.length z.c, .slice z.B r.nodes.length z.d, iv r.node, iv r.count, iv r.num, iv r.cell, iv r.status, iv r.hop, iv r.version, iv r.value, .bool r.yes] 51)); have hb : Below w.heap.size w wb := by rw [hwb]; exact av _ _
 have bG := ak (ho.later hb); have bh : Hid (Cells wb w.heap.size 51 (r.vals z)) := ak (by rw [hwb]; exact aB _ _ _ _ rfl); have bI := ak (hh.later hb); have bH := ak hb; have dU := ak hs; have dP := ak hr; obtain ⟨F, hF⟩ := ah (dH s r); have HF := ak hF.symm; rw [hF]; unfold Rc.val; clear ho hh hs hr hb hF
 go_enter Tryz.func96, Tryz.ntmps96
 go_wp2_with fail
 rw [<- hwb]; clear hwb; refine N.rb 7 [7] (Ht s y r b w.heap.size) wb (fun V => [(some 6, V 0), (some 7, V 1), (some 8, V 2), (some 9, V 3), (some 10, V 4), (some 11, V 5), (some 12, V 6), (some 5, V 7)]) ?_ ?_
 ·intro i o ho
  have hi : i < 8 := (Array.getElem?_eq_some_iff.1 ho).1; rcases i with _ | _ | _ | _ | _ | _ | _ | _ | i
  rotate_right
  ·omega
  all_goals obtain rfl := Option.some.inj ho
  all_goals intro ρ wi hE hI hs hd
  all_goals try dsimp only at hI
  ·have e0 : ρ (.tmp 0) = (au b) := hs 0; exact N.gw hI
  ·obtain ⟨_, rfl, e6⟩ := hd 0 6; exact N.gw hI
  ·obtain ⟨_, rfl, e7⟩ := hd 1 7
   exact N.Gives.value (v := s.val y) (w' := wi) (aQ _ _ rfl _ _ (by assumption) (aS (bG.o.later hI))) (N.bA.same hI rfl)
  ·have e3 : ρ (.tmp 3) = (au w.heap.size) := hs 3; exact N.gw hI
  ·obtain ⟨_, rfl, e9⟩ := hd 3 9; have x0 := (bh.o.later hI).cell (j := 1) rfl; have x1 := (bh.o.later hI).cell (j := 2) rfl; have x2 := (bh.o.later hI).cell (j := 3) rfl; exact N.gw hI
  ·obtain ⟨_, rfl, e8⟩ := hd 2 8; obtain ⟨_, rfl, e10⟩ := hd 4 10; have hf := hE.func
   refine N.Gives.call (f := 21) (args := #[s.val y, .agg #[iv r.tid.node, iv r.tid.epoch, iv r.tid.seq]]) (w' := wi) (by go_simp) ?_; refine (sZ s y r.tid wi (bG.o.later hI).sees (Nat.le_trans dU.o.dec (by decide))).mono ?_; rintro e w'' ⟨rfl, hbb⟩; exact ⟨_, rfl, ⟨rfl, hI.trans (hbb.mono hI.size), fun j u _ _ h => N.tz h⟩⟩
  ·obtain ⟨_, rfl, e11⟩ := hd 5 11; have hc := hE.const; exact N.gw hI
  obtain ⟨_, rfl, e12⟩ := hd 6 12; exact N.gw hI
 intro V wc hV hI
 have jr : V 7 = .bool (decide (0 <= (dJ s r.tid))) := hV 7 (by decide) rfl; simp only [N.aP, List.foldl_cons, List.foldl_nil, Act.put, List.setIfInBounds_toArray, List.set_cons_succ, List.set_cons_zero, jr]; replace hI : (fun a => Below wb.heap.size wb a) wc := hI; clear hV jr; have aR := ak (bG.o.later hI); have bO := ak (bh.o.later hI); have cB := ak (bI.o.later hI); have bB := ak (bH.o.trans (hI.mono bH.o.size)); clear hI
 by_cases hh : 0 <= dJ s r.tid
 ·have uS := ak hh
  have bf : Hid (F = (s, 9)) := ak (by rw [HF.o]; exact if_pos uS.o)
  go_wp2_with fail
  go_returns
  exact ⟨aL (by rw [bf.o]), by rw [bf.o]; exact Step.same aR.o bB.o⟩
 have lg := ak hh
 have hx := bO.o; unfold Rc.vals at hx; obtain ⟨x0, x1, x2, x3, x4, x5, x6, x7, x8, x9, x10, eW, eV, eU, dZ⟩ := hx.iZ; clear hx
 cases hy : r.yes with
 | true =>
  have HY := ak hy; rw [hy] at dZ; clear hy; have bf : Hid (F = (s, 10)) := ak (by rw [HF.o]; unfold dH; rw [if_neg lg.o, if_pos HY.o])
  go_wp2_with fail
  go_returns
  exact ⟨aL (by rw [bf.o]), by rw [bf.o]; exact Step.same aR.o bB.o⟩
 | false =>
  have HY := ak hy; have bf : Hid (F = dK s r) := ak (by rw [HF.o]; unfold dH; rw [if_neg lg.o, if_neg (by rw [HY.o]; exact Bool.false_ne_true)]); have HP : Hid (Calls Tryz.prog 60 #[(au b), .agg #[iv r.kind, iv r.tid.node, iv r.tid.epoch, iv r.tid.seq, .slice z.A r.items.length z.c, .slice z.B r.nodes.length z.d, iv r.node, iv r.count, iv r.num, iv r.cell, iv r.status, iv r.hop, iv r.version, iv r.value, .bool false]] wc fun e w' => e = .returned (iv (dK s r).2) /\ Step base b s y wc (dK s r).1 w') := ak (by have h := xJ s y r z base b wc aR.o cB.o dU.o dP.o; unfold Rc.val at h; rw [hy] at h; exact h)
  rw [hy] at dZ; clear hy hh
  go_wp2_with fail
  clear x0 x1 x2 x3 x4 x5 x6 x7 x8 x9 x10 eW eV eU dZ; refine HP.o.mono ?_; rintro e wf ⟨rfl, hst⟩; have HN := ak hst; clear hst
  go_wp2_with fail
  go_returns
  exact ⟨aL (by rw [bf.o]), by rw [bf.o]; exact Step.before bB.o HN.o⟩
