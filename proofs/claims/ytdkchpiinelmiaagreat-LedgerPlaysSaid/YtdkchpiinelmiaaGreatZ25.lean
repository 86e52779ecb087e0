/- Part 25 of the proof. Conditions: none. -/
import Derived.Test.YtdkchpiinelmiaaGreatZ22
namespace Go.Proofs.YtdkchpiinelmiaaGreat.Led
set_option maxRecDepth 100000
open Go.RowKit Go.Deep Mem fN Rec
theorem rG {s : St} {u : cT} (h : ¬ cE s u < 0) : ∃ k : Nat, cE s u = (k : Int) /\ ∃ hk : k < s.com.length, s.com[k].tid = u := by
 obtain ⟨k, e, hk, hp⟩ := u9 h; rw [List.length_map] at hk; rw [List.getElem_map] at hp; exact ⟨k, e, hk, of_decide_eq_true hp⟩
def co0 : Co := ⟨⟨0, 0, 0⟩, [], [], false⟩
def jA (s : St) (k : Nat) : Co := (s.com[k]?).getD co0
def dn (s : St) (k : Nat) : St := { s with com := s.com.set k { jA s k with over := true } }
def lf (s : St) (r : Rc) : St × Int := if cE s r.tid < 0 then (s, 8) else if (jA s (cE s r.tid).toNat).over = true then (s, 9) else (dn s (cE s r.tid).toNat, 0)
theorem Own.GK {base b : Nat} {s : St} {y : Sy} {w : World} (h : Own base w b s y) {k : Nat} (hk : k < s.com.length) : ∃ cb, y.C = some ⟨cb, 0, none⟩ /\ w.cell? ⟨cb, k * 6 + 5, none⟩ = some (.bool (jA s k).over) /\ w.frozen? ⟨cb, k * 6 + 5, none⟩ = false /\
  Own base (w.setCell ⟨cb, k * 6 + 5, none⟩ (.bool true)) b (dn s k) y /\ Only (fun k => some k = blk y.C) w (w.setCell ⟨cb, k * 6 + 5, none⟩ (.bool true)) := by
 have hl := h.lists.jw; have hcs := h.lists.cs; have hca : jA s k = s.com[k] := by unfold jA; rw [List.getElem?_eq_getElem hk]; rfl
 rcases hl.2 with ⟨_, h2⟩ | ⟨g, cap, cur, e, k2, k3, k4, k5, k6, k7⟩
 ·omega
 simp only [Value.slice.injEq] at e
 have hC : y.C = some ⟨g, 0, none⟩ := e.1; rw [hC] at hl; obtain ⟨hc, _⟩ := cR hl; have hfit := iI s.com y.cs; have hzl := cY Co.vals hcs; have hm := Nat.mul_le_mul_right 6 hk; have hfl := aW hfit.len; rw [hzl] at hfl; obtain ⟨r1, r2, _⟩ := mo (o := k * 6 + 5) (l := [.bool true]) hl (by simp; omega) (by simp [Value.oneCell']); have tU : Only (fun k => some k = blk y.C) w (w.setCell ⟨g, k * 6 + 5, none⟩ (.bool true)) := r2.mono fun j _ e => by rw [hC, e]; rfl
 refine ⟨g, hC, ?_, ?_, ?_, tU⟩
 ·refine hc.cell ?_
  rw [eG (sz := 6) hfit.len k (by rw [hzl]; exact hk) 5 (by decide), List.getElem_zipWith, hca]
  rfl
 ·refine hc.frozen ?_
  omega
 have hov : over (List.zipWith Co.vals s.com y.cs).flatten (k * 6 + 5) [.bool true] = (List.zipWith Co.vals (dn s k).com y.cs).flatten := by
  have hky : k < y.cs.length := by omega
  have e1 : List.zipWith Co.vals (dn s k).com y.cs = (List.zipWith Co.vals s.com y.cs).set k (({ s.com[k] with over := true } : Co).vals y.cs[k]) := by
   unfold dn; rw [hca]
   apply List.ext_getElem
   ·simp
   intro i h1 h2
   simp only [List.getElem_zipWith, List.getElem_set]
   split
   ·rename_i hik
    subst hik
    simp
   rfl
  rw [e1, <- mq (sz := 6) hfit.len rfl (by rw [hzl]; exact hk)]; have hq : (List.zipWith Co.vals s.com y.cs).flatten.drop (k * 6) = s.com[k].vals y.cs[k] ++ (List.zipWith Co.vals s.com y.cs).flatten.drop ((k + 1) * 6) := by
   rw [cN hfit.len k (by omega), cN hfit.len (k + 1) (by omega), List.drop_eq_getElem_cons (by rw [hzl]; exact hk), List.getElem_zipWith, List.flatten_cons]
  have hs : (List.zipWith Co.vals s.com y.cs).flatten = (List.zipWith Co.vals s.com y.cs).flatten.take (k * 6) ++ (s.com[k].vals y.cs[k] ++ (List.zipWith Co.vals s.com y.cs).flatten.drop ((k + 1) * 6)) := by rw [<- hq, List.take_append_drop]
  have hA : ((List.zipWith Co.vals s.com y.cs).flatten.take (k * 6)).length = k * 6 := by rw [List.length_take]; omega
  generalize (List.zipWith Co.vals s.com y.cs).flatten.take (k * 6) = A at hs hA
  generalize (List.zipWith Co.vals s.com y.cs).flatten.drop ((k + 1) * 6) = Z at hs hq
  rw [hs, <- hA, jE A (s.com[k].vals y.cs[k]) Z 5 [.bool true] (by show 5 + 1 <= 6; omega)]
  have eo : over (s.com[k].vals y.cs[k]) 5 [.bool true] = ({ s.com[k] with over := true } : Co).vals y.cs[k] := rfl; rw [eo]; exact (jH A (s.com[k].vals y.cs[k]) Z (({ s.com[k] with over := true } : Co).vals y.cs[k]) rfl).symm
 have hlen : (dn s k).com.length = s.com.length := by unfold dn; rw [List.length_set]
 refine h.Lv (l' := (dn s k).com) tU hlen (fun j h1 h2 => ?_) ?_
 ·have e9 : (dn s k).com = s.com.set k { jA s k with over := true } := rfl
  simp only [e9, List.getElem_set]
  split
  ·rename_i hkj
   subst hkj; rw [hca]; exact ⟨rfl, rfl⟩
  exact ⟨rfl, rfl⟩
 rw [hlen, <- hov, hC]
 exact r1
def Ie (s : St) (y : Sy) (r : Rc) (b : Nat) (g : Nat) : Nat -> Value -> World -> Prop := N.tb [.inl (.pointer (some ⟨b, 0, none⟩)), .inl (.pointer (some ⟨b, 0, none⟩)), .inl (s.val y), .inl (.pointer (some ⟨g, 1, none⟩)), .inl (.agg #[.int .i64 r.tid.node, .int .i64 r.tid.epoch, .int .i64 r.tid.seq]), .inl (.int .i64 (cE s r.tid)), .inl (.int .i64 (cE s r.tid))]
set_option maxHeartbeats 4000000 in
theorem Kj (s : St) (y : Sy) (r : Rc) (z : Lay) (base b : Nat) (w : World) (ho : Own base w b s y) (hh : Two w r.items r.nodes z) (hs : Small s) (hr : r.items.length <= 1000 /\ r.nodes.length <= 1000) :
  Calls Tryz.prog 62 #[(au b), r.val z] w fun e w' => e = .returned (iv (lf s r).2) /\ Step base b s y w (lf s r).1 w' := by
 obtain ⟨wb, hwb⟩ := aj (w.alloc (.cells #[iv r.kind, iv r.tid.node, iv r.tid.epoch, iv r.tid.seq, .slice z.A r.items.length z.c, .slice z.B r.nodes.length z.d, iv r.node, iv r.count, iv r.num, iv r.cell, iv r.status, iv r.hop, iv r.version, iv r.value, .bool r.yes] 51)); have hb : Below w.heap.size w wb := by rw [hwb]; exact av _ _
 have bG := ak (ho.later hb); have bh : Hid (Cells wb w.heap.size 51 (r.vals z)) := ak (by rw [hwb]; exact aB _ _ _ _ rfl); have bI := ak (hh.later hb); have bH := ak hb; have dU := ak hs; have dP := ak hr; obtain ⟨F, hF⟩ := ah (lf s r); have HF := ak hF.symm; rw [hF]; unfold Rc.val; clear ho hh hs hr hb hF
 go_enter Tryz.func62, Tryz.ntmps62
 go_wp2_with fail
 rw [<- hwb]; clear hwb; refine N.rb 6 [6] (Ie s y r b w.heap.size) wb (fun V => [(some 6, V 0), (some 7, V 1), (some 8, V 2), (some 9, V 3), (some 10, V 4), (some 11, V 5), (some 5, V 6)]) ?_ ?_
 ·intro i o ho
  have hi : i < 7 := (Array.getElem?_eq_some_iff.1 ho).1; rcases i with _ | _ | _ | _ | _ | _ | _ | i
  rotate_right
  ·omega
  all_goals obtain rfl := Option.some.inj ho
  all_goals intro ρ wi hE hI hs hd
  all_goals try dsimp only at hI
  ·have e0 : ρ (.tmp 0) = (au b) := hs 0; exact N.gw hI
  ·obtain ⟨_, rfl, e6⟩ := hd 0 6; exact N.gw hI
  ·obtain ⟨_, rfl, e7⟩ := hd 1 7
   exact N.Gives.value (v := s.val y) (w' := wi) (aQ _ _ rfl _ _ (by assumption) (aS (bG.o.later hI))) (N.bA.same hI rfl)
  ·have e3 : ρ (.tmp 3) = (au w.heap.size) := hs 3; exact N.gw hI
  ·obtain ⟨_, rfl, e9⟩ := hd 3 9; have x0 := (bh.o.later hI).cell (j := 1) rfl; have x1 := (bh.o.later hI).cell (j := 2) rfl; have x2 := (bh.o.later hI).cell (j := 3) rfl; exact N.gw hI
  ·obtain ⟨_, rfl, e8⟩ := hd 2 8; obtain ⟨_, rfl, e10⟩ := hd 4 10; have hf := hE.func
   refine N.Gives.call (f := 23) (args := #[s.val y, .agg #[iv r.tid.node, iv r.tid.epoch, iv r.tid.seq]]) (w' := wi) (by go_simp) ?_; refine (tj s y r.tid wi (bG.o.later hI).sees (Nat.le_trans dU.o.com (by decide))).mono ?_; rintro e w'' ⟨rfl, hbb⟩; exact ⟨_, rfl, ⟨rfl, hI.trans (hbb.mono hI.size), fun j u _ _ h => N.tz h⟩⟩
  obtain ⟨_, rfl, e11⟩ := hd 5 11; exact N.gw hI
 intro V wc hV hI
 have qU : V 6 = iv (cE s r.tid) := hV 6 (by decide) rfl; simp only [N.aP, List.foldl_cons, List.foldl_nil, Act.put, List.setIfInBounds_toArray, List.set_cons_succ, List.set_cons_zero, qU]; replace hI : (fun a => Below wb.heap.size wb a) wc := hI; clear hV qU; have aR := ak (bG.o.later hI); have bO := ak (bh.o.later hI); have cB := ak (bI.o.later hI); have bB := ak (bH.o.trans (hI.mono bH.o.size)); clear hI
 by_cases hneg : cE s r.tid < 0
 ·have zU := ak hneg
  have bf : Hid (F = (s, 8)) := ak (by rw [HF.o]; exact if_pos zU.o)
  go_wp2_with fail
  go_returns
  exact ⟨aL (by rw [bf.o]), by rw [bf.o]; exact Step.same aR.o bB.o⟩
 obtain ⟨k, hk, hkl, ht⟩ := rG hneg
 clear ht; have zU := ak hneg; obtain ⟨cb, hC, hc1, hc2, hN⟩ := aR.o.GK hkl; have HN := ak hN; have HK := ak hk; have hq := aR.o.br; unfold St.vals at hq; have q7 := hq.cell (j := 7) rfl; rw [hC] at q7; obtain ⟨ov, hov⟩ := ah ((jA s k).over); have cj := ak hov; rw [hov] at hc1; simp only [hk]; clear hk hneg hq hov hN hC
 cases ov with
 | true =>
  have bf : Hid (F = (s, 9)) := ak (by rw [HF.o]; unfold lf; rw [if_neg (by have := zU.o; omega), HK.o, Int.toNat_natCast, if_pos cj.o])
  go_wp2_with fail
  go_returns
  exact ⟨aL (by rw [bf.o]), by rw [bf.o]; exact Step.same aR.o bB.o⟩
 | false =>
  have bf : Hid (F = (dn s k, 0)) := ak (by rw [HF.o]; unfold lf; rw [if_neg (by have := zU.o; omega), HK.o, Int.toNat_natCast, if_neg (by rw [cj.o]; exact Bool.false_ne_true)])
  go_wp2_with fail
  go_returns
  exact ⟨aL (by rw [bf.o]), by rw [bf.o]; exact ⟨y, HN.o.1, (Only.of_below bB.o).trans HN.o.2 fun _ _ e => Or.inr (Or.inr (Or.inr (Or.inr e))), fun k e => Or.inl e⟩⟩
