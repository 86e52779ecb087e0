/-
  Layer 8: End.
  Conditions: none.
-/
import Derived.Test.YtalhbblmnahcdaaGreatPa30
namespace Go.Proofs.YtalhbblmnahcdaaGreat.Led
set_option maxRecDepth 100000
open Go.RowKit Go.Deep Go.Proofs.YtalhbblmnahcdaaGreat.Mem Go.Proofs.YtalhbblmnahcdaaGreat.Item Go.Proofs.YtalhbblmnahcdaaGreat.Rec
theorem at_com_some {s : St} {u : Tid} (h : ¬ at_com s u < 0) : ∃ k : Nat, at_com s u = (k : Int) ∧ ∃ hk : k < s.com.length, s.com[k].tid = u := by
 obtain ⟨k, e, hk, hp⟩ := idxB_some h
 rw [List.length_map] at hk
 rw [List.getElem_map] at hp
 exact ⟨k, e, hk, of_decide_eq_true hp⟩
def co0 : Co := ⟨⟨0, 0, 0⟩, [], [], false⟩
def coAt (s : St) (k : Nat) : Co := (s.com[k]?).getD co0
def overS (s : St) (k : Nat) : St := { s with com := s.com.set k { coAt s k with over := true } }
def fEnd (s : St) (r : Rc) : St × Int := if at_com s r.tid < 0 then (s, 8) else if (coAt s (at_com s r.tid).toNat).over = true then (s, 9) else (overS s (at_com s r.tid).toNat, 0)
theorem Own.comAt {base b : Nat} {s : St} {y : Sy} {w : World} (h : Own base w b s y) {k : Nat} (hk : k < s.com.length) : ∃ cb, y.C = some ⟨cb, 0, none⟩ ∧ w.cell? ⟨cb, k * 6 + 5, none⟩ = some (.bool (coAt s k).over) ∧ w.frozen? ⟨cb, k * 6 + 5, none⟩ = false ∧
  Own base (w.setCell ⟨cb, k * 6 + 5, none⟩ (.bool true)) b (overS s k) y ∧ Only (fun k => some k = blk y.C) w (w.setCell ⟨cb, k * 6 + 5, none⟩ (.bool true)) := by
 have hl := h.lists.rowC
 have hcs := h.lists.cs
 have hca : coAt s k = s.com[k] := by unfold coAt; rw [List.getElem?_eq_getElem hk]; rfl
 rcases hl.2 with ⟨_, h2⟩ | ⟨g, cap, cur, e, k2, k3, k4, k5, k6, k7⟩
 ·omega
 ·simp only [Value.slice.injEq] at e
  have hC : y.C = some ⟨g, 0, none⟩ := e.1
  rw [hC] at hl
  obtain ⟨hc, _⟩ := cells_of_own hl
  have hfit := fit_com s.com y.cs
  have hzl := zip_len Co.vals hcs
  have hm := Nat.mul_le_mul_right 6 hk
  have hfl := flatten_len hfit.len
  rw [hzl] at hfl
  obtain ⟨r1, r2, _⟩ := row_put (o := k * 6 + 5) (l := [.bool true]) hl (by simp; omega) (by simp [Value.oneCell'])
  have hon : Only (fun k => some k = blk y.C) w (w.setCell ⟨g, k * 6 + 5, none⟩ (.bool true)) := r2.mono fun j _ e => by rw [hC, e]; rfl
  refine ⟨g, hC, ?_, ?_, ?_, hon⟩
  ·refine hc.cell ?_
   rw [flatten_at (sz := 6) hfit.len k (by rw [hzl]; exact hk) 5 (by decide), List.getElem_zipWith, hca]
   rfl
  ·refine hc.frozen ?_
   omega
  ·have hov : over (List.zipWith Co.vals s.com y.cs).flatten (k * 6 + 5) [.bool true] = (List.zipWith Co.vals (overS s k).com y.cs).flatten := by
    have hky : k < y.cs.length := by omega
    have e1 : List.zipWith Co.vals (overS s k).com y.cs = (List.zipWith Co.vals s.com y.cs).set k (({ s.com[k] with over := true } : Co).vals y.cs[k]) := by
     unfold overS
     rw [hca]
     apply List.ext_getElem
     ·simp
     ·intro i h1 h2
      simp only [List.getElem_zipWith, List.getElem_set]
      split
      ·rename_i hik
       subst hik
       simp
      ·rfl
    rw [e1, ← over_at (sz := 6) hfit.len rfl (by rw [hzl]; exact hk)]
    have hq : (List.zipWith Co.vals s.com y.cs).flatten.drop (k * 6) = s.com[k].vals y.cs[k] ++ (List.zipWith Co.vals s.com y.cs).flatten.drop ((k + 1) * 6) := by
     rw [flat_drop hfit.len k (by omega), flat_drop hfit.len (k + 1) (by omega), List.drop_eq_getElem_cons (by rw [hzl]; exact hk), List.getElem_zipWith, List.flatten_cons]
    have hs : (List.zipWith Co.vals s.com y.cs).flatten = (List.zipWith Co.vals s.com y.cs).flatten.take (k * 6) ++ (s.com[k].vals y.cs[k] ++ (List.zipWith Co.vals s.com y.cs).flatten.drop ((k + 1) * 6)) := by rw [← hq, List.take_append_drop]
    have hA : ((List.zipWith Co.vals s.com y.cs).flatten.take (k * 6)).length = k * 6 := by rw [List.length_take]; omega
    generalize (List.zipWith Co.vals s.com y.cs).flatten.take (k * 6) = A at hs hA
    generalize (List.zipWith Co.vals s.com y.cs).flatten.drop ((k + 1) * 6) = Z at hs hq
    rw [hs, ← hA, over_mid A (s.com[k].vals y.cs[k]) Z 5 [.bool true] (by show 5 + 1 ≤ 6; omega)]
    have eo : over (s.com[k].vals y.cs[k]) 5 [.bool true] = ({ s.com[k] with over := true } : Co).vals y.cs[k] := rfl
    rw [eo]
    exact (over_mid0 A (s.com[k].vals y.cs[k]) Z (({ s.com[k] with over := true } : Co).vals y.cs[k]) rfl).symm
   have hlen : (overS s k).com.length = s.com.length := by unfold overS; rw [List.length_set]
   refine h.setC (l' := (overS s k).com) hon hlen (fun j h1 h2 => ?_) ?_
   ·have e9 : (overS s k).com = s.com.set k { coAt s k with over := true } := rfl
    simp only [e9, List.getElem_set]
    split
    ·rename_i hkj
     subst hkj
     rw [hca]
     exact ⟨rfl, rfl⟩
    ·exact ⟨rfl, rfl⟩
   ·rw [hlen, ← hov, hC]
    exact r1
def ledM_en1 (s : St) (y : Sy) (r : Rc) (b : Nat) (g : Nat) : Nat → Value → World → Prop
 | 0, v, _ => v = .pointer (some ⟨b, 0, none⟩)
 | 1, v, _ => v = .pointer (some ⟨b, 0, none⟩)
 | 2, v, _ => v = s.val y
 | 3, v, _ => v = .pointer (some ⟨g, 1, none⟩)
 | 4, v, _ => v = .agg #[.int .i64 r.tid.node, .int .i64 r.tid.epoch, .int .i64 r.tid.seq]
 | 5, v, _ => v = .int .i64 (at_com s r.tid)
 | 6, v, _ => v = .int .i64 (at_com s r.tid)
 | _, _, _ => True
theorem ledM_en1_later {s : St} {y : Sy} {r : Rc} {b : Nat} {g : Nat} {j : Nat} {v : Value} {w w' : World} (_hb : Below w.heap.size w w') (h : ledM_en1 s y r b g j v w) : ledM_en1 s y r b g j v w' := by
 match j, h with
 | 0, h | 1, h | 2, h | 3, h | 4, h | 5, h | 6, h => exact h
 | _ + 7, _ => exact trivial
set_option maxHeartbeats 4000000 in
theorem end_any (s : St) (y : Sy) (r : Rc) (z : Lay) (base b : Nat) (w : World) (ho : Own base w b s y) (hh : Two w r.items r.nodes z) (hs : Small s) (hr : r.items.length ≤ 1000 ∧ r.nodes.length ≤ 1000) :
  Calls Tryz.prog 71 #[.pointer (some ⟨b, 0, none⟩), r.val z] w fun e w' => e = .returned (.int .i64 (fEnd s r).2) ∧ Step base b s y w (fEnd s r).1 w' := by
 obtain ⟨wb, hwb⟩ : ∃ v, v = w.alloc (.cells #[.int .i64 r.kind, .int .i64 r.tid.node, .int .i64 r.tid.epoch, .int .i64 r.tid.seq, .slice z.A r.items.length z.c, .slice z.B r.nodes.length z.d, .int .i64 r.node, .int .i64 r.count, .int .i64 r.num, .int .i64 r.cell, .int .i64 r.status, .int .i64 r.hop, .int .i64 r.version, .int .i64 r.value, .bool r.yes] 51) := ⟨_, rfl⟩
 have hb : Below w.heap.size w wb := by rw [hwb]; exact below_alloc _ _
 have HOwb := Lib.hid (ho.later hb)
 have HRwb : Hid (Cells wb w.heap.size 51 (r.vals z)) := Lib.hid (by rw [hwb]; exact cells_new _ _ _ _ rfl)
 have HHwb := Lib.hid (hh.later hb)
 have HBwb := Lib.hid hb
 have HSM := Lib.hid hs
 have HRS := Lib.hid hr
 obtain ⟨F, hF⟩ : ∃ F, fEnd s r = F := ⟨_, rfl⟩
 have HF := Lib.hid hF.symm
 rw [hF]
 unfold Rc.val
 clear ho hh hs hr hb hF
 go_enter Tryz.func71, Tryz.ntmps71
 go_wp2_with fail
 rw [← hwb]
 clear hwb
 refine Reg.region_heavy (by kernel_rfl) 6 [6] (ledM_en1 s y r b w.heap.size) (fun a => Below wb.heap.size wb a) (fun a => Below wb.heap.size wb a) (fun V => [(some 6, V 0), (some 7, V 1), (some 8, V 2), (some 9, V 3), (some 10, V 4), (some 11, V 5), (some 5, V 6)]) (by kernel_rfl) (by kernel_rfl) (by kernel_rfl) (fun V => rfl) ?_ ?_ ?_
 ·exact (Below.refl _ _).drew
 ·intro i o ho
  have hi : i < 7 := (Array.getElem?_eq_some_iff.1 ho).1
  rcases i with _ | _ | _ | _ | _ | _ | _ | i
  rotate_right
  ·omega
  all_goals obtain rfl := Option.some.inj ho
  all_goals intro ρ wi hE hI hs hd
  all_goals try dsimp only at hI
  ·have e0 : ρ (.tmp 0) = .pointer (some ⟨b, 0, none⟩) := hs 0; exact Reg.gw hI
  ·obtain ⟨_, rfl, e6⟩ := hd 0 6; exact Reg.gw hI
  ·obtain ⟨_, rfl, e7⟩ := hd 1 7
   exact Reg.Gives.value (v := s.val y) (w' := wi) (exec_load _ _ rfl _ _ (by assumption) (state_load (HOwb.out.later hI))) (Reg.OwedH.same hI rfl)
  ·have e3 : ρ (.tmp 3) = .pointer (some ⟨w.heap.size, 0, none⟩) := hs 3; exact Reg.gw hI
  ·obtain ⟨_, rfl, e9⟩ := hd 3 9; have x0 := (HRwb.out.later hI).cell (j := 1) rfl; have x1 := (HRwb.out.later hI).cell (j := 2) rfl; have x2 := (HRwb.out.later hI).cell (j := 3) rfl; exact Reg.gw hI
  ·obtain ⟨_, rfl, e8⟩ := hd 2 8; obtain ⟨_, rfl, e10⟩ := hd 4 10; have hf := hE.func
   refine Reg.Gives.call (f := 25) (args := #[s.val y, .agg #[.int .i64 r.tid.node, .int .i64 r.tid.epoch, .int .i64 r.tid.seq]]) (w' := wi) (by go_simp) ?_
   refine (Find_com s y r.tid wi (HOwb.out.later hI).sees (Nat.le_trans HSM.out.com (by decide))).mono ?_
   rintro e w'' ⟨rfl, hbb⟩
   exact ⟨_, rfl, ⟨rfl, hI.trans (hbb.mono hI.size), fun j u _ _ h => ledM_en1_later hbb h⟩⟩
  ·obtain ⟨_, rfl, e11⟩ := hd 5 11; exact Reg.gw hI
 ·intro V wc hV hI
  have hV6 : V 6 = .int .i64 (at_com s r.tid) := hV 6 (by decide) rfl
  simp only [Reg.putsO, List.foldl_cons, List.foldl_nil, Act.put, List.setIfInBounds_toArray, List.set_cons_succ, List.set_cons_zero, hV6]
  replace hI : (fun a => Below wb.heap.size wb a) wc := hI
  clear hV hV6
  have HOwc := Lib.hid (HOwb.out.later hI)
  have HRwc := Lib.hid (HRwb.out.later hI)
  have HHwc := Lib.hid (HHwb.out.later hI)
  have HBwc := Lib.hid (HBwb.out.trans (hI.mono HBwb.out.size))
  clear hI
  by_cases hneg : at_com s r.tid < 0
  ·have HNEG := Lib.hid hneg
   have HFX : Hid (F = (s, 8)) := Lib.hid (by rw [HF.out]; exact if_pos HNEG.out)
   go_wp2_with fail
   go_returns
   exact ⟨ret_int (by rw [HFX.out]), by rw [HFX.out]; exact Step.same HOwc.out HBwc.out⟩
  ·obtain ⟨k, hk, hkl, ht⟩ := at_com_some hneg
   clear ht
   have HNEG := Lib.hid hneg
   obtain ⟨cb, hC, hc1, hc2, hN⟩ := HOwc.out.comAt hkl
   have HN := Lib.hid hN
   have HK := Lib.hid hk
   have hq := HOwc.out.cel
   unfold St.vals at hq
   have q7 := hq.cell (j := 7) rfl
   rw [hC] at q7
   obtain ⟨ov, hov⟩ : ∃ v, (coAt s k).over = v := ⟨_, rfl⟩
   have HOV := Lib.hid hov
   rw [hov] at hc1
   simp only [hk]
   clear hk hneg hq hov hN hC
   cases ov with
   | true =>
    have HFX : Hid (F = (s, 9)) := Lib.hid (by rw [HF.out]; unfold fEnd; rw [if_neg (by have := HNEG.out; omega), HK.out, Int.toNat_natCast, if_pos HOV.out])
    go_wp2_with fail
    go_returns
    exact ⟨ret_int (by rw [HFX.out]), by rw [HFX.out]; exact Step.same HOwc.out HBwc.out⟩
   | false =>
    have HFX : Hid (F = (overS s k, 0)) := Lib.hid (by rw [HF.out]; unfold fEnd; rw [if_neg (by have := HNEG.out; omega), HK.out, Int.toNat_natCast, if_neg (by rw [HOV.out]; exact Bool.false_ne_true)])
    go_wp2_with fail
    go_returns
    exact ⟨ret_int (by rw [HFX.out]), by rw [HFX.out]; exact ⟨y, HN.out.1, (Only.of_below HBwc.out).trans HN.out.2 fun _ _ e => Or.inr (Or.inr (Or.inr (Or.inr e))), fun k e => Or.inl e⟩⟩
end Go.Proofs.YtalhbblmnahcdaaGreat.Led
