/-
  Layer 8: Commit.
  Conditions: none.
-/
import Derived.Test.YtalhbblmnahcdaaGreatPa30
namespace Go.Proofs.YtalhbblmnahcdaaGreat.Led
set_option maxRecDepth 100000
open Go.RowKit Go.Deep Go.Proofs.YtalhbblmnahcdaaGreat.Mem Go.Proofs.YtalhbblmnahcdaaGreat.Item Go.Proofs.YtalhbblmnahcdaaGreat.Rec
section
variable {base b : Nat} {s : St} {y : Sy} {w w0 w1 w' : World}
theorem rowsC {A : Option Addr} {c : Nat} {cs' : List Lay} {n j : Nat} (hnew : ∀ j, blk A = some j → blk y.C = some j ∨ n ≤ j) (e : rowsOf { y with C := A, c := c, cs := cs' } j) : rowsOf y j ∨ n ≤ j := by
 rcases e with e | e | e | e
 ·exact Or.inl (Or.inl e)
 ·exact Or.inl (Or.inr (Or.inl e))
 ·exact Or.inl (Or.inr (Or.inr (Or.inl e)))
 ·exact (grown hnew e).imp_left fun h => Or.inr (Or.inr (Or.inr h))
theorem frC {A : Option Addr} {c : Nat} {cs' : List Lay} {x : List It} {n : List Int} {lay : Lay} (ho : Only (fun k => some k = blk y.C) w w1) (hnew : ∀ j, blk A = some j → blk y.C = some j ∨ w.heap.size ≤ j) (hf : Fr (fun j => sb b j ∨ rowsOf y j) w x n lay) : Fr (fun j => sb b j ∨ rowsOf { y with C := A, c := c, cs := cs' } j) w1 x n lay :=
 hf.next (ho.mono fun _ _ e => Or.inr (Or.inr (Or.inr (Or.inr e)))) fun j e => by
  rcases e with e | e
  ·exact Or.inl (Or.inl e)
  ·exact (rowsC hnew e).imp_left Or.inr
/-- What is to be put into the variable's field of commits. -/
def InsC (base b : Nat) (y : Sy) (l' : List Co) (cs' : List Lay) (w0 : World) (v : Value) (w : World) : Prop := ∃ A c, v = .slice A l'.length c ∧ w.ownsRow base 88 6 (.slice A l'.length c) l'.length (List.zipWith Co.vals l' cs').flatten ∧ Only (fun k => some k = blk y.C) w0 w ∧ (∀ j, blk A = some j → blk y.C = some j ∨ w0.heap.size ≤ j) ∧ cs'.length = l'.length ∧
 ∀ k (h : k < l'.length) (h' : k < cs'.length), Fr (fun j => sb b j ∨ rowsOf { y with C := A, c := c, cs := cs' } j) w l'[k].items l'[k].nodes cs'[k]
theorem insC_step {l' : List Co} {cs' : List Lay} {v : Value} (h0 : Own base w0 b s y) (h : InsC base b y l' cs' w0 v w) : Step base b s y w0 { s with com := l' } (w.setCell ⟨b, 7, none⟩ v) := by
 obtain ⟨A, c, rfl, h1, h2, h3, h4, h5⟩ := h
 have hcel := cells_only h0.cel h2 (fun e => h0.off (Or.inr (Or.inr (Or.inr e))))
 refine ⟨_, h0.newC (l' := l') h2 h1 h4 h3 h5 (Only.of_set w ⟨b, 7, none⟩ _) (hcel.set_ 7 _), (h2.mono fun k _ e => Or.inr (Or.inr (Or.inr (Or.inr e)))).trans (Only.of_set w ⟨b, 7, none⟩ _) fun k _ e => Or.inl e, fun k e => ?_⟩
 rcases e with e | e
 ·exact Or.inl (Or.inl e)
 ·exact (rowsC h3 e).imp_left Or.inr
theorem insC_cells {l' : List Co} {cs' : List Lay} {v : Value} (h0 : Own base w0 b s y) (h : InsC base b y l' cs' w0 v w) : ∃ A n c, v = .slice A n c ∧ w.cell? ⟨b, 7, none⟩ = some (.slice y.C s.com.length y.c) ∧ w.frozen? ⟨b, 7, none⟩ = false := by
 obtain ⟨A, c, rfl, h1, h2, h3, _⟩ := h
 have hcel := cells_only h0.cel h2 (fun e => h0.off (Or.inr (Or.inr (Or.inr e))))
 exact ⟨A, _, c, rfl, hcel.cell (j := 7) rfl, hcel.frozen (j := 7) (by unfold St.vals; simp)⟩
/-- A clone that has just been made. -/
def KC (b : Nat) (y : Sy) (p : Co) (w0 : World) (v : Value) (W : World) : Prop := Below w0.heap.size w0 W ∧ ∃ lay, v = .agg (p.vals lay).toArray ∧ Fr (fun j => sb b j ∨ rowsOf y j) W p.items p.nodes lay
def KC2 (b : Nat) (y : Sy) (p : Co) (w0 : World) (v : Value) (W : World) : Prop := Below w0.heap.size w0 W ∧ ∃ lay g, v = .slice (some ⟨g, 0, none⟩) 1 1 ∧ Cells W g 88 (p.vals lay) ∧ Fr (fun j => sb b j ∨ rowsOf y j) W p.items p.nodes lay
theorem KC.make {p : Co} {lay : Lay} (h : Own base w b s y) (hb : Below w0.heap.size w0 w) (hf : Fresh w.heap.size w' p.items p.nodes lay) (hb' : Below w.heap.size w w') : KC b y p w0 (.agg (p.vals lay).toArray) w' :=
 ⟨hb.trans (hb'.mono hb.size), lay, rfl, (Fr.of_fresh hf).next (Only.refl _ _) fun _ e => Or.inl (h.sb_lt e)⟩
theorem KC2.append {p : Co} {v : Value} (h0 : Own base w0 b s y) (hbase : base ≤ w0.heap.size) (hs : s.com.length ≤ 100000) (h : KC2 b y p w0 v w) : ∃ v' w', (Builtin.append_ #[30, 30] 30 #[.slice y.C s.com.length y.c, v]).run Tryz.prog w = .ok v' w' ∧ ∃ cs', InsC base b y (s.com ++ [p]) cs' w0 v' w' := by
 obtain ⟨hb, lay, g, rfl, hg, hf⟩ := h
 have h := h0.later hb
 have hcs := h.lists.cs
 have hzl := zip_len Co.vals hcs
 have hfx : Fit 6 [p.vals lay] := ⟨fun u hu => by rw [List.mem_singleton.1 hu]; rfl, fun u hu => by rw [List.mem_singleton.1 hu]; exact co_one p lay⟩
 obtain ⟨v', w', hrun, hr2, hgr, hnew⟩ := run_append_rows el_com w 30 base (.slice y.C s.com.length y.c) (List.zipWith Co.vals s.com y.cs) [p.vals lay] (some ⟨g, 0, none⟩) 1 (fit_com _ _) hfx (by rw [hzl]; exact h.lists.rowC) (cells_sl (by simpa using hg) hfx.len) (fun e => by cases e) (by rw [hzl, List.length_singleton]; omega) (Nat.le_trans hbase hb.size)
 have e1 : List.zipWith Co.vals s.com y.cs ++ [p.vals lay] = List.zipWith Co.vals (s.com ++ [p]) (y.cs ++ [lay]) := by rw [List.zipWith_append hcs.symm]; rfl
 have hlen : (y.cs ++ [lay]).length = (s.com ++ [p]).length := by rw [List.length_append, List.length_append, hcs]; rfl
 rw [e1, zip_len Co.vals hlen] at hr2
 obtain ⟨A, c, rfl⟩ := row_slice hr2
 have hgo := Only.of_grown hgr
 rw [own_blk, own_blk] at hnew
 have hgo' : Only (fun k => some k = blk y.C) w w' := hgo.mono fun k _ e => by rw [own_blk] at e; exact e
 have hon : Only (fun k => some k = blk y.C) w0 w' := (Only.of_below hb).trans hgo' fun _ _ e => e
 have hnw : ∀ j, blk A = some j → blk y.C = some j ∨ w.heap.size ≤ j := fun j e => by
  rcases hnew with e2 | e2
  ·exact Or.inl (e2.symm.trans e)
  ·have : j = w.heap.size := Option.some.inj (e.symm.trans e2)
   exact Or.inr (by omega)
 refine ⟨_, w', hrun, y.cs ++ [lay], A, c, rfl, hr2, hon, fun j e => (hnw j e).imp_right fun h => Nat.le_trans hb.size h, hlen, fun j h1 h2 => ?_⟩
 by_cases hlt : j < s.com.length
 ·rw [List.getElem_append_left hlt, List.getElem_append_left (by omega)]
  exact frC hgo' hnw (h.lists.cin j hlt (by omega))
 ·have hj : j = s.com.length := by simp at h1; omega
  subst hj
  rw [List.getElem_append_right (Nat.le_refl _), List.getElem_append_right (by omega)]
  simp only [Nat.sub_self, hcs, List.getElem_singleton]
  exact frC hgo' hnw hf
end
def rcCo (r : Rc) : Co := ⟨r.tid, r.items, r.nodes, false⟩
def fCommit (s : St) (r : Rc) : St × Int := if r.tid.node ≠ s.node then (s, 1) else if above s r.nodes = true then (s, 1) else if 0 ≤ at_com s r.tid then (s, 9) else if 512 ≤ s.com.length then (s, 6) else ({ s with com := s.com ++ [rcCo r] }, 0)
def ledM_co1a (s : St) (r : Rc) (b : Nat) (g : Nat) : Nat → Value → World → Prop
 | 0, v, _ => v = .pointer (some ⟨g, 1, none⟩)
 | 1, v, _ => v = .pointer (some ⟨g, 1, none⟩)
 | 2, v, _ => v = .int .i64 r.tid.node
 | 3, v, _ => v = .pointer (some ⟨b, 0, none⟩)
 | 4, v, _ => v = .pointer (some ⟨b, 0, none⟩)
 | 5, v, _ => v = .pointer (some ⟨b, 0, none⟩)
 | 6, v, _ => v = .int .i64 s.node
 | 7, v, _ => v = .bool true
 | 8, v, _ => v = .bool true
 | 9, v, _ => v = undef
 | 10, v, _ => v = undef
 | 11, v, _ => v = undef
 | 12, v, _ => v = undef
 | 13, v, _ => v = undef
 | 14, v, _ => v = undef
 | 15, v, _ => v = .bool true
 | 16, v, _ => v = .bool true
 | _, _, _ => True
def ledM_co1b (s : St) (y : Sy) (r : Rc) (z : Lay) (b : Nat) (g : Nat) : Nat → Value → World → Prop
 | 0, v, _ => v = .pointer (some ⟨g, 1, none⟩)
 | 1, v, _ => v = .pointer (some ⟨g, 1, none⟩)
 | 2, v, _ => v = .int .i64 r.tid.node
 | 3, v, _ => v = .pointer (some ⟨b, 0, none⟩)
 | 4, v, _ => v = .pointer (some ⟨b, 0, none⟩)
 | 5, v, _ => v = .pointer (some ⟨b, 0, none⟩)
 | 6, v, _ => v = .int .i64 s.node
 | 7, v, _ => v = .bool false
 | 8, v, _ => v = .bool false
 | 9, v, _ => v = .pointer (some ⟨b, 0, none⟩)
 | 10, v, _ => v = .pointer (some ⟨b, 0, none⟩)
 | 11, v, _ => v = s.val y
 | 12, v, _ => v = .pointer (some ⟨g, 5, none⟩)
 | 13, v, _ => v = .slice z.B r.nodes.length z.d
 | 14, v, _ => v = .bool (above s r.nodes)
 | 15, v, _ => v = .bool (above s r.nodes)
 | 16, v, _ => v = .bool (above s r.nodes)
 | _, _, _ => True
theorem ledM_co1b_later {s : St} {y : Sy} {r : Rc} {z : Lay} {b : Nat} {g : Nat} {j : Nat} {v : Value} {w w' : World} (_hb : Below w.heap.size w w') (h : ledM_co1b s y r z b g j v w) : ledM_co1b s y r z b g j v w' := by
 match j, h with
 | 0, h | 1, h | 2, h | 3, h | 4, h | 5, h | 6, h | 7, h | 8, h | 9, h | 10, h | 11, h | 12, h | 13, h | 14, h | 15, h | 16, h => exact h
 | _ + 17, _ => exact trivial
def ledM_co3 (s : St) (y : Sy) (r : Rc) (b : Nat) (g : Nat) : Nat → Value → World → Prop
 | 0, v, _ => v = .pointer (some ⟨b, 0, none⟩)
 | 1, v, _ => v = .pointer (some ⟨b, 0, none⟩)
 | 2, v, _ => v = s.val y
 | 3, v, _ => v = .pointer (some ⟨g, 1, none⟩)
 | 4, v, _ => v = .agg #[.int .i64 r.tid.node, .int .i64 r.tid.epoch, .int .i64 r.tid.seq]
 | 5, v, _ => v = .int .i64 (at_com s r.tid)
 | 6, v, _ => v = .bool (decide (0 ≤ (at_com s r.tid)))
 | 7, v, _ => v = .bool (decide (0 ≤ (at_com s r.tid)))
 | _, _, _ => True
theorem ledM_co3_later {s : St} {y : Sy} {r : Rc} {b : Nat} {g : Nat} {j : Nat} {v : Value} {w w' : World} (_hb : Below w.heap.size w w') (h : ledM_co3 s y r b g j v w) : ledM_co3 s y r b g j v w' := by
 match j, h with
 | 0, h | 1, h | 2, h | 3, h | 4, h | 5, h | 6, h | 7, h => exact h
 | _ + 8, _ => exact trivial
set_option maxHeartbeats 4000000 in
theorem commit_any (s : St) (y : Sy) (r : Rc) (z : Lay) (base b : Nat) (w : World) (ho : Own base w b s y) (hh : Two w r.items r.nodes z) (hs : Small s) (hr : r.items.length ≤ 1000 ∧ r.nodes.length ≤ 1000) :
  Calls Tryz.prog 70 #[.pointer (some ⟨b, 0, none⟩), r.val z] w fun e w' => e = .returned (.int .i64 (fCommit s r).2) ∧ Step base b s y w (fCommit s r).1 w' := by
 obtain ⟨wb, hwb⟩ : ∃ v, v = w.alloc (.cells #[.int .i64 r.kind, .int .i64 r.tid.node, .int .i64 r.tid.epoch, .int .i64 r.tid.seq, .slice z.A r.items.length z.c, .slice z.B r.nodes.length z.d, .int .i64 r.node, .int .i64 r.count, .int .i64 r.num, .int .i64 r.cell, .int .i64 r.status, .int .i64 r.hop, .int .i64 r.version, .int .i64 r.value, .bool r.yes] 51) := ⟨_, rfl⟩
 have hb : Below w.heap.size w wb := by rw [hwb]; exact below_alloc _ _
 have HOwb := Lib.hid (ho.later hb)
 have HRwb : Hid (Cells wb w.heap.size 51 (r.vals z)) := Lib.hid (by rw [hwb]; exact cells_new _ _ _ _ rfl)
 have HHwb := Lib.hid (hh.later hb)
 have HBwb := Lib.hid hb
 have HSM := Lib.hid hs
 have HRS := Lib.hid hr
 have HLO : Hid (base ≤ w.heap.size) := Lib.hid (Nat.le_trans ho.low (Nat.le_of_lt ho.cel.lt))
 obtain ⟨F, hF⟩ : ∃ F, fCommit s r = F := ⟨_, rfl⟩
 have HF := Lib.hid hF.symm
 rw [hF]
 unfold Rc.val
 clear ho hh hs hr hb hF
 go_enter Tryz.func70, Tryz.ntmps70
 go_wp2_with fail
 rw [← hwb]
 clear hwb
 by_cases he : r.tid.node = s.node
 ·have HE := Lib.hid he
  clear he
  refine Reg.region_heavy (by kernel_rfl) 16 [16] (ledM_co1b s y r z b w.heap.size) (fun a => Below wb.heap.size wb a) (fun a => Below wb.heap.size wb a) (fun V => [(some 7, V 0), (some 8, V 1), (some 9, V 2), (some 10, V 3), (some 11, V 4), (some 12, V 5), (some 13, V 6), (some 14, V 7), (some 15, V 8), (some 16, V 9), (some 17, V 10), (some 18, V 11), (some 19, V 12), (some 20, V 13), (some 21, V 14), (some 22, V 15), (some 6, V 16)]) (by kernel_rfl) (by kernel_rfl) (by kernel_rfl) (fun V => rfl) ?_ ?_ ?_
  ·exact (Below.refl _ _).drew
  ·intro i o ho
   have hi : i < 17 := (Array.getElem?_eq_some_iff.1 ho).1
   rcases i with _ | _ | _ | _ | _ | _ | _ | _ | _ | _ | _ | _ | _ | _ | _ | _ | _ | i
   rotate_right
   ·omega
   all_goals obtain rfl := Option.some.inj ho
   all_goals intro ρ wi hE hI hs hd
   all_goals try dsimp only at hI
   ·have e3 : ρ (.tmp 3) = .pointer (some ⟨w.heap.size, 0, none⟩) := hs 3; exact Reg.gw hI
   ·obtain ⟨_, rfl, e7⟩ := hd 0 7; exact Reg.gw hI
   ·obtain ⟨_, rfl, e8⟩ := hd 1 8; have x0 := (HRwb.out.later hI).cell (j := 1) rfl; exact Reg.gw hI
   ·have e0 : ρ (.tmp 0) = .pointer (some ⟨b, 0, none⟩) := hs 0; exact Reg.gw hI
   ·obtain ⟨_, rfl, e10⟩ := hd 3 10; exact Reg.gw hI
   ·obtain ⟨_, rfl, e11⟩ := hd 4 11; exact Reg.gw hI
   ·obtain ⟨_, rfl, e12⟩ := hd 5 12; have x0 := (HOwb.out.later hI).cel.cell (j := 0) rfl; exact Reg.gw hI
   ·obtain ⟨_, rfl, e9⟩ := hd 2 9; obtain ⟨_, rfl, e13⟩ := hd 6 13; have hne := HE.out; exact Reg.gw hI
   ·obtain ⟨_, rfl, e14⟩ := hd 7 14; exact Reg.gw hI
   ·have e0 : ρ (.tmp 0) = .pointer (some ⟨b, 0, none⟩) := hs 0
    refine Reg.yes ?_
    exact Reg.gw hI
   ·obtain ⟨_, rfl, e16⟩ := hd 9 16
    refine Reg.yes ?_
    exact Reg.gw hI
   ·obtain ⟨_, rfl, e17⟩ := hd 10 17
    refine Reg.yes ?_
    exact Reg.Gives.value (v := s.val y) (w' := wi) (exec_load _ _ rfl _ _ (by assumption) (state_load (HOwb.out.later hI))) (Reg.OwedH.same hI rfl)
   ·have e3 : ρ (.tmp 3) = .pointer (some ⟨w.heap.size, 0, none⟩) := hs 3
    refine Reg.yes ?_
    exact Reg.gw hI
   ·obtain ⟨_, rfl, e19⟩ := hd 12 19
    refine Reg.yes ?_
    have x0 := (HRwb.out.later hI).cell (j := 5) rfl; exact Reg.gw hI
   ·obtain ⟨_, rfl, e18⟩ := hd 11 18; obtain ⟨_, rfl, e20⟩ := hd 13 20; have hf := hE.func
    refine Reg.yes ?_
    refine Reg.Gives.call (f := 95) (args := #[s.val y, .slice z.B r.nodes.length z.d]) (w' := wi) (by go_simp) ?_
    refine (above_any s y z.B r.nodes z.d wi (HHwb.out.later hI).2.1 (Nat.le_trans HRS.out.2 (by decide))).mono ?_
    rintro e w'' ⟨rfl, hbb⟩
    exact ⟨_, rfl, ⟨rfl, hI.trans (hbb.mono hI.size), fun j u _ _ h => ledM_co1b_later hbb h⟩⟩
   ·obtain ⟨_, rfl, e15⟩ := hd 8 15; obtain ⟨_, rfl, e21⟩ := hd 14 21; have hc := hE.const; exact Reg.gw hI
   ·obtain ⟨_, rfl, e22⟩ := hd 15 22; exact Reg.gw hI
  ·intro V wc hV hI
   have hV16 : V 16 = .bool (above s r.nodes) := hV 16 (by decide) rfl
   simp only [Reg.putsO, List.foldl_cons, List.foldl_nil, Act.put, List.setIfInBounds_toArray, List.set_cons_succ, List.set_cons_zero, hV16]
   replace hI : (fun a => Below wb.heap.size wb a) wc := hI
   clear hV hV16
   have HOwc := Lib.hid (HOwb.out.later hI)
   have HRwc := Lib.hid (HRwb.out.later hI)
   have HHwc := Lib.hid (HHwb.out.later hI)
   have HBwc := Lib.hid (HBwb.out.trans (hI.mono HBwb.out.size))
   clear hI
   cases ha : above s r.nodes with
   | true =>
    have HA := Lib.hid ha
    clear ha
    have HFX : Hid (F = (s, 1)) := Lib.hid (by rw [HF.out]; unfold fCommit; rw [if_neg (fun h => h HE.out), HA.out]; rfl)
    go_wp2_with fail
    go_returns
    exact ⟨ret_int (by rw [HFX.out]), by rw [HFX.out]; exact Step.same HOwc.out HBwc.out⟩
   | false =>
    have HA := Lib.hid ha
    clear ha
    go_upto_region 3 with (fail)
    refine Reg.region_heavy (by kernel_rfl) 7 [7] (ledM_co3 s y r b w.heap.size) (fun a => Below wc.heap.size wc a) (fun a => Below wc.heap.size wc a) (fun V => [(some 24, V 0), (some 25, V 1), (some 26, V 2), (some 27, V 3), (some 28, V 4), (some 29, V 5), (some 30, V 6), (some 23, V 7)]) (by kernel_rfl) (by kernel_rfl) (by kernel_rfl) (fun V => rfl) ?_ ?_ ?_
    ·exact (Below.refl _ _).drew
    ·intro i o ho
     have hi : i < 8 := (Array.getElem?_eq_some_iff.1 ho).1
     rcases i with _ | _ | _ | _ | _ | _ | _ | _ | i
     rotate_right
     ·omega
     all_goals obtain rfl := Option.some.inj ho
     all_goals intro ρ wi hE hI hs hd
     all_goals try dsimp only at hI
     ·have e0 : ρ (.tmp 0) = .pointer (some ⟨b, 0, none⟩) := hs 0; exact Reg.gw hI
     ·obtain ⟨_, rfl, e24⟩ := hd 0 24; exact Reg.gw hI
     ·obtain ⟨_, rfl, e25⟩ := hd 1 25
      exact Reg.Gives.value (v := s.val y) (w' := wi) (exec_load _ _ rfl _ _ (by assumption) (state_load (HOwc.out.later hI))) (Reg.OwedH.same hI rfl)
     ·have e3 : ρ (.tmp 3) = .pointer (some ⟨w.heap.size, 0, none⟩) := hs 3; exact Reg.gw hI
     ·obtain ⟨_, rfl, e27⟩ := hd 3 27; have x0 := (HRwc.out.later hI).cell (j := 1) rfl; have x1 := (HRwc.out.later hI).cell (j := 2) rfl; have x2 := (HRwc.out.later hI).cell (j := 3) rfl; exact Reg.gw hI
     ·obtain ⟨_, rfl, e26⟩ := hd 2 26; obtain ⟨_, rfl, e28⟩ := hd 4 28; have hf := hE.func
      refine Reg.Gives.call (f := 25) (args := #[s.val y, .agg #[.int .i64 r.tid.node, .int .i64 r.tid.epoch, .int .i64 r.tid.seq]]) (w' := wi) (by go_simp) ?_
      refine (Find_com s y r.tid wi (HOwc.out.later hI).sees (Nat.le_trans HSM.out.com (by decide))).mono ?_
      rintro e w'' ⟨rfl, hbb⟩
      exact ⟨_, rfl, ⟨rfl, hI.trans (hbb.mono hI.size), fun j u _ _ h => ledM_co3_later hbb h⟩⟩
     ·obtain ⟨_, rfl, e29⟩ := hd 5 29; have hc := hE.const; exact Reg.gw hI
     ·obtain ⟨_, rfl, e30⟩ := hd 6 30; exact Reg.gw hI
    ·intro V wd hV hI
     have hV7 : V 7 = .bool (decide (0 ≤ (at_com s r.tid))) := hV 7 (by decide) rfl
     simp only [Reg.putsO, List.foldl_cons, List.foldl_nil, Act.put, List.setIfInBounds_toArray, List.set_cons_succ, List.set_cons_zero, hV7]
     replace hI : (fun a => Below wc.heap.size wc a) wd := hI
     clear hV hV7
     have HOwd := Lib.hid (HOwc.out.later hI)
     have HRwd := Lib.hid (HRwc.out.later hI)
     have HHwd := Lib.hid (HHwc.out.later hI)
     have HBwd := Lib.hid (HBwc.out.trans (hI.mono HBwc.out.size))
     clear hI
     by_cases h1 : 0 ≤ at_com s r.tid
     ·have HA2 := Lib.hid h1
      have HFX : Hid (F = (s, 9)) := Lib.hid (by rw [HF.out]; unfold fCommit; rw [if_neg (fun h => h HE.out), HA.out, if_pos HA2.out]; rfl)
      go_wp2_with fail
      go_returns
      exact ⟨ret_int (by rw [HFX.out]), by rw [HFX.out]; exact Step.same HOwd.out HBwd.out⟩
     ·have HA2 := Lib.hid h1
      have hq := HOwd.out.cel
      unfold St.vals at hq
      have q7 := hq.cell (j := 7) rfl
      have hcl := HSM.out.com
      clear hq
      by_cases h2 : 512 ≤ s.com.length
      ·have HA3 := Lib.hid h2
       have h3 : (512 : Int) ≤ (s.com.length : Int) := by omega
       have HFX : Hid (F = (s, 6)) := Lib.hid (by rw [HF.out]; unfold fCommit; rw [if_neg (fun h => h HE.out), HA.out, if_neg HA2.out, if_pos HA3.out]; rfl)
       go_wp2_with fail
       go_returns
       exact ⟨ret_int (by rw [HFX.out]), by rw [HFX.out]; exact Step.same HOwd.out HBwd.out⟩
      ·have HA3 := Lib.hid h2
       have h3 : ¬ (512 : Int) ≤ (s.com.length : Int) := by omega
       have HFX : Hid (F = ({ s with com := s.com ++ [rcCo r] }, 0)) := Lib.hid (by rw [HF.out]; unfold fCommit; rw [if_neg (fun h => h HE.out), HA.out, if_neg HA2.out, if_neg HA3.out]; rfl)
       have hx := HRwd.out
       unfold Rc.vals at hx
       have x0 := hx.cell (j := 0) rfl
       have x1 := hx.cell (j := 1) rfl
       have x2 := hx.cell (j := 2) rfl
       have x3 := hx.cell (j := 3) rfl
       have x4 := hx.cell (j := 4) rfl
       have x5 := hx.cell (j := 5) rfl
       have x6 := hx.cell (j := 6) rfl
       have x7 := hx.cell (j := 7) rfl
       have x8 := hx.cell (j := 8) rfl
       have x9 := hx.cell (j := 9) rfl
       have x10 := hx.cell (j := 10) rfl
       have x11 := hx.cell (j := 11) rfl
       have x12 := hx.cell (j := 12) rfl
       have x13 := hx.cell (j := 13) rfl
       have x14 := hx.cell (j := 14) rfl
       clear hx
       go_upto_region 8 with (fail)
       clear h1 h2 h3 q7 hcl x0 x1 x2 x3 x4 x5 x6 x7 x8 x9 x10 x11 x12 x13 x14
       obtain ⟨we, hwe⟩ : ∃ v, v = wd.alloc (.cells #[.int .i64 r.tid.node, .int .i64 r.tid.epoch, .int .i64 r.tid.seq, .slice z.A r.items.length z.c, .slice z.B r.nodes.length z.d, .bool false] 88) := ⟨_, rfl⟩
       have hI : Below wd.heap.size wd we := by rw [hwe]; exact below_alloc _ _
       have HXwe : Hid (Cells we wd.heap.size 88 [.int .i64 r.tid.node, .int .i64 r.tid.epoch, .int .i64 r.tid.seq, .slice z.A r.items.length z.c, .slice z.B r.nodes.length z.d, .bool false]) := Lib.hid (by rw [hwe]; exact cells_new _ _ _ _ rfl)
       rw [← hwe]
       clear hwe
       have HOwe := Lib.hid (HOwd.out.later hI)
       have HRwe := Lib.hid (HRwd.out.later hI)
       have HHwe := Lib.hid (HHwd.out.later hI)
       have HBwe := Lib.hid (HBwd.out.trans (hI.mono HBwd.out.size))
       clear hI
       have HBS : Hid (base ≤ we.heap.size) := Lib.hid (Nat.le_trans HLO.out HBwe.out.size)
       have HI : Hid (∀ V : Nat → Value, cond false (Step base b s y we { s with com := s.com ++ [rcCo r] } we.drew) (cond false (∃ cs', InsC base b y (s.com ++ [rcCo r]) cs' we (V 8) we.drew) (cond false (KC2 b y (rcCo r) we (V 7) we.drew) (cond false (KC b y (rcCo r) we (V 6) we.drew) (Below we.heap.size we we.drew))))) := Lib.hid fun V => (Below.refl _ _).drew
       refine Reg.region_inv (by kernel_rfl) (fun i => ([some (.pointer (some ⟨b, 0, none⟩)), some (.pointer (some ⟨b, 0, none⟩)), some (.pointer (some ⟨b, 0, none⟩)), some (.pointer (some ⟨b, 7, none⟩)), some (.slice y.C s.com.length y.c), some (.agg #[.int .i64 r.tid.node, .int .i64 r.tid.epoch, .int .i64 r.tid.seq, .slice z.A r.items.length z.c, .slice z.B r.nodes.length z.d, .bool false]), none, none, none, some (.pointer (some ⟨b, 0, none⟩)), some (.pointer (some ⟨b, 7, none⟩)), none] : List (Option Value)).getD i none) (fun D V W => cond (D 11) (Step base b s y we { s with com := s.com ++ [rcCo r] } W) (cond (D 8) (∃ cs', InsC base b y (s.com ++ [rcCo r]) cs' we (V 8) W) (cond (D 7) (KC2 b y (rcCo r) we (V 7) W) (cond (D 6) (KC b y (rcCo r) we (V 6) W) (Below we.heap.size we W))))) (fun V => [(some 45, V 0), (some 46, V 1), (some 47, V 2), (some 48, V 3), (some 49, V 4), (some 50, V 5), (some 51, V 6), (some 52, V 7), (some 53, V 8), (some 54, V 9), (some 55, V 10), (none, V 11)]) (by kernel_rfl) (by kernel_rfl) (fun V => rfl) ?_ ?_ ?_
       ·intro V
        exact HI.out V
       ·intro i o ho
        have hi : i < 12 := (Array.getElem?_eq_some_iff.1 ho).1
        rcases i with _ | _ | _ | _ | _ | _ | _ | _ | _ | _ | _ | _ | i
        rotate_right
        ·omega
        all_goals obtain rfl := Option.some.inj ho
        all_goals intro D V ρ wi hE hI hDi hT hF hs hd hk
        ·have e0 : ρ (.tmp 0) = .pointer (some ⟨b, 0, none⟩) := hs 0; clear hT hF hk
         exact Reg.Gives.value (v := .pointer (some ⟨b, 0, none⟩)) (w' := wi) (by go_simp) ⟨fun x h => Option.some.inj h, hI⟩
        ·have e0 : ρ (.tmp 0) = .pointer (some ⟨b, 0, none⟩) := hs 0; clear hT hF hk
         exact Reg.Gives.value (v := .pointer (some ⟨b, 0, none⟩)) (w' := wi) (by go_simp) ⟨fun x h => Option.some.inj h, hI⟩
        ·have e46 : ρ (.tmp 46) = .pointer (some ⟨b, 0, none⟩) := (hd 1 46).trans (hk 1 _ rfl); clear hT hF hk
         exact Reg.Gives.value (v := .pointer (some ⟨b, 0, none⟩)) (w' := wi) (by go_simp) ⟨fun x h => Option.some.inj h, hI⟩
        ·have e47 : ρ (.tmp 47) = .pointer (some ⟨b, 0, none⟩) := (hd 2 47).trans (hk 2 _ rfl); clear hT hF hk
         exact Reg.Gives.value (v := .pointer (some ⟨b, 7, none⟩)) (w' := wi) (by go_simp) ⟨fun x h => Option.some.inj h, hI⟩
        ·have e48 : ρ (.tmp 48) = .pointer (some ⟨b, 7, none⟩) := (hd 3 48).trans (hk 3 _ rfl); have hD8 : D 8 = false := hF 1 8; have hD11 : D 11 = false := hF 1 11; clear hT hF; have hI0 := hI
         simp only [hD8, hD11, cond_false] at hI
         have hlow : Below we.heap.size we wi := by revert hI; cases D 7 <;> cases D 6 <;> intro hI <;> first | exact hI | exact hI.1
         have x0 := (HOwe.out.later hlow).cel.cell (j := 7) rfl; clear hI
         exact Reg.Gives.value (v := .slice y.C s.com.length y.c) (w' := wi) (by go_simp) ⟨fun x h => Option.some.inj h, hI0⟩
        ·have e5 : ρ (.tmp 5) = .pointer (some ⟨wd.heap.size, 0, none⟩) := hs 5; have hD6 : D 6 = false := hF 1 6; have hD7 : D 7 = false := hF 2 7; have hD8 : D 8 = false := hF 2 8; have hD11 : D 11 = false := hF 1 11; clear hT hF; have hI0 := hI
         simp only [hD6, hD7, hD8, hD11, cond_false] at hI
         have hz := HXwe.out.later hI; have x0 := hz.cell (j := 0) rfl; have x1 := hz.cell (j := 1) rfl; have x2 := hz.cell (j := 2) rfl; have x3 := hz.cell (j := 3) rfl; have x4 := hz.cell (j := 4) rfl; have x5 := hz.cell (j := 5) rfl; clear hz
         exact Reg.Gives.value (v := .agg #[.int .i64 r.tid.node, .int .i64 r.tid.epoch, .int .i64 r.tid.seq, .slice z.A r.items.length z.c, .slice z.B r.nodes.length z.d, .bool false]) (w' := wi) (by go_simp) ⟨fun x h => Option.some.inj h, hI0⟩
        ·have e50 : ρ (.tmp 50) = .agg #[.int .i64 r.tid.node, .int .i64 r.tid.epoch, .int .i64 r.tid.seq, .slice z.A r.items.length z.c, .slice z.B r.nodes.length z.d, .bool false] := (hd 5 50).trans (hk 5 _ rfl); have hf := hE.func; have hD6 : D 6 = false := hDi; have hD7 : D 7 = false := hF 1 7; have hD8 : D 8 = false := hF 1 8; have hD11 : D 11 = false := hF 1 11; clear hT hF
         simp only [hD6, hD7, hD8, hD11, cond_false] at hI
         refine Reg.Gives.call (f := 64) (args := #[.agg #[.int .i64 r.tid.node, .int .i64 r.tid.epoch, .int .i64 r.tid.seq, .slice z.A r.items.length z.c, .slice z.B r.nodes.length z.d, .bool false]]) (w' := wi) (by go_simp) ?_
         refine (clone_com (rcCo r) z wi (HHwe.out.later hI) ⟨Nat.le_trans HRS.out.1 (by decide), Nat.le_trans HRS.out.2 (by decide)⟩).mono ?_
         rintro e w'' ⟨⟨lay, rfl, hfr⟩, hb'⟩
         refine ⟨_, rfl, fun x h => (by cases h), ?_⟩
         show cond (D 11) (Step base b s y we { s with com := s.com ++ [rcCo r] } w'') (cond (D 8) (∃ cs', InsC base b y (s.com ++ [rcCo r]) cs' we (V 8) w'') (cond (D 7) (KC2 b y (rcCo r) we (V 7) w'') (cond true (KC b y (rcCo r) we (Value.agg ((rcCo r).vals lay).toArray) w'') (Below we.heap.size we w''))))
         rw [hD7, hD8, hD11]
         exact KC.make (HOwe.out.later hI) hI hfr hb'
        ·have e51 : ρ (.tmp 51) = V 6 := hd 6 51; have hD6 : D 6 = true := hT 1 6; have hD7 : D 7 = false := hDi; have hD8 : D 8 = false := hF 1 8; have hD11 : D 11 = false := hF 1 11; clear hT hF
         simp only [hD6, hD7, hD8, hD11, cond_true, cond_false] at hI
         obtain ⟨hb, lay, hv, hfr⟩ := hI; have e51b : ρ (.tmp 51) = .agg #[.int .i64 r.tid.node, .int .i64 r.tid.epoch, .int .i64 r.tid.seq, .slice lay.A r.items.length lay.c, .slice lay.B r.nodes.length lay.d, .bool false] := e51.trans hv; clear e51
         have hal := below_alloc wi (.cells #[.int .i64 r.tid.node, .int .i64 r.tid.epoch, .int .i64 r.tid.seq, .slice lay.A r.items.length lay.c, .slice lay.B r.nodes.length lay.d, .bool false] 88)
         exact Reg.Gives.value (v := .slice (some ⟨wi.heap.size, 0, none⟩) 1 1) (w' := wi.alloc (.cells #[.int .i64 r.tid.node, .int .i64 r.tid.epoch, .int .i64 r.tid.seq, .slice lay.A r.items.length lay.c, .slice lay.B r.nodes.length lay.d, .bool false] 88)) (by go_simp) ⟨fun x h => (by cases h), by show cond (D 11) (Step base b s y we { s with com := s.com ++ [rcCo r] } (wi.alloc (.cells #[.int .i64 r.tid.node, .int .i64 r.tid.epoch, .int .i64 r.tid.seq, .slice lay.A r.items.length lay.c, .slice lay.B r.nodes.length lay.d, .bool false] 88))) (cond (D 8) (∃ cs', InsC base b y (s.com ++ [rcCo r]) cs' we (V 8) (wi.alloc (.cells #[.int .i64 r.tid.node, .int .i64 r.tid.epoch, .int .i64 r.tid.seq, .slice lay.A r.items.length lay.c, .slice lay.B r.nodes.length lay.d, .bool false] 88))) (cond true (KC2 b y (rcCo r) we (Value.slice (some ⟨wi.heap.size, 0, none⟩) 1 1) (wi.alloc (.cells #[.int .i64 r.tid.node, .int .i64 r.tid.epoch, .int .i64 r.tid.seq, .slice lay.A r.items.length lay.c, .slice lay.B r.nodes.length lay.d, .bool false] 88))) (cond (D 6) (KC b y (rcCo r) we (V 6) (wi.alloc (.cells #[.int .i64 r.tid.node, .int .i64 r.tid.epoch, .int .i64 r.tid.seq, .slice lay.A r.items.length lay.c, .slice lay.B r.nodes.length lay.d, .bool false] 88))) (Below we.heap.size we (wi.alloc (.cells #[.int .i64 r.tid.node, .int .i64 r.tid.epoch, .int .i64 r.tid.seq, .slice lay.A r.items.length lay.c, .slice lay.B r.nodes.length lay.d, .bool false] 88)))))); rw [hD8, hD11]; exact ⟨hb.trans (hal.mono hb.size), lay, _, rfl, cells_new wi _ _ _ rfl, hfr.later hal⟩⟩
        ·have e49 : ρ (.tmp 49) = .slice y.C s.com.length y.c := (hd 4 49).trans (hk 4 _ rfl); have e52 : ρ (.tmp 52) = V 7 := hd 7 52; have hD7 : D 7 = true := hT 1 7; have hD8 : D 8 = false := hDi; have hD11 : D 11 = false := hF 1 11; clear hT hF
         simp only [hD7, hD8, hD11, cond_true, cond_false] at hI
         obtain ⟨v', w', hrun, hins⟩ := hI.append HOwe.out HBS.out HSM.out.com
         exact Reg.Gives.value (v := v') (w' := w') (Reg.exec_append rfl (by assumption) (by assumption) hrun) ⟨fun x h => (by cases h), by show cond (D 11) (Step base b s y we { s with com := s.com ++ [rcCo r] } w') (cond true (∃ cs', InsC base b y (s.com ++ [rcCo r]) cs' we v' w') (cond (D 7) (KC2 b y (rcCo r) we (V 7) w') (cond (D 6) (KC b y (rcCo r) we (V 6) w') (Below we.heap.size we w')))); rw [hD11]; exact hins⟩
        ·have e45 : ρ (.tmp 45) = .pointer (some ⟨b, 0, none⟩) := (hd 0 45).trans (hk 0 _ rfl); clear hT hF hk
         exact Reg.Gives.value (v := .pointer (some ⟨b, 0, none⟩)) (w' := wi) (by go_simp) ⟨fun x h => Option.some.inj h, hI⟩
        ·have e54 : ρ (.tmp 54) = .pointer (some ⟨b, 0, none⟩) := (hd 9 54).trans (hk 9 _ rfl); clear hT hF hk
         exact Reg.Gives.value (v := .pointer (some ⟨b, 7, none⟩)) (w' := wi) (by go_simp) ⟨fun x h => Option.some.inj h, hI⟩
        ·have e55 : ρ (.tmp 55) = .pointer (some ⟨b, 7, none⟩) := (hd 10 55).trans (hk 10 _ rfl); have e53 : ρ (.tmp 53) = V 8 := hd 8 53; have hD8 : D 8 = true := hT 1 8; have hD11 : D 11 = false := hDi; clear hT hF
         simp only [hD8, hD11, cond_true, cond_false] at hI
         obtain ⟨cs', hI⟩ := hI; obtain ⟨A9, n9, c9, f1, x0, x1⟩ := insC_cells HOwe.out hI; have e53b := e53.trans f1; clear e53
         exact Reg.Gives.skip (w' := wi.setCell ⟨b, 7, none⟩ (V 8)) (by rw [f1]; clear f1; go_simp) ⟨fun x h => (by cases h), insC_step HOwe.out hI⟩
       ·intro V wf hk hI
        simp only [Reg.putsO, List.foldl_cons, List.foldl_nil, Act.put, List.setIfInBounds_toArray, List.set_cons_succ, List.set_cons_zero]
        replace hI : cond true (Step base b s y we { s with com := s.com ++ [rcCo r] } wf) (cond true (∃ cs', InsC base b y (s.com ++ [rcCo r]) cs' we (V 8) wf) (cond true (KC2 b y (rcCo r) we (V 7) wf) (cond true (KC b y (rcCo r) we (V 6) wf) (Below we.heap.size we wf)))) := hI
        clear hk
        have HN := Lib.hid hI
        clear hI HI
        go_wp2_with fail
        go_returns
        exact ⟨ret_int (by rw [HFX.out]), by rw [HFX.out]; exact Step.before HBwe.out HN.out⟩
 ·have HE := Lib.hid he
  clear he
  refine Reg.region_heavy (by kernel_rfl) 16 [16] (ledM_co1a s r b w.heap.size) (fun a => Below wb.heap.size wb a) (fun a => Below wb.heap.size wb a) (fun V => [(some 7, V 0), (some 8, V 1), (some 9, V 2), (some 10, V 3), (some 11, V 4), (some 12, V 5), (some 13, V 6), (some 14, V 7), (some 15, V 8), (some 16, V 9), (some 17, V 10), (some 18, V 11), (some 19, V 12), (some 20, V 13), (some 21, V 14), (some 22, V 15), (some 6, V 16)]) (by kernel_rfl) (by kernel_rfl) (by kernel_rfl) (fun V => rfl) ?_ ?_ ?_
  ·exact (Below.refl _ _).drew
  ·intro i o ho
   have hi : i < 17 := (Array.getElem?_eq_some_iff.1 ho).1
   rcases i with _ | _ | _ | _ | _ | _ | _ | _ | _ | _ | _ | _ | _ | _ | _ | _ | _ | i
   rotate_right
   ·omega
   all_goals obtain rfl := Option.some.inj ho
   all_goals intro ρ wi hE hI hs hd
   all_goals try dsimp only at hI
   ·have e3 : ρ (.tmp 3) = .pointer (some ⟨w.heap.size, 0, none⟩) := hs 3; exact Reg.gw hI
   ·obtain ⟨_, rfl, e7⟩ := hd 0 7; exact Reg.gw hI
   ·obtain ⟨_, rfl, e8⟩ := hd 1 8; have x0 := (HRwb.out.later hI).cell (j := 1) rfl; exact Reg.gw hI
   ·have e0 : ρ (.tmp 0) = .pointer (some ⟨b, 0, none⟩) := hs 0; exact Reg.gw hI
   ·obtain ⟨_, rfl, e10⟩ := hd 3 10; exact Reg.gw hI
   ·obtain ⟨_, rfl, e11⟩ := hd 4 11; exact Reg.gw hI
   ·obtain ⟨_, rfl, e12⟩ := hd 5 12; have x0 := (HOwb.out.later hI).cel.cell (j := 0) rfl; exact Reg.gw hI
   ·obtain ⟨_, rfl, e9⟩ := hd 2 9; obtain ⟨_, rfl, e13⟩ := hd 6 13; have hne := HE.out; exact Reg.gw hI
   ·obtain ⟨_, rfl, e14⟩ := hd 7 14; exact Reg.gw hI
   ·exact Reg.no hI
   ·exact Reg.no hI
   ·exact Reg.no hI
   ·exact Reg.no hI
   ·exact Reg.no hI
   ·exact Reg.no hI
   ·obtain ⟨_, rfl, e15⟩ := hd 8 15; obtain ⟨_, rfl, e21⟩ := hd 14 21; have hc := hE.const; exact Reg.gw hI
   ·obtain ⟨_, rfl, e22⟩ := hd 15 22; exact Reg.gw hI
  ·intro V wc hV hI
   have hV16 : V 16 = .bool true := hV 16 (by decide) rfl
   simp only [Reg.putsO, List.foldl_cons, List.foldl_nil, Act.put, List.setIfInBounds_toArray, List.set_cons_succ, List.set_cons_zero, hV16]
   replace hI : (fun a => Below wb.heap.size wb a) wc := hI
   clear hV hV16
   have HOwc := Lib.hid (HOwb.out.later hI)
   have HRwc := Lib.hid (HRwb.out.later hI)
   have HHwc := Lib.hid (HHwb.out.later hI)
   have HBwc := Lib.hid (HBwb.out.trans (hI.mono HBwb.out.size))
   clear hI
   have HFX : Hid (F = (s, 1)) := Lib.hid (by rw [HF.out]; unfold fCommit; rw [if_pos HE.out])
   go_wp2_with fail
   go_returns
   exact ⟨ret_int (by rw [HFX.out]), by rw [HFX.out]; exact Step.same HOwc.out HBwc.out⟩
end Go.Proofs.YtalhbblmnahcdaaGreat.Led
