/-
  Layer 8: decisions: conclude, past, refuse; End.
  Conditions: none.
-/
import Derived.Test.YtalhbblmnahcdaaGreatPa25
namespace Go.Proofs.YtalhbblmnahcdaaGreat.Led
set_option maxRecDepth 100000
open Go.RowKit Go.Deep Go.Proofs.YtalhbblmnahcdaaGreat.Mem Go.Proofs.YtalhbblmnahcdaaGreat.Item Go.Proofs.YtalhbblmnahcdaaGreat.Rec
def insD (l : List De) (d : De) : List De := l.take (bsAt (l.map fun x => ord x.tid d.tid)) ++ d :: l.drop (bsAt (l.map fun x => ord x.tid d.tid))
theorem insD_len (l : List De) (d : De) : (insD l d).length = l.length + 1 := by
 have h := bsAt_le (l.map fun x => ord x.tid d.tid)
 rw [List.length_map] at h
 unfold insD
 simp
 omega
def conc (s : St) (r : Rc) : St := { s with dec := insD s.dec ⟨r.tid, r.yes⟩ }
def fPast (s : St) (r : Rc) : St × Int := if known s r.tid = true then (s, 9) else if above s [r.tid.node] = true then (s, 1) else if room s = false then (s, 6) else (conc s r, 0)
def fRefuse (s : St) (r : Rc) : St × Int := if 0 ≤ at_dec s r.tid then (s, 9) else if r.yes = true then (s, 10) else fPast s r
/-- What insert leaves for the variable's field. -/
def InsD (base : Nat) (s : St) (y : Sy) (r : Rc) (w0 : World) (v : Value) (w : World) : Prop := ∃ A c, v = .slice A (conc s r).dec.length c ∧ w.ownsRow base 87 4 (.slice A (conc s r).dec.length c) (conc s r).dec.length ((conc s r).dec.map De.vals).flatten ∧ Only (fun k => some k = blk y.D) w0 w ∧ ∀ j, blk A = some j → blk y.D = some j ∨ w0.heap.size ≤ j
theorem insD_call {base b : Nat} {s : St} {y : Sy} {w0 w : World} (r : Rc) (h : Own base w b s y) (hb : Below w0.heap.size w0 w) (hbase : base ≤ w0.heap.size) (hs : Small s) :
  Calls Tryz.prog 119 #[.slice y.D s.dec.length y.d, .func (.func 50) #[] #[], .agg #[.int .i64 r.tid.node, .int .i64 r.tid.epoch, .int .i64 r.tid.seq, .bool r.yes]] w fun e w' => ∃ v, e = .returned v ∧ InsD base s y r w0 v w' := by
 have hi := insert_dec (.slice y.D s.dec.length y.d) (s.dec.map De.vals) (s.dec.map fun x => ord x.tid r.tid) ⟨r.tid, r.yes⟩ base w (Nat.le_trans hbase hb.size) (fit_dec _) (by rw [List.length_map]; exact h.lists.rowD) (by rw [List.length_map, List.length_map]) (by rw [List.length_map]; exact hs.dec) (fun k hk hk' => ⟨s.dec[k]'(by simpa using hk), by rw [List.getElem_map], by rw [List.getElem_map]⟩)
 refine hi.mono ?_
 rintro e w' ⟨v, rfl, h1, h2, h3⟩
 have e1 : (s.dec.map De.vals).take (bsAt (s.dec.map fun x => ord x.tid r.tid)) ++ De.vals ⟨r.tid, r.yes⟩ :: (s.dec.map De.vals).drop (bsAt (s.dec.map fun x => ord x.tid r.tid)) = (conc s r).dec.map De.vals := by
  unfold conc insD
  rw [List.map_append, List.map_cons, List.map_take, List.map_drop]
 rw [e1, List.length_map] at h1
 obtain ⟨A, c, rfl⟩ := row_slice h1
 rw [own_blk, own_blk] at h3
 refine ⟨_, rfl, A, c, rfl, h1, (Only.of_below hb).trans (h2.mono fun k _ e => by rw [own_blk] at e; exact e) fun _ _ e => e, fun j e => ?_⟩
 rcases h3 with h3 | ⟨k, h3, hk⟩
 ·exact Or.inl (h3.symm.trans e)
 ·have : j = k := Option.some.inj (e.symm.trans h3)
  have := hb.size
  exact Or.inr (by omega)
theorem insD_step {base b : Nat} {s : St} {y : Sy} {r : Rc} {w0 w : World} {v : Value} (h0 : Own base w0 b s y) (h : InsD base s y r w0 v w) : Step base b s y w0 (conc s r) (w.setCell ⟨b, 6, none⟩ v) := by
 obtain ⟨A, c, rfl, h1, h2, h3⟩ := h
 have hcel := cells_only h0.cel h2 (fun e => h0.off (Or.inr (Or.inr (Or.inl e))))
 have hb := hcel.lt
 refine ⟨_, h0.newD (l' := (conc s r).dec) h2 h1 h3 (Only.of_set w ⟨b, 6, none⟩ _) (hcel.set_ 6 _), (h2.mono fun k _ e => Or.inr (Or.inr (Or.inr (Or.inl e)))).trans (Only.of_set w ⟨b, 6, none⟩ _) fun k _ e => Or.inl e, fun k e => ?_⟩
 rcases e with e | e | e | e | e
 ·exact Or.inl (Or.inl e)
 ·exact Or.inl (Or.inr (Or.inl e))
 ·exact Or.inl (Or.inr (Or.inr (Or.inl e)))
 ·exact (grown h3 e).imp_left fun h => Or.inr (Or.inr (Or.inr (Or.inl h)))
 ·exact Or.inl (Or.inr (Or.inr (Or.inr (Or.inr e))))
theorem insD_cells {base b : Nat} {s : St} {y : Sy} {r : Rc} {w0 w : World} {v : Value} (h0 : Own base w0 b s y) (h : InsD base s y r w0 v w) : ∃ A n c, v = .slice A n c ∧ w.cell? ⟨b, 6, none⟩ = some (.slice y.D s.dec.length y.d) ∧ w.frozen? ⟨b, 6, none⟩ = false := by
 obtain ⟨A, c, rfl, h1, h2, h3⟩ := h
 have hcel := cells_only h0.cel h2 (fun e => h0.off (Or.inr (Or.inr (Or.inl e))))
 exact ⟨A, _, c, rfl, hcel.cell (j := 6) rfl, hcel.frozen (j := 6) (by unfold St.vals; simp)⟩
set_option maxHeartbeats 2000000 in
theorem conclude_any (s : St) (y : Sy) (r : Rc) (z : Lay) (base b : Nat) (w : World) (ho : Own base w b s y) (hh : Two w r.items r.nodes z) (hs : Small s) (hr : r.items.length ≤ 1000 ∧ r.nodes.length ≤ 1000) :
  Calls Tryz.prog 105 #[.pointer (some ⟨b, 0, none⟩), r.val z] w fun e w' => e = .returned (.tuple #[]) ∧ Step base b s y w (conc s r) w' := by
 obtain ⟨wb, hwb⟩ : ∃ v, v = w.alloc (.cells #[.int .i64 r.kind, .int .i64 r.tid.node, .int .i64 r.tid.epoch, .int .i64 r.tid.seq, .slice z.A r.items.length z.c, .slice z.B r.nodes.length z.d, .int .i64 r.node, .int .i64 r.count, .int .i64 r.num, .int .i64 r.cell, .int .i64 r.status, .int .i64 r.hop, .int .i64 r.version, .int .i64 r.value, .bool r.yes] 51) := ⟨_, rfl⟩
 have hb : Below w.heap.size w wb := by rw [hwb]; exact below_alloc _ _
 have HOwb := Lib.hid (ho.later hb)
 have HRwb : Hid (Cells wb w.heap.size 51 (r.vals z)) := Lib.hid (by rw [hwb]; exact cells_new _ _ _ _ rfl)
 have HHwb := Lib.hid (hh.later hb)
 have HBwb := Lib.hid hb
 have HSM := Lib.hid hs
 have HRS := Lib.hid hr
 have HBS : Hid (base ≤ wb.heap.size) := Lib.hid (Nat.le_trans ho.low (Nat.le_of_lt (Nat.lt_of_lt_of_le ho.cel.lt hb.size)))
 have HI : Hid (∀ V : Nat → Value, cond false (Step base b s y wb (conc s r) wb.drew) (cond false (InsD base s y r wb (V 10) wb.drew) (Below wb.heap.size wb wb.drew))) := Lib.hid fun V => (Below.refl _ _).drew
 unfold Rc.val
 clear ho hh hs hr hb
 go_enter Tryz.func105, Tryz.ntmps105
 go_wp2_with fail
 rw [← hwb]
 clear hwb
 refine Reg.region_inv (by kernel_rfl) (fun i => ([some (.pointer (some ⟨b, 0, none⟩)), some (.pointer (some ⟨b, 0, none⟩)), some (.pointer (some ⟨b, 0, none⟩)), some (.pointer (some ⟨b, 6, none⟩)), some (.slice y.D s.dec.length y.d), some (.pointer (some ⟨w.heap.size, 1, none⟩)), some (.agg #[.int .i64 r.tid.node, .int .i64 r.tid.epoch, .int .i64 r.tid.seq]), some (.pointer (some ⟨w.heap.size, 14, none⟩)), some (.bool r.yes), some (.agg #[.int .i64 r.tid.node, .int .i64 r.tid.epoch, .int .i64 r.tid.seq, .bool r.yes]), none, some (.pointer (some ⟨b, 0, none⟩)), some (.pointer (some ⟨b, 6, none⟩)), none] : List (Option Value)).getD i none) (fun D V W => cond (D 13) (Step base b s y wb (conc s r) W) (cond (D 10) (InsD base s y r wb (V 10) W) (Below wb.heap.size wb W))) (fun V => [(some 4, V 0), (some 5, V 1), (some 6, V 2), (some 7, V 3), (some 8, V 4), (some 9, V 5), (some 10, V 6), (some 11, V 7), (some 12, V 8), (some 13, V 9), (some 14, V 10), (some 15, V 11), (some 16, V 12), (none, V 13)]) (by kernel_rfl) (by kernel_rfl) (fun V => rfl) ?_ ?_ ?_
 ·intro V
  exact HI.out V
 ·intro i o ho
  have hi : i < 14 := (Array.getElem?_eq_some_iff.1 ho).1
  rcases i with _ | _ | _ | _ | _ | _ | _ | _ | _ | _ | _ | _ | _ | _ | i
  rotate_right
  ·omega
  all_goals obtain rfl := Option.some.inj ho
  all_goals intro D V ρ wi hE hI hDi hT hF hs hd hk
  ·have e0 : ρ (.tmp 0) = .pointer (some ⟨b, 0, none⟩) := hs 0; clear hT hF hk
   exact Reg.Gives.value (v := .pointer (some ⟨b, 0, none⟩)) (w' := wi) (by go_simp) ⟨fun x h => Option.some.inj h, hI⟩
  ·have e0 : ρ (.tmp 0) = .pointer (some ⟨b, 0, none⟩) := hs 0; clear hT hF hk
   exact Reg.Gives.value (v := .pointer (some ⟨b, 0, none⟩)) (w' := wi) (by go_simp) ⟨fun x h => Option.some.inj h, hI⟩
  ·have e5 : ρ (.tmp 5) = .pointer (some ⟨b, 0, none⟩) := (hd 1 5).trans (hk 1 _ rfl); clear hT hF hk
   exact Reg.Gives.value (v := .pointer (some ⟨b, 0, none⟩)) (w' := wi) (by go_simp) ⟨fun x h => Option.some.inj h, hI⟩
  ·have e6 : ρ (.tmp 6) = .pointer (some ⟨b, 0, none⟩) := (hd 2 6).trans (hk 2 _ rfl); clear hT hF hk
   exact Reg.Gives.value (v := .pointer (some ⟨b, 6, none⟩)) (w' := wi) (by go_simp) ⟨fun x h => Option.some.inj h, hI⟩
  ·have e7 : ρ (.tmp 7) = .pointer (some ⟨b, 6, none⟩) := (hd 3 7).trans (hk 3 _ rfl); have hD10 : D 10 = false := hF 1 10; have hD13 : D 13 = false := hF 1 13; clear hT hF; have hI0 := hI
   simp only [hD10, hD13, cond_false] at hI
   have x0 := (HOwb.out.later hI).cel.cell (j := 6) rfl
   exact Reg.Gives.value (v := .slice y.D s.dec.length y.d) (w' := wi) (by go_simp) ⟨fun x h => Option.some.inj h, hI0⟩
  ·have e3 : ρ (.tmp 3) = .pointer (some ⟨w.heap.size, 0, none⟩) := hs 3; clear hT hF hk
   exact Reg.Gives.value (v := .pointer (some ⟨w.heap.size, 1, none⟩)) (w' := wi) (by go_simp) ⟨fun x h => Option.some.inj h, hI⟩
  ·have e9 : ρ (.tmp 9) = .pointer (some ⟨w.heap.size, 1, none⟩) := (hd 5 9).trans (hk 5 _ rfl); have hD10 : D 10 = false := hF 2 10; have hD13 : D 13 = false := hF 1 13; clear hT hF; have hI0 := hI
   simp only [hD10, hD13, cond_false] at hI
   have x0 := (HRwb.out.later hI).cell (j := 1) rfl; have x1 := (HRwb.out.later hI).cell (j := 2) rfl; have x2 := (HRwb.out.later hI).cell (j := 3) rfl
   exact Reg.Gives.value (v := .agg #[.int .i64 r.tid.node, .int .i64 r.tid.epoch, .int .i64 r.tid.seq]) (w' := wi) (by go_simp) ⟨fun x h => Option.some.inj h, hI0⟩
  ·have e3 : ρ (.tmp 3) = .pointer (some ⟨w.heap.size, 0, none⟩) := hs 3; clear hT hF hk
   exact Reg.Gives.value (v := .pointer (some ⟨w.heap.size, 14, none⟩)) (w' := wi) (by go_simp) ⟨fun x h => Option.some.inj h, hI⟩
  ·have e11 : ρ (.tmp 11) = .pointer (some ⟨w.heap.size, 14, none⟩) := (hd 7 11).trans (hk 7 _ rfl); have hD10 : D 10 = false := hF 2 10; have hD13 : D 13 = false := hF 1 13; clear hT hF; have hI0 := hI
   simp only [hD10, hD13, cond_false] at hI
   have x0 := (HRwb.out.later hI).cell (j := 14) rfl
   exact Reg.Gives.value (v := .bool r.yes) (w' := wi) (by go_simp) ⟨fun x h => Option.some.inj h, hI0⟩
  ·have e10 : ρ (.tmp 10) = .agg #[.int .i64 r.tid.node, .int .i64 r.tid.epoch, .int .i64 r.tid.seq] := (hd 6 10).trans (hk 6 _ rfl); have e12 : ρ (.tmp 12) = .bool r.yes := (hd 8 12).trans (hk 8 _ rfl); clear hT hF hk
   exact Reg.Gives.value (v := .agg #[.int .i64 r.tid.node, .int .i64 r.tid.epoch, .int .i64 r.tid.seq, .bool r.yes]) (w' := wi) (by go_simp) ⟨fun x h => Option.some.inj h, hI⟩
  ·have e8 : ρ (.tmp 8) = .slice y.D s.dec.length y.d := (hd 4 8).trans (hk 4 _ rfl); have e13 : ρ (.tmp 13) = .agg #[.int .i64 r.tid.node, .int .i64 r.tid.epoch, .int .i64 r.tid.seq, .bool r.yes] := (hd 9 13).trans (hk 9 _ rfl); have hf := hE.func; have hD10 : D 10 = false := hDi; have hD13 : D 13 = false := hF 1 13; clear hT hF
   simp only [hD10, hD13, cond_false] at hI
   refine Reg.Gives.call (f := 119) (args := #[.slice y.D s.dec.length y.d, .func (.func 50) #[] #[], .agg #[.int .i64 r.tid.node, .int .i64 r.tid.epoch, .int .i64 r.tid.seq, .bool r.yes]]) (w' := wi) (by go_simp) ?_
   refine (insD_call r (HOwb.out.later hI) hI HBS.out HSM.out).mono ?_
   rintro e w'' ⟨v', rfl, hins⟩
   refine ⟨_, rfl, fun x h => (by cases h), ?_⟩
   show cond (D 13) (Step base b s y wb (conc s r) w'') (cond true (InsD base s y r wb v' w'') (Below wb.heap.size wb w''))
   rw [hD13]
   exact hins
  ·have e4 : ρ (.tmp 4) = .pointer (some ⟨b, 0, none⟩) := (hd 0 4).trans (hk 0 _ rfl); clear hT hF hk
   exact Reg.Gives.value (v := .pointer (some ⟨b, 0, none⟩)) (w' := wi) (by go_simp) ⟨fun x h => Option.some.inj h, hI⟩
  ·have e15 : ρ (.tmp 15) = .pointer (some ⟨b, 0, none⟩) := (hd 11 15).trans (hk 11 _ rfl); clear hT hF hk
   exact Reg.Gives.value (v := .pointer (some ⟨b, 6, none⟩)) (w' := wi) (by go_simp) ⟨fun x h => Option.some.inj h, hI⟩
  ·have e16 : ρ (.tmp 16) = .pointer (some ⟨b, 6, none⟩) := (hd 12 16).trans (hk 12 _ rfl); have e14 : ρ (.tmp 14) = V 10 := hd 10 14; have hD10 : D 10 = true := hT 1 10; have hD13 : D 13 = false := hDi; clear hT hF
   simp only [hD10, hD13, cond_true, cond_false] at hI
   obtain ⟨A9, n9, c9, f1, x0, x1⟩ := insD_cells HOwb.out hI; have e14b := e14.trans f1; clear e14
   exact Reg.Gives.skip (w' := wi.setCell ⟨b, 6, none⟩ (V 10)) (by rw [f1]; clear f1; go_simp) ⟨fun x h => (by cases h), insD_step HOwb.out hI⟩
 ·intro V wc hk hI
  simp only [Reg.putsO, List.foldl_cons, List.foldl_nil, Act.put, List.setIfInBounds_toArray, List.set_cons_succ, List.set_cons_zero]
  replace hI : cond true (Step base b s y wb (conc s r) wc) (cond true (InsD base s y r wb (V 10) wc) (Below wb.heap.size wb wc)) := hI
  clear hk
  have HN := Lib.hid hI
  clear hI
  go_wp2_with fail
  go_returns
  exact ⟨rfl, Step.before HBwb.out HN.out⟩
def ledM_pa1 (s : St) (y : Sy) (r : Rc) (b : Nat) (g : Nat) : Nat → Value → World → Prop
 | 0, v, _ => v = .pointer (some ⟨b, 0, none⟩)
 | 1, v, _ => v = .pointer (some ⟨b, 0, none⟩)
 | 2, v, _ => v = s.val y
 | 3, v, _ => v = .pointer (some ⟨g, 1, none⟩)
 | 4, v, _ => v = .agg #[.int .i64 r.tid.node, .int .i64 r.tid.epoch, .int .i64 r.tid.seq]
 | 5, v, _ => v = .bool (known s r.tid)
 | 6, v, _ => v = .bool (known s r.tid)
 | _, _, _ => True
theorem ledM_pa1_later {s : St} {y : Sy} {r : Rc} {b : Nat} {g : Nat} {j : Nat} {v : Value} {w w' : World} (_hb : Below w.heap.size w w') (h : ledM_pa1 s y r b g j v w) : ledM_pa1 s y r b g j v w' := by
 match j, h with
 | 0, h | 1, h | 2, h | 3, h | 4, h | 5, h | 6, h => exact h
 | _ + 7, _ => exact trivial
def ledM_pa3 (s : St) (y : Sy) (r : Rc) (b : Nat) (g : Nat) : Nat → Value → World → Prop
 | 0, v, _ => v = .pointer (some ⟨b, 0, none⟩)
 | 1, v, _ => v = .pointer (some ⟨b, 0, none⟩)
 | 2, v, _ => v = s.val y
 | 3, v, _ => v = .pointer (some ⟨g, 1, none⟩)
 | 4, v, _ => v = .pointer (some ⟨g, 1, none⟩)
 | 5, v, _ => v = .int .i64 r.tid.node
 | 6, v, w => ∃ kk, v = .slice (some ⟨kk, 0, none⟩) 1 1 ∧ Cells w kk 3 ([r.tid.node].map (Value.int .i64))
 | 7, v, _ => v = .bool (above s [r.tid.node])
 | 8, v, _ => v = .bool (above s [r.tid.node])
 | _, _, _ => True
theorem ledM_pa3_later {s : St} {y : Sy} {r : Rc} {b : Nat} {g : Nat} {j : Nat} {v : Value} {w w' : World} (hb : Below w.heap.size w w') (h : ledM_pa3 s y r b g j v w) : ledM_pa3 s y r b g j v w' := by
 match j, h with
 | 0, h | 1, h | 2, h | 3, h | 4, h | 5, h | 7, h | 8, h => exact h
 | 6, h =>
  obtain ⟨kk, h1, h2⟩ := h
  exact ⟨kk, h1, h2.later hb⟩
 | _ + 9, _ => exact trivial
set_option maxHeartbeats 2000000 in
theorem past_any (s : St) (y : Sy) (r : Rc) (z : Lay) (base b : Nat) (w : World) (ho : Own base w b s y) (hh : Two w r.items r.nodes z) (hs : Small s) (hr : r.items.length ≤ 1000 ∧ r.nodes.length ≤ 1000) :
  Calls Tryz.prog 69 #[.pointer (some ⟨b, 0, none⟩), r.val z] w fun e w' => e = .returned (.int .i64 (fPast s r).2) ∧ Step base b s y w (fPast s r).1 w' := by
 obtain ⟨wb, hwb⟩ : ∃ v, v = w.alloc (.cells #[.int .i64 r.kind, .int .i64 r.tid.node, .int .i64 r.tid.epoch, .int .i64 r.tid.seq, .slice z.A r.items.length z.c, .slice z.B r.nodes.length z.d, .int .i64 r.node, .int .i64 r.count, .int .i64 r.num, .int .i64 r.cell, .int .i64 r.status, .int .i64 r.hop, .int .i64 r.version, .int .i64 r.value, .bool r.yes] 51) := ⟨_, rfl⟩
 have hb : Below w.heap.size w wb := by rw [hwb]; exact below_alloc _ _
 have HOwb := Lib.hid (ho.later hb)
 have HRwb : Hid (Cells wb w.heap.size 51 (r.vals z)) := Lib.hid (by rw [hwb]; exact cells_new _ _ _ _ rfl)
 have HHwb := Lib.hid (hh.later hb)
 have HBwb := Lib.hid hb
 have HSM := Lib.hid hs
 have HRS := Lib.hid hr
 obtain ⟨F, hF⟩ : ∃ F, fPast s r = F := ⟨_, rfl⟩
 have HF := Lib.hid hF.symm
 rw [hF]
 unfold Rc.val
 clear ho hh hs hr hb hF
 go_enter Tryz.func69, Tryz.ntmps69
 go_wp2_with fail
 rw [← hwb]
 clear hwb
 refine Reg.region_heavy (by kernel_rfl) 6 [6] (ledM_pa1 s y r b w.heap.size) (fun a => Below wb.heap.size wb a) (fun a => Below wb.heap.size wb a) (fun V => [(some 6, V 0), (some 7, V 1), (some 8, V 2), (some 9, V 3), (some 10, V 4), (some 11, V 5), (some 5, V 6)]) (by kernel_rfl) (by kernel_rfl) (by kernel_rfl) (fun V => rfl) ?_ ?_ ?_
 ·exact (Below.refl _ _).drew
 ·intro i o ho
  have hi : i < 7 := (Array.getElem?_eq_some_iff.1 ho).1
  rcases i with _ | _ | _ | _ | _ | _ | _ | i
  rotate_right
  ·omega
  all_goals obtain rfl := Option.some.inj ho
  all_goals intro ρ wi hE hI hs hd
  all_goals try dsimp only at hI
  ·have e0 : ρ (.tmp 0) = .pointer (some ⟨b, 0, none⟩) := hs 0; exact Reg.gw hI
  ·obtain ⟨_, rfl, e6⟩ := hd 0 6; exact Reg.gw hI
  ·obtain ⟨_, rfl, e7⟩ := hd 1 7
   exact Reg.Gives.value (v := s.val y) (w' := wi) (exec_load _ _ rfl _ _ (by assumption) (state_load (HOwb.out.later hI))) (Reg.OwedH.same hI rfl)
  ·have e3 : ρ (.tmp 3) = .pointer (some ⟨w.heap.size, 0, none⟩) := hs 3; exact Reg.gw hI
  ·obtain ⟨_, rfl, e9⟩ := hd 3 9; have x0 := (HRwb.out.later hI).cell (j := 1) rfl; have x1 := (HRwb.out.later hI).cell (j := 2) rfl; have x2 := (HRwb.out.later hI).cell (j := 3) rfl; exact Reg.gw hI
  ·obtain ⟨_, rfl, e8⟩ := hd 2 8; obtain ⟨_, rfl, e10⟩ := hd 4 10; have hf := hE.func
   refine Reg.Gives.call (f := 96) (args := #[s.val y, .agg #[.int .i64 r.tid.node, .int .i64 r.tid.epoch, .int .i64 r.tid.seq]]) (w' := wi) (by go_simp) ?_
   refine (known_any s y r.tid wi (HOwb.out.later hI).sees (Nat.le_trans HSM.out.prep (by decide)) (Nat.le_trans HSM.out.dec (by decide))).mono ?_
   rintro e w'' ⟨rfl, hbb⟩
   exact ⟨_, rfl, ⟨rfl, hI.trans (hbb.mono hI.size), fun j u _ _ h => ledM_pa1_later hbb h⟩⟩
  ·obtain ⟨_, rfl, e11⟩ := hd 5 11; exact Reg.gw hI
 ·intro V wc hV hI
  have hV6 : V 6 = .bool (known s r.tid) := hV 6 (by decide) rfl
  simp only [Reg.putsO, List.foldl_cons, List.foldl_nil, Act.put, List.setIfInBounds_toArray, List.set_cons_succ, List.set_cons_zero, hV6]
  replace hI : (fun a => Below wb.heap.size wb a) wc := hI
  clear hV hV6
  have HOwc := Lib.hid (HOwb.out.later hI)
  have HRwc := Lib.hid (HRwb.out.later hI)
  have HHwc := Lib.hid (HHwb.out.later hI)
  have HBwc := Lib.hid (HBwb.out.trans (hI.mono HBwb.out.size))
  clear hI
  cases hh : known s r.tid with
  | true =>
   have HHF := Lib.hid hh
   clear hh
   have HFX : Hid (F = (s, 9)) := Lib.hid (by rw [HF.out]; exact if_pos HHF.out)
   go_wp2_with fail
   go_returns
   exact ⟨ret_int (by rw [HFX.out]), by rw [HFX.out]; exact Step.same HOwc.out HBwc.out⟩
  | false =>
   have HHT := Lib.hid hh
   clear hh
   go_upto_region 3 with (fail)
   refine Reg.region_heavy (by kernel_rfl) 8 [8] (ledM_pa3 s y r b w.heap.size) (fun a => Below wc.heap.size wc a) (fun a => Below wc.heap.size wc a) (fun V => [(some 13, V 0), (some 14, V 1), (some 15, V 2), (some 16, V 3), (some 17, V 4), (some 18, V 5), (some 19, V 6), (some 20, V 7), (some 12, V 8)]) (by kernel_rfl) (by kernel_rfl) (by kernel_rfl) (fun V => rfl) ?_ ?_ ?_
   ·exact (Below.refl _ _).drew
   ·intro i o ho
    have hi : i < 9 := (Array.getElem?_eq_some_iff.1 ho).1
    rcases i with _ | _ | _ | _ | _ | _ | _ | _ | _ | i
    rotate_right
    ·omega
    all_goals obtain rfl := Option.some.inj ho
    all_goals intro ρ wi hE hI hs hd
    all_goals try dsimp only at hI
    ·have e0 : ρ (.tmp 0) = .pointer (some ⟨b, 0, none⟩) := hs 0; exact Reg.gw hI
    ·obtain ⟨_, rfl, e13⟩ := hd 0 13; exact Reg.gw hI
    ·obtain ⟨_, rfl, e14⟩ := hd 1 14
     exact Reg.Gives.value (v := s.val y) (w' := wi) (exec_load _ _ rfl _ _ (by assumption) (state_load (HOwc.out.later hI))) (Reg.OwedH.same hI rfl)
    ·have e3 : ρ (.tmp 3) = .pointer (some ⟨w.heap.size, 0, none⟩) := hs 3; exact Reg.gw hI
    ·obtain ⟨_, rfl, e16⟩ := hd 3 16; exact Reg.gw hI
    ·obtain ⟨_, rfl, e17⟩ := hd 4 17; have x0 := (HRwc.out.later hI).cell (j := 1) rfl; exact Reg.gw hI
    ·obtain ⟨_, rfl, e18⟩ := hd 5 18; have hal := below_alloc wi (.cells #[.int .i64 r.tid.node] 3)
     exact Reg.Gives.value (v := .slice (some ⟨wi.heap.size, 0, none⟩) 1 1) (w' := wi.alloc (.cells #[.int .i64 r.tid.node] 3)) (by go_simp) ⟨⟨_, rfl, cells_new wi _ _ _ rfl⟩, hI.trans (hal.mono hI.size), fun j u _ _ h => ledM_pa3_later hal h⟩
    ·obtain ⟨_, rfl, e15⟩ := hd 2 15; obtain ⟨u19, g19, e19⟩ := hd 6 19; have hf := hE.func; obtain ⟨kk, rfl, hck⟩ := g19
     refine Reg.Gives.call (f := 95) (args := #[s.val y, .slice (some ⟨kk, 0, none⟩) 1 1]) (w' := wi) (by go_simp) ?_
     refine (above_any s y (some ⟨kk, 0, none⟩) [r.tid.node] 1 wi (fun j hj => ⟨kk, 0, rfl, cells_nums hck j hj⟩) (by simp)).mono ?_
     rintro e w'' ⟨rfl, hbb⟩
     exact ⟨_, rfl, ⟨rfl, hI.trans (hbb.mono hI.size), fun j u _ _ h => ledM_pa3_later hbb h⟩⟩
    ·obtain ⟨_, rfl, e20⟩ := hd 7 20; exact Reg.gw hI
   ·intro V wd hV hI
    have hV8 : V 8 = .bool (above s [r.tid.node]) := hV 8 (by decide) rfl
    simp only [Reg.putsO, List.foldl_cons, List.foldl_nil, Act.put, List.setIfInBounds_toArray, List.set_cons_succ, List.set_cons_zero, hV8]
    replace hI : (fun a => Below wc.heap.size wc a) wd := hI
    clear hV hV8
    have HOwd := Lib.hid (HOwc.out.later hI)
    have HRwd := Lib.hid (HRwc.out.later hI)
    have HHwd := Lib.hid (HHwc.out.later hI)
    have HBwd := Lib.hid (HBwc.out.trans (hI.mono HBwc.out.size))
    clear hI
    cases ha : above s [r.tid.node] with
    | true =>
     have HA := Lib.hid ha
     clear ha
     have HFX : Hid (F = (s, 1)) := Lib.hid (by rw [HF.out]; unfold fPast; rw [HHT.out, HA.out]; rfl)
     go_wp2_with fail
     go_returns
     exact ⟨ret_int (by rw [HFX.out]), by rw [HFX.out]; exact Step.same HOwd.out HBwd.out⟩
    | false =>
     have HA := Lib.hid ha
     clear ha
     have hq := HOwd.out.cel
     unfold St.vals at hq
     have q0 := hq.cell (j := 0) rfl
     have q1 := hq.cell (j := 1) rfl
     have q2 := hq.cell (j := 2) rfl
     have q3 := hq.cell (j := 3) rfl
     have q4 := hq.cell (j := 4) rfl
     have q5 := hq.cell (j := 5) rfl
     have q6 := hq.cell (j := 6) rfl
     have q7 := hq.cell (j := 7) rfl
     clear hq
     go_wp2_with fail
     clear q0 q1 q2 q3 q4 q5 q6 q7
     refine (room_any s y wd (Nat.le_trans HSM.out.prep (by decide)) (Nat.le_trans HSM.out.dec (by decide))).mono ?_
     rintro e we ⟨he, hI⟩
     replace he : e = .returned (.bool (room s)) := he
     subst he
     have HOwe := Lib.hid (HOwd.out.later hI)
     have HRwe := Lib.hid (HRwd.out.later hI)
     have HHwe := Lib.hid (HHwd.out.later hI)
     have HBwe := Lib.hid (HBwd.out.trans (hI.mono HBwd.out.size))
     clear hI
     cases hl : room s with
     | false =>
      have HL := Lib.hid hl
      clear hl
      have HFX : Hid (F = (s, 6)) := Lib.hid (by rw [HF.out]; unfold fPast; rw [HHT.out, HA.out, HL.out]; rfl)
      go_wp2_with fail
      go_returns
      exact ⟨ret_int (by rw [HFX.out]), by rw [HFX.out]; exact Step.same HOwe.out HBwe.out⟩
     | true =>
      have HL := Lib.hid hl
      clear hl
      have HFX : Hid (F = (conc s r, 0)) := Lib.hid (by rw [HF.out]; unfold fPast; rw [HHT.out, HA.out, HL.out]; rfl)
      have hx := HRwe.out
      unfold Rc.vals at hx
      have x0 := hx.cell (j := 0) rfl
      have x1 := hx.cell (j := 1) rfl
      have x2 := hx.cell (j := 2) rfl
      have x3 := hx.cell (j := 3) rfl
      have x4 := hx.cell (j := 4) rfl
      have x5 := hx.cell (j := 5) rfl
      have x6 := hx.cell (j := 6) rfl
      have x7 := hx.cell (j := 7) rfl
      have x8 := hx.cell (j := 8) rfl
      have x9 := hx.cell (j := 9) rfl
      have x10 := hx.cell (j := 10) rfl
      have x11 := hx.cell (j := 11) rfl
      have x12 := hx.cell (j := 12) rfl
      have x13 := hx.cell (j := 13) rfl
      have x14 := hx.cell (j := 14) rfl
      clear hx
      go_wp2_with fail
      clear x0 x1 x2 x3 x4 x5 x6 x7 x8 x9 x10 x11 x12 x13 x14
      refine (conclude_any s y r z base b we HOwe.out HHwe.out HSM.out HRS.out).mono ?_
      rintro e wf ⟨rfl, hst⟩
      have HN := Lib.hid hst
      clear hst
      go_wp2_with fail
      go_returns
      exact ⟨ret_int (by rw [HFX.out]), by rw [HFX.out]; exact Step.before HBwe.out HN.out⟩
def ledM_re1 (s : St) (y : Sy) (r : Rc) (b : Nat) (g : Nat) : Nat → Value → World → Prop
 | 0, v, _ => v = .pointer (some ⟨b, 0, none⟩)
 | 1, v, _ => v = .pointer (some ⟨b, 0, none⟩)
 | 2, v, _ => v = s.val y
 | 3, v, _ => v = .pointer (some ⟨g, 1, none⟩)
 | 4, v, _ => v = .agg #[.int .i64 r.tid.node, .int .i64 r.tid.epoch, .int .i64 r.tid.seq]
 | 5, v, _ => v = .int .i64 (at_dec s r.tid)
 | 6, v, _ => v = .bool (decide (0 ≤ (at_dec s r.tid)))
 | 7, v, _ => v = .bool (decide (0 ≤ (at_dec s r.tid)))
 | _, _, _ => True
theorem ledM_re1_later {s : St} {y : Sy} {r : Rc} {b : Nat} {g : Nat} {j : Nat} {v : Value} {w w' : World} (_hb : Below w.heap.size w w') (h : ledM_re1 s y r b g j v w) : ledM_re1 s y r b g j v w' := by
 match j, h with
 | 0, h | 1, h | 2, h | 3, h | 4, h | 5, h | 6, h | 7, h => exact h
 | _ + 8, _ => exact trivial
set_option maxHeartbeats 2000000 in
theorem refuse_any (s : St) (y : Sy) (r : Rc) (z : Lay) (base b : Nat) (w : World) (ho : Own base w b s y) (hh : Two w r.items r.nodes z) (hs : Small s) (hr : r.items.length ≤ 1000 ∧ r.nodes.length ≤ 1000) :
  Calls Tryz.prog 102 #[.pointer (some ⟨b, 0, none⟩), r.val z] w fun e w' => e = .returned (.int .i64 (fRefuse s r).2) ∧ Step base b s y w (fRefuse s r).1 w' := by
 obtain ⟨wb, hwb⟩ : ∃ v, v = w.alloc (.cells #[.int .i64 r.kind, .int .i64 r.tid.node, .int .i64 r.tid.epoch, .int .i64 r.tid.seq, .slice z.A r.items.length z.c, .slice z.B r.nodes.length z.d, .int .i64 r.node, .int .i64 r.count, .int .i64 r.num, .int .i64 r.cell, .int .i64 r.status, .int .i64 r.hop, .int .i64 r.version, .int .i64 r.value, .bool r.yes] 51) := ⟨_, rfl⟩
 have hb : Below w.heap.size w wb := by rw [hwb]; exact below_alloc _ _
 have HOwb := Lib.hid (ho.later hb)
 have HRwb : Hid (Cells wb w.heap.size 51 (r.vals z)) := Lib.hid (by rw [hwb]; exact cells_new _ _ _ _ rfl)
 have HHwb := Lib.hid (hh.later hb)
 have HBwb := Lib.hid hb
 have HSM := Lib.hid hs
 have HRS := Lib.hid hr
 obtain ⟨F, hF⟩ : ∃ F, fRefuse s r = F := ⟨_, rfl⟩
 have HF := Lib.hid hF.symm
 rw [hF]
 unfold Rc.val
 clear ho hh hs hr hb hF
 go_enter Tryz.func102, Tryz.ntmps102
 go_wp2_with fail
 rw [← hwb]
 clear hwb
 refine Reg.region_heavy (by kernel_rfl) 7 [7] (ledM_re1 s y r b w.heap.size) (fun a => Below wb.heap.size wb a) (fun a => Below wb.heap.size wb a) (fun V => [(some 6, V 0), (some 7, V 1), (some 8, V 2), (some 9, V 3), (some 10, V 4), (some 11, V 5), (some 12, V 6), (some 5, V 7)]) (by kernel_rfl) (by kernel_rfl) (by kernel_rfl) (fun V => rfl) ?_ ?_ ?_
 ·exact (Below.refl _ _).drew
 ·intro i o ho
  have hi : i < 8 := (Array.getElem?_eq_some_iff.1 ho).1
  rcases i with _ | _ | _ | _ | _ | _ | _ | _ | i
  rotate_right
  ·omega
  all_goals obtain rfl := Option.some.inj ho
  all_goals intro ρ wi hE hI hs hd
  all_goals try dsimp only at hI
  ·have e0 : ρ (.tmp 0) = .pointer (some ⟨b, 0, none⟩) := hs 0; exact Reg.gw hI
  ·obtain ⟨_, rfl, e6⟩ := hd 0 6; exact Reg.gw hI
  ·obtain ⟨_, rfl, e7⟩ := hd 1 7
   exact Reg.Gives.value (v := s.val y) (w' := wi) (exec_load _ _ rfl _ _ (by assumption) (state_load (HOwb.out.later hI))) (Reg.OwedH.same hI rfl)
  ·have e3 : ρ (.tmp 3) = .pointer (some ⟨w.heap.size, 0, none⟩) := hs 3; exact Reg.gw hI
  ·obtain ⟨_, rfl, e9⟩ := hd 3 9; have x0 := (HRwb.out.later hI).cell (j := 1) rfl; have x1 := (HRwb.out.later hI).cell (j := 2) rfl; have x2 := (HRwb.out.later hI).cell (j := 3) rfl; exact Reg.gw hI
  ·obtain ⟨_, rfl, e8⟩ := hd 2 8; obtain ⟨_, rfl, e10⟩ := hd 4 10; have hf := hE.func
   refine Reg.Gives.call (f := 23) (args := #[s.val y, .agg #[.int .i64 r.tid.node, .int .i64 r.tid.epoch, .int .i64 r.tid.seq]]) (w' := wi) (by go_simp) ?_
   refine (Find_dec s y r.tid wi (HOwb.out.later hI).sees (Nat.le_trans HSM.out.dec (by decide))).mono ?_
   rintro e w'' ⟨rfl, hbb⟩
   exact ⟨_, rfl, ⟨rfl, hI.trans (hbb.mono hI.size), fun j u _ _ h => ledM_re1_later hbb h⟩⟩
  ·obtain ⟨_, rfl, e11⟩ := hd 5 11; have hc := hE.const; exact Reg.gw hI
  ·obtain ⟨_, rfl, e12⟩ := hd 6 12; exact Reg.gw hI
 ·intro V wc hV hI
  have hV7 : V 7 = .bool (decide (0 ≤ (at_dec s r.tid))) := hV 7 (by decide) rfl
  simp only [Reg.putsO, List.foldl_cons, List.foldl_nil, Act.put, List.setIfInBounds_toArray, List.set_cons_succ, List.set_cons_zero, hV7]
  replace hI : (fun a => Below wb.heap.size wb a) wc := hI
  clear hV hV7
  have HOwc := Lib.hid (HOwb.out.later hI)
  have HRwc := Lib.hid (HRwb.out.later hI)
  have HHwc := Lib.hid (HHwb.out.later hI)
  have HBwc := Lib.hid (HBwb.out.trans (hI.mono HBwb.out.size))
  clear hI
  by_cases hh : 0 ≤ at_dec s r.tid
  ·have HHF := Lib.hid hh
   have HFX : Hid (F = (s, 9)) := Lib.hid (by rw [HF.out]; exact if_pos HHF.out)
   go_wp2_with fail
   go_returns
   exact ⟨ret_int (by rw [HFX.out]), by rw [HFX.out]; exact Step.same HOwc.out HBwc.out⟩
  ·have HHT := Lib.hid hh
   have hx := HRwc.out
   unfold Rc.vals at hx
   have x0 := hx.cell (j := 0) rfl
   have x1 := hx.cell (j := 1) rfl
   have x2 := hx.cell (j := 2) rfl
   have x3 := hx.cell (j := 3) rfl
   have x4 := hx.cell (j := 4) rfl
   have x5 := hx.cell (j := 5) rfl
   have x6 := hx.cell (j := 6) rfl
   have x7 := hx.cell (j := 7) rfl
   have x8 := hx.cell (j := 8) rfl
   have x9 := hx.cell (j := 9) rfl
   have x10 := hx.cell (j := 10) rfl
   have x11 := hx.cell (j := 11) rfl
   have x12 := hx.cell (j := 12) rfl
   have x13 := hx.cell (j := 13) rfl
   have x14 := hx.cell (j := 14) rfl
   clear hx
   cases hy : r.yes with
   | true =>
    have HY := Lib.hid hy
    rw [hy] at x14
    clear hy
    have HFX : Hid (F = (s, 10)) := Lib.hid (by rw [HF.out]; unfold fRefuse; rw [if_neg HHT.out, if_pos HY.out])
    go_wp2_with fail
    go_returns
    exact ⟨ret_int (by rw [HFX.out]), by rw [HFX.out]; exact Step.same HOwc.out HBwc.out⟩
   | false =>
    have HY := Lib.hid hy
    have HFX : Hid (F = fPast s r) := Lib.hid (by rw [HF.out]; unfold fRefuse; rw [if_neg HHT.out, if_neg (by rw [HY.out]; exact Bool.false_ne_true)])
    have HP : Hid (Calls Tryz.prog 69 #[.pointer (some ⟨b, 0, none⟩), .agg #[.int .i64 r.kind, .int .i64 r.tid.node, .int .i64 r.tid.epoch, .int .i64 r.tid.seq, .slice z.A r.items.length z.c, .slice z.B r.nodes.length z.d, .int .i64 r.node, .int .i64 r.count, .int .i64 r.num, .int .i64 r.cell, .int .i64 r.status, .int .i64 r.hop, .int .i64 r.version, .int .i64 r.value, .bool false]] wc fun e w' => e = .returned (.int .i64 (fPast s r).2) ∧ Step base b s y wc (fPast s r).1 w') := Lib.hid (by have h := past_any s y r z base b wc HOwc.out HHwc.out HSM.out HRS.out; unfold Rc.val at h; rw [hy] at h; exact h)
    rw [hy] at x14
    clear hy hh
    go_wp2_with fail
    clear x0 x1 x2 x3 x4 x5 x6 x7 x8 x9 x10 x11 x12 x13 x14
    refine HP.out.mono ?_
    rintro e wf ⟨rfl, hst⟩
    have HN := Lib.hid hst
    clear hst
    go_wp2_with fail
    go_returns
    exact ⟨ret_int (by rw [HFX.out]), by rw [HFX.out]; exact Step.before HBwc.out HN.out⟩
end Go.Proofs.YtalhbblmnahcdaaGreat.Led
