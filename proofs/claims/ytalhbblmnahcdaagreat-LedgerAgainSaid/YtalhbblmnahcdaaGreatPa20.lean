/-
  Layer 8: where a name stands among what is prepared, decided, committed.
  Conditions: none.
-/
import Derived.Test.YtalhbblmnahcdaaGreatPa19
import Derived.Test.YtalhbblmnahcdaaGreatPa4
import Derived.Laws.StructEq
namespace Go.Proofs.YtalhbblmnahcdaaGreat.Led
set_option maxRecDepth 100000
open Go.RowKit Go.Deep Go.Proofs.YtalhbblmnahcdaaGreat.Mem Go.Proofs.YtalhbblmnahcdaaGreat.Item Go.Proofs.YtalhbblmnahcdaaGreat.Rec
theorem tid_if {α : Sort _} (t u : Tid) (f : Bool → α) : (if t.node = u.node then (if t.epoch = u.epoch then (if t.seq = u.seq then f true else f false) else f false) else f false) = f (decide (t = u)) := by
 by_cases h : t = u
 ·subst h
  simp
 ·rw [decide_eq_false h]
  split
  ·split
   ·split
    ·rename_i h1 h2 h3
     obtain ⟨t1, t2, t3⟩ := t
     obtain ⟨u1, u2, u3⟩ := u
     simp only at h1 h2 h3
     subst h1 h2 h3
     exact absurd rfl h
    ·rfl
   ·rfl
  ·rfl
theorem drop3 {w : World} {g : Nat} {u : Tid} {ty : TypeId} (h : Cells w g ty [.int .i64 u.node, .int .i64 u.epoch, .int .i64 u.seq]) (wi : World) (hb : Below w.heap.size w wi) : wi.cell? ⟨g, 0, none⟩ = some (.int .i64 u.node) ∧ wi.cell? ⟨g, 1, none⟩ = some (.int .i64 u.epoch) ∧ wi.cell? ⟨g, 2, none⟩ = some (.int .i64 u.seq) :=
 ⟨(h.later hb).cell (j := 0) rfl, (h.later hb).cell (j := 1) rfl, (h.later hb).cell (j := 2) rfl⟩
theorem name_prep (p : Pr) (y : Lay) (w : World) :
  Calls Tryz.prog 48 #[.agg (p.vals y).toArray] w fun e w' => e = .returned p.tid.val ∧ Below w.heap.size w w' := by
 have hb1 := below_alloc w (.cells #[.int .i64 p.tid.node, .int .i64 p.tid.epoch, .int .i64 p.tid.seq, .slice y.A p.items.length y.c, .slice y.B p.nodes.length y.d] 86)
 have hb2 := hb1.alloc hb1.size (.cells #[.int .i64 p.tid.node, .int .i64 p.tid.epoch, .int .i64 p.tid.seq] 47)
 have HB := Lib.hid hb2
 clear hb1 hb2
 unfold Pr.vals Tid.val
 go_enter Tryz.func48, Tryz.ntmps48
 go_wp2_with fail
 go_returns
 exact ⟨rfl, HB.out⟩
def ledFind_prep (p : Pr) (y : Lay) (u : Tid) : Nat → Value → World → Prop
 | 0, v, _ => v = .func (.func 48) #[] #[]
 | 1, v, _ => v = .agg #[.int .i64 p.tid.node, .int .i64 p.tid.epoch, .int .i64 p.tid.seq, .slice y.A p.items.length y.c, .slice y.B p.nodes.length y.d]
 | 2, v, _ => v = .agg #[.int .i64 p.tid.node, .int .i64 p.tid.epoch, .int .i64 p.tid.seq]
 | 3, v, _ => v = .agg #[.int .i64 u.node, .int .i64 u.epoch, .int .i64 u.seq]
 | 4, v, _ => v = .bool (decide (p.tid = u))
 | 5, v, _ => v = .bool (decide (p.tid = u))
 | _, _, _ => True
theorem ledFind_prep_later {p : Pr} {y : Lay} {u : Tid} {j : Nat} {v : Value} {w w' : World} (_hb : Below w.heap.size w w') (h : ledFind_prep p y u j v w) : ledFind_prep p y u j v w' := by
 match j, h with
 | 0, h | 1, h | 2, h | 3, h | 4, h | 5, h => exact h
 | _ + 6, _ => exact trivial
theorem findEq_prep (p : Pr) (y : Lay) (pf pt : Nat) (u : Tid) (w : World) (hf : w.cell? ⟨pf, 0, none⟩ = some (.func (.func 48) #[] #[])) (hu : Cells w pt 47 [.int .i64 u.node, .int .i64 u.epoch, .int .i64 u.seq]) :
  Calls Tryz.prog 84 #[.agg (p.vals y).toArray, .pointer (some ⟨pf, 0, none⟩), .pointer (some ⟨pt, 0, none⟩)] w fun e w' => e = .returned (.bool (decide (p.tid = u))) ∧ Below w.heap.size w w' := by
 have HN := Lib.hid (fun wi => name_prep p y wi)
 obtain ⟨wb, hwb⟩ : ∃ v, v = w.alloc (.cells #[.int .i64 p.tid.node, .int .i64 p.tid.epoch, .int .i64 p.tid.seq, .slice y.A p.items.length y.c, .slice y.B p.nodes.length y.d] 86) := ⟨_, rfl⟩
 have hb : Below w.heap.size w wb := by rw [hwb]; exact below_alloc _ _
 have HF := Lib.hid (fun wi (h : Below wb.heap.size wb wi) => (h.cell (block_of_cell ((hb.cell (block_of_cell hf)).trans hf))).trans ((hb.cell (block_of_cell hf)).trans hf))
 have HU := Lib.hid (drop3 (hu.later hb))
 have HX := Lib.hid (fun wi (h : Below wb.heap.size wb wi) => (show Cells wb w.heap.size 86 [.int .i64 p.tid.node, .int .i64 p.tid.epoch, .int .i64 p.tid.seq, .slice y.A p.items.length y.c, .slice y.B p.nodes.length y.d] by rw [hwb]; exact cells_new _ _ _ _ rfl).later h)
 have HB := Lib.hid hb
 unfold Pr.vals at HN ⊢
 clear hf hu hb
 go_enter Tryz.func84, Tryz.ntmps84
 go_wp2_with fail
 rw [← hwb]
 refine Reg.region_heavy (by kernel_rfl) 5 [5] (ledFind_prep p y u) (fun a => Below wb.heap.size wb a) (fun a => Below wb.heap.size wb a) (fun V => [(some 5, V 0), (some 6, V 1), (some 7, V 2), (some 8, V 3), (some 9, V 4), (some 4, V 5)]) (by kernel_rfl) (by kernel_rfl) (by kernel_rfl) (fun V => rfl) ?_ ?_ ?_
 ·exact (Below.refl _ _).drew
 ·intro i o ho
  have hi : i < 6 := (Array.getElem?_eq_some_iff.1 ho).1
  rcases i with _ | _ | _ | _ | _ | _ | i
  rotate_right
  ·omega
  all_goals obtain rfl := Option.some.inj ho
  all_goals intro ρ wi hE hI hs hd
  all_goals try dsimp only at hI
  ·have e1 : ρ (.tmp 1) = .pointer (some ⟨pf, 0, none⟩) := hs 1; have x0 := HF.out wi hI; exact Reg.gw hI
  ·have e3 : ρ (.tmp 3) = .pointer (some ⟨w.heap.size, 0, none⟩) := hs 3; have hcx := HX.out wi hI; have z0 := hcx.cell (j := 0) rfl; have z1 := hcx.cell (j := 1) rfl; have z2 := hcx.cell (j := 2) rfl; have z3 := hcx.cell (j := 3) rfl; have z4 := hcx.cell (j := 4) rfl; exact Reg.gw hI
  ·obtain ⟨_, rfl, e5⟩ := hd 0 5; obtain ⟨_, rfl, e6⟩ := hd 1 6
   refine Reg.Gives.call (f := 48) (args := #[.agg #[.int .i64 p.tid.node, .int .i64 p.tid.epoch, .int .i64 p.tid.seq, .slice y.A p.items.length y.c, .slice y.B p.nodes.length y.d]]) (w' := wi) (by go_simp) ?_
   refine (HN.out wi).mono ?_
   rintro e w'' ⟨rfl, hbb⟩
   exact ⟨_, rfl, ⟨rfl, hI.trans (hbb.mono hI.size), fun j u _ _ h => ledFind_prep_later hbb h⟩⟩
  ·have e2 : ρ (.tmp 2) = .pointer (some ⟨pt, 0, none⟩) := hs 2; have ha := HU.out wi hI; have y0 := ha.1; have y1 := ha.2.1; have y2 := ha.2.2; exact Reg.gw hI
  ·obtain ⟨_, rfl, e7⟩ := hd 2 7; obtain ⟨_, rfl, e8⟩ := hd 3 8
   exact Reg.Gives.value (v := .bool (decide (p.tid = u))) (w' := wi) (by go_simp; exact tid_if p.tid u (fun b => Result.ok (Next.value (Value.bool b)) wi)) (Reg.OwedH.same hI rfl)
  ·obtain ⟨_, rfl, e9⟩ := hd 4 9; exact Reg.gw hI
 ·intro V wa hV hI
  have hV5 : V 5 = .bool (decide (p.tid = u)) := hV 5 (by decide) rfl
  simp only [Reg.putsO, List.foldl_cons, List.foldl_nil, Act.put, List.setIfInBounds_toArray, List.set_cons_succ, List.set_cons_zero, hV5]
  replace hI : (fun a => Below wb.heap.size wb a) wa := hI
  clear hV hV5
  go_wp2_with fail
  go_returns
  exact ⟨rfl, HB.out.trans (hI.mono HB.out.size)⟩
theorem find_prep (A : Option Addr) (l : List (List Value)) (bs : List Bool) (cap : Nat) (u : Tid) (w : World) (h : Sl w A 5 l) (hz : ∀ k (hk : k < l.length), l[k].length = 5) (hb : bs.length = l.length) (hl : l.length ≤ 1000000)
  (ht : ∀ k (hk : k < l.length) (hk' : k < bs.length), ∃ (p : Pr) (y : Lay), l[k] = p.vals y ∧ bs[k] = decide (p.tid = u)) :
  Calls Tryz.prog 47 #[.slice A l.length cap, .func (.func 48) #[] #[], u.val] w fun e w' => e = .returned (.int .i64 (idxB bs)) ∧ Below w.heap.size w w' := by
 obtain ⟨wb, hwb⟩ : ∃ v, v = (w.alloc (.cells #[.func (.func 48) #[] #[]] 100)).alloc (.cells #[.int .i64 u.node, .int .i64 u.epoch, .int .i64 u.seq] 47) := ⟨_, rfl⟩
 have hb1 := below_alloc w (.cells #[.func (.func 48) #[] #[]] 100)
 have hb2 : Below w.heap.size w wb := by rw [hwb]; exact hb1.alloc hb1.size _
 have hf : wb.cell? ⟨w.heap.size, 0, none⟩ = some (.func (.func 48) #[] #[]) := by
  rw [hwb]
  exact ((cells_new w 100 [.func (.func 48) #[] #[]] _ rfl).later (below_alloc _ _)).cell (j := 0) rfl
 have hu : Cells wb (w.heap.size + 1) 47 [.int .i64 u.node, .int .i64 u.epoch, .int .i64 u.seq] := by
  rw [hwb]
  have h := cells_new (w.alloc (.cells #[.func (.func 48) #[] #[]] 100)) 47 [.int .i64 u.node, .int .i64 u.epoch, .int .i64 u.seq] _ rfl
  rw [World.size_alloc] at h
  exact h
 have HC := Lib.hid (idx_prep A l bs cap (.pointer (some ⟨w.heap.size, 0, none⟩)) (.pointer (some ⟨w.heap.size + 1, 0, none⟩)) wb (h.later hb2) hz hb hl (fun k hk hk' w' hbw => by
  obtain ⟨p, y, e1, e2⟩ := ht k hk hk'
  rw [e1, e2]
  exact findEq_prep p y w.heap.size (w.heap.size + 1) u w' ((hbw.cell (block_of_cell hf)).trans hf) (hu.later hbw)))
 have HB := Lib.hid hb2
 obtain ⟨n, hn⟩ : ∃ n, l.length = n := ⟨_, rfl⟩
 rw [hn] at HC ⊢
 clear h hz hb hl ht hn hb1 hb2 hf hu
 unfold Tid.val
 go_enter Tryz.func47, Tryz.ntmps47
 go_wp2_with fail
 rw [← hwb]
 refine HC.out.mono ?_
 rintro e w2 ⟨rfl, hb2⟩
 have HB2 := Lib.hid (HB.out.trans (hb2.mono HB.out.size))
 clear hb2
 go_wp2_with fail
 go_returns
 exact ⟨rfl, HB2.out⟩
/-- Where it stands; -1: nowhere. -/
def at_prep (s : St) (u : Tid) : Int := idxB (s.prep.map fun p => decide (p.tid = u))
theorem Find_prep (s : St) (y : Sy) (u : Tid) (w : World) (h : Sees w s y) (hl : s.prep.length ≤ 1000000) :
  Calls Tryz.prog 21 #[s.val y, u.val] w fun e w' => e = .returned (.int .i64 (at_prep s u)) ∧ Below w.heap.size w w' := by
 obtain ⟨wb, hwb⟩ : ∃ v, v = (w.alloc (.cells #[.int .i64 s.node, .int .i64 s.nodes, .int .i64 s.cells, .int .i64 s.epoch, .slice y.P s.places.length y.p, .slice y.Q s.prep.length y.q, .slice y.D s.dec.length y.d, .slice y.C s.com.length y.c] 32)).alloc (.cells #[.int .i64 u.node, .int .i64 u.epoch, .int .i64 u.seq] 47) := ⟨_, rfl⟩
 have hb2 : Below w.heap.size w wb := by rw [hwb]; exact (below_alloc w _).alloc (below_alloc w _).size _
 have HC := Lib.hid (find_prep y.Q (List.zipWith Pr.vals s.prep y.ps) (s.prep.map fun p => decide (p.tid = u)) y.q u wb (h.prep.later hb2) (fun k hk => by rw [List.getElem_zipWith]; rfl) (by rw [List.length_map, List.length_zipWith, h.ps]; omega) (by rw [List.length_zipWith, h.ps]; omega) (fun k hk hk' => by
  rw [List.length_zipWith] at hk
  refine ⟨s.prep[k]'(by omega), y.ps[k]'(by omega), ?_, ?_⟩
  ·rw [List.getElem_zipWith]
  ·rw [List.getElem_map]))
 have HB := Lib.hid hb2
 have HLN : Hid ((List.zipWith Pr.vals s.prep y.ps).length = s.prep.length) := Lib.hid (by rw [List.length_zipWith, h.ps]; omega)
 rw [HLN.out] at HC
 unfold at_prep
 obtain ⟨F, hF⟩ : ∃ F, idxB (s.prep.map fun p => decide (p.tid = u)) = F := ⟨_, rfl⟩
 rw [hF] at HC ⊢
 clear h hl hb2 hF
 unfold St.val
 unfold Tid.val at HC ⊢
 go_enter Tryz.func21, Tryz.ntmps21
 go_wp2_with fail
 rw [← hwb]
 refine HC.out.mono ?_
 rintro e w2 ⟨rfl, hb2⟩
 have HB2 := Lib.hid (HB.out.trans (hb2.mono HB.out.size))
 clear hb2
 go_wp2_with fail
 go_returns
 exact ⟨rfl, HB2.out⟩
theorem name_dec (p : De) (w : World) :
  Calls Tryz.prog 50 #[.agg (p.vals).toArray] w fun e w' => e = .returned p.tid.val ∧ Below w.heap.size w w' := by
 have hb1 := below_alloc w (.cells #[.int .i64 p.tid.node, .int .i64 p.tid.epoch, .int .i64 p.tid.seq, .bool p.yes] 87)
 have hb2 := hb1.alloc hb1.size (.cells #[.int .i64 p.tid.node, .int .i64 p.tid.epoch, .int .i64 p.tid.seq] 47)
 have HB := Lib.hid hb2
 clear hb1 hb2
 unfold De.vals Tid.val
 go_enter Tryz.func50, Tryz.ntmps50
 go_wp2_with fail
 go_returns
 exact ⟨rfl, HB.out⟩
def ledFind_dec (p : De) (u : Tid) : Nat → Value → World → Prop
 | 0, v, _ => v = .func (.func 50) #[] #[]
 | 1, v, _ => v = .agg #[.int .i64 p.tid.node, .int .i64 p.tid.epoch, .int .i64 p.tid.seq, .bool p.yes]
 | 2, v, _ => v = .agg #[.int .i64 p.tid.node, .int .i64 p.tid.epoch, .int .i64 p.tid.seq]
 | 3, v, _ => v = .agg #[.int .i64 u.node, .int .i64 u.epoch, .int .i64 u.seq]
 | 4, v, _ => v = .bool (decide (p.tid = u))
 | 5, v, _ => v = .bool (decide (p.tid = u))
 | _, _, _ => True
theorem ledFind_dec_later {p : De} {u : Tid} {j : Nat} {v : Value} {w w' : World} (_hb : Below w.heap.size w w') (h : ledFind_dec p u j v w) : ledFind_dec p u j v w' := by
 match j, h with
 | 0, h | 1, h | 2, h | 3, h | 4, h | 5, h => exact h
 | _ + 6, _ => exact trivial
theorem findEq_dec (p : De) (pf pt : Nat) (u : Tid) (w : World) (hf : w.cell? ⟨pf, 0, none⟩ = some (.func (.func 50) #[] #[])) (hu : Cells w pt 47 [.int .i64 u.node, .int .i64 u.epoch, .int .i64 u.seq]) :
  Calls Tryz.prog 86 #[.agg (p.vals).toArray, .pointer (some ⟨pf, 0, none⟩), .pointer (some ⟨pt, 0, none⟩)] w fun e w' => e = .returned (.bool (decide (p.tid = u))) ∧ Below w.heap.size w w' := by
 have HN := Lib.hid (fun wi => name_dec p wi)
 obtain ⟨wb, hwb⟩ : ∃ v, v = w.alloc (.cells #[.int .i64 p.tid.node, .int .i64 p.tid.epoch, .int .i64 p.tid.seq, .bool p.yes] 87) := ⟨_, rfl⟩
 have hb : Below w.heap.size w wb := by rw [hwb]; exact below_alloc _ _
 have HF := Lib.hid (fun wi (h : Below wb.heap.size wb wi) => (h.cell (block_of_cell ((hb.cell (block_of_cell hf)).trans hf))).trans ((hb.cell (block_of_cell hf)).trans hf))
 have HU := Lib.hid (drop3 (hu.later hb))
 have HX := Lib.hid (fun wi (h : Below wb.heap.size wb wi) => (show Cells wb w.heap.size 87 [.int .i64 p.tid.node, .int .i64 p.tid.epoch, .int .i64 p.tid.seq, .bool p.yes] by rw [hwb]; exact cells_new _ _ _ _ rfl).later h)
 have HB := Lib.hid hb
 unfold De.vals at HN ⊢
 clear hf hu hb
 go_enter Tryz.func86, Tryz.ntmps86
 go_wp2_with fail
 rw [← hwb]
 refine Reg.region_heavy (by kernel_rfl) 5 [5] (ledFind_dec p u) (fun a => Below wb.heap.size wb a) (fun a => Below wb.heap.size wb a) (fun V => [(some 5, V 0), (some 6, V 1), (some 7, V 2), (some 8, V 3), (some 9, V 4), (some 4, V 5)]) (by kernel_rfl) (by kernel_rfl) (by kernel_rfl) (fun V => rfl) ?_ ?_ ?_
 ·exact (Below.refl _ _).drew
 ·intro i o ho
  have hi : i < 6 := (Array.getElem?_eq_some_iff.1 ho).1
  rcases i with _ | _ | _ | _ | _ | _ | i
  rotate_right
  ·omega
  all_goals obtain rfl := Option.some.inj ho
  all_goals intro ρ wi hE hI hs hd
  all_goals try dsimp only at hI
  ·have e1 : ρ (.tmp 1) = .pointer (some ⟨pf, 0, none⟩) := hs 1; have x0 := HF.out wi hI; exact Reg.gw hI
  ·have e3 : ρ (.tmp 3) = .pointer (some ⟨w.heap.size, 0, none⟩) := hs 3; have hcx := HX.out wi hI; have z0 := hcx.cell (j := 0) rfl; have z1 := hcx.cell (j := 1) rfl; have z2 := hcx.cell (j := 2) rfl; have z3 := hcx.cell (j := 3) rfl; exact Reg.gw hI
  ·obtain ⟨_, rfl, e5⟩ := hd 0 5; obtain ⟨_, rfl, e6⟩ := hd 1 6
   refine Reg.Gives.call (f := 50) (args := #[.agg #[.int .i64 p.tid.node, .int .i64 p.tid.epoch, .int .i64 p.tid.seq, .bool p.yes]]) (w' := wi) (by go_simp) ?_
   refine (HN.out wi).mono ?_
   rintro e w'' ⟨rfl, hbb⟩
   exact ⟨_, rfl, ⟨rfl, hI.trans (hbb.mono hI.size), fun j u _ _ h => ledFind_dec_later hbb h⟩⟩
  ·have e2 : ρ (.tmp 2) = .pointer (some ⟨pt, 0, none⟩) := hs 2; have ha := HU.out wi hI; have y0 := ha.1; have y1 := ha.2.1; have y2 := ha.2.2; exact Reg.gw hI
  ·obtain ⟨_, rfl, e7⟩ := hd 2 7; obtain ⟨_, rfl, e8⟩ := hd 3 8
   exact Reg.Gives.value (v := .bool (decide (p.tid = u))) (w' := wi) (by go_simp; exact tid_if p.tid u (fun b => Result.ok (Next.value (Value.bool b)) wi)) (Reg.OwedH.same hI rfl)
  ·obtain ⟨_, rfl, e9⟩ := hd 4 9; exact Reg.gw hI
 ·intro V wa hV hI
  have hV5 : V 5 = .bool (decide (p.tid = u)) := hV 5 (by decide) rfl
  simp only [Reg.putsO, List.foldl_cons, List.foldl_nil, Act.put, List.setIfInBounds_toArray, List.set_cons_succ, List.set_cons_zero, hV5]
  replace hI : (fun a => Below wb.heap.size wb a) wa := hI
  clear hV hV5
  go_wp2_with fail
  go_returns
  exact ⟨rfl, HB.out.trans (hI.mono HB.out.size)⟩
theorem find_dec (A : Option Addr) (l : List (List Value)) (bs : List Bool) (cap : Nat) (u : Tid) (w : World) (h : Sl w A 4 l) (hz : ∀ k (hk : k < l.length), l[k].length = 4) (hb : bs.length = l.length) (hl : l.length ≤ 1000000)
  (ht : ∀ k (hk : k < l.length) (hk' : k < bs.length), ∃ p : De, l[k] = p.vals ∧ bs[k] = decide (p.tid = u)) :
  Calls Tryz.prog 49 #[.slice A l.length cap, .func (.func 50) #[] #[], u.val] w fun e w' => e = .returned (.int .i64 (idxB bs)) ∧ Below w.heap.size w w' := by
 obtain ⟨wb, hwb⟩ : ∃ v, v = (w.alloc (.cells #[.func (.func 50) #[] #[]] 103)).alloc (.cells #[.int .i64 u.node, .int .i64 u.epoch, .int .i64 u.seq] 47) := ⟨_, rfl⟩
 have hb1 := below_alloc w (.cells #[.func (.func 50) #[] #[]] 103)
 have hb2 : Below w.heap.size w wb := by rw [hwb]; exact hb1.alloc hb1.size _
 have hf : wb.cell? ⟨w.heap.size, 0, none⟩ = some (.func (.func 50) #[] #[]) := by
  rw [hwb]
  exact ((cells_new w 103 [.func (.func 50) #[] #[]] _ rfl).later (below_alloc _ _)).cell (j := 0) rfl
 have hu : Cells wb (w.heap.size + 1) 47 [.int .i64 u.node, .int .i64 u.epoch, .int .i64 u.seq] := by
  rw [hwb]
  have h := cells_new (w.alloc (.cells #[.func (.func 50) #[] #[]] 103)) 47 [.int .i64 u.node, .int .i64 u.epoch, .int .i64 u.seq] _ rfl
  rw [World.size_alloc] at h
  exact h
 have HC := Lib.hid (idx_dec A l bs cap (.pointer (some ⟨w.heap.size, 0, none⟩)) (.pointer (some ⟨w.heap.size + 1, 0, none⟩)) wb (h.later hb2) hz hb hl (fun k hk hk' w' hbw => by
  obtain ⟨p, e1, e2⟩ := ht k hk hk'
  rw [e1, e2]
  exact findEq_dec p w.heap.size (w.heap.size + 1) u w' ((hbw.cell (block_of_cell hf)).trans hf) (hu.later hbw)))
 have HB := Lib.hid hb2
 obtain ⟨n, hn⟩ : ∃ n, l.length = n := ⟨_, rfl⟩
 rw [hn] at HC ⊢
 clear h hz hb hl ht hn hb1 hb2 hf hu
 unfold Tid.val
 go_enter Tryz.func49, Tryz.ntmps49
 go_wp2_with fail
 rw [← hwb]
 refine HC.out.mono ?_
 rintro e w2 ⟨rfl, hb2⟩
 have HB2 := Lib.hid (HB.out.trans (hb2.mono HB.out.size))
 clear hb2
 go_wp2_with fail
 go_returns
 exact ⟨rfl, HB2.out⟩
/-- Where it stands; -1: nowhere. -/
def at_dec (s : St) (u : Tid) : Int := idxB (s.dec.map fun p => decide (p.tid = u))
theorem Find_dec (s : St) (y : Sy) (u : Tid) (w : World) (h : Sees w s y) (hl : s.dec.length ≤ 1000000) :
  Calls Tryz.prog 23 #[s.val y, u.val] w fun e w' => e = .returned (.int .i64 (at_dec s u)) ∧ Below w.heap.size w w' := by
 obtain ⟨wb, hwb⟩ : ∃ v, v = (w.alloc (.cells #[.int .i64 s.node, .int .i64 s.nodes, .int .i64 s.cells, .int .i64 s.epoch, .slice y.P s.places.length y.p, .slice y.Q s.prep.length y.q, .slice y.D s.dec.length y.d, .slice y.C s.com.length y.c] 32)).alloc (.cells #[.int .i64 u.node, .int .i64 u.epoch, .int .i64 u.seq] 47) := ⟨_, rfl⟩
 have hb2 : Below w.heap.size w wb := by rw [hwb]; exact (below_alloc w _).alloc (below_alloc w _).size _
 have HC := Lib.hid (find_dec y.D (s.dec.map De.vals) (s.dec.map fun p => decide (p.tid = u)) y.d u wb (h.dec.later hb2) (fun k hk => by rw [List.getElem_map]; rfl) (by rw [List.length_map, List.length_map]) (by rw [List.length_map]; exact hl) (fun k hk hk' => by
  refine ⟨s.dec[k]'(by simpa using hk), ?_, ?_⟩
  ·rw [List.getElem_map]
  ·rw [List.getElem_map]))
 have HB := Lib.hid hb2
 have HLN : Hid ((s.dec.map De.vals).length = s.dec.length) := Lib.hid (by rw [List.length_map])
 rw [HLN.out] at HC
 unfold at_dec
 obtain ⟨F, hF⟩ : ∃ F, idxB (s.dec.map fun p => decide (p.tid = u)) = F := ⟨_, rfl⟩
 rw [hF] at HC ⊢
 clear h hl hb2 hF
 unfold St.val
 unfold Tid.val at HC ⊢
 go_enter Tryz.func23, Tryz.ntmps23
 go_wp2_with fail
 rw [← hwb]
 refine HC.out.mono ?_
 rintro e w2 ⟨rfl, hb2⟩
 have HB2 := Lib.hid (HB.out.trans (hb2.mono HB.out.size))
 clear hb2
 go_wp2_with fail
 go_returns
 exact ⟨rfl, HB2.out⟩
theorem name_com (p : Co) (y : Lay) (w : World) :
  Calls Tryz.prog 52 #[.agg (p.vals y).toArray] w fun e w' => e = .returned p.tid.val ∧ Below w.heap.size w w' := by
 have hb1 := below_alloc w (.cells #[.int .i64 p.tid.node, .int .i64 p.tid.epoch, .int .i64 p.tid.seq, .slice y.A p.items.length y.c, .slice y.B p.nodes.length y.d, .bool p.over] 88)
 have hb2 := hb1.alloc hb1.size (.cells #[.int .i64 p.tid.node, .int .i64 p.tid.epoch, .int .i64 p.tid.seq] 47)
 have HB := Lib.hid hb2
 clear hb1 hb2
 unfold Co.vals Tid.val
 go_enter Tryz.func52, Tryz.ntmps52
 go_wp2_with fail
 go_returns
 exact ⟨rfl, HB.out⟩
def ledFind_com (p : Co) (y : Lay) (u : Tid) : Nat → Value → World → Prop
 | 0, v, _ => v = .func (.func 52) #[] #[]
 | 1, v, _ => v = .agg #[.int .i64 p.tid.node, .int .i64 p.tid.epoch, .int .i64 p.tid.seq, .slice y.A p.items.length y.c, .slice y.B p.nodes.length y.d, .bool p.over]
 | 2, v, _ => v = .agg #[.int .i64 p.tid.node, .int .i64 p.tid.epoch, .int .i64 p.tid.seq]
 | 3, v, _ => v = .agg #[.int .i64 u.node, .int .i64 u.epoch, .int .i64 u.seq]
 | 4, v, _ => v = .bool (decide (p.tid = u))
 | 5, v, _ => v = .bool (decide (p.tid = u))
 | _, _, _ => True
theorem ledFind_com_later {p : Co} {y : Lay} {u : Tid} {j : Nat} {v : Value} {w w' : World} (_hb : Below w.heap.size w w') (h : ledFind_com p y u j v w) : ledFind_com p y u j v w' := by
 match j, h with
 | 0, h | 1, h | 2, h | 3, h | 4, h | 5, h => exact h
 | _ + 6, _ => exact trivial
theorem findEq_com (p : Co) (y : Lay) (pf pt : Nat) (u : Tid) (w : World) (hf : w.cell? ⟨pf, 0, none⟩ = some (.func (.func 52) #[] #[])) (hu : Cells w pt 47 [.int .i64 u.node, .int .i64 u.epoch, .int .i64 u.seq]) :
  Calls Tryz.prog 88 #[.agg (p.vals y).toArray, .pointer (some ⟨pf, 0, none⟩), .pointer (some ⟨pt, 0, none⟩)] w fun e w' => e = .returned (.bool (decide (p.tid = u))) ∧ Below w.heap.size w w' := by
 have HN := Lib.hid (fun wi => name_com p y wi)
 obtain ⟨wb, hwb⟩ : ∃ v, v = w.alloc (.cells #[.int .i64 p.tid.node, .int .i64 p.tid.epoch, .int .i64 p.tid.seq, .slice y.A p.items.length y.c, .slice y.B p.nodes.length y.d, .bool p.over] 88) := ⟨_, rfl⟩
 have hb : Below w.heap.size w wb := by rw [hwb]; exact below_alloc _ _
 have HF := Lib.hid (fun wi (h : Below wb.heap.size wb wi) => (h.cell (block_of_cell ((hb.cell (block_of_cell hf)).trans hf))).trans ((hb.cell (block_of_cell hf)).trans hf))
 have HU := Lib.hid (drop3 (hu.later hb))
 have HX := Lib.hid (fun wi (h : Below wb.heap.size wb wi) => (show Cells wb w.heap.size 88 [.int .i64 p.tid.node, .int .i64 p.tid.epoch, .int .i64 p.tid.seq, .slice y.A p.items.length y.c, .slice y.B p.nodes.length y.d, .bool p.over] by rw [hwb]; exact cells_new _ _ _ _ rfl).later h)
 have HB := Lib.hid hb
 unfold Co.vals at HN ⊢
 clear hf hu hb
 go_enter Tryz.func88, Tryz.ntmps88
 go_wp2_with fail
 rw [← hwb]
 refine Reg.region_heavy (by kernel_rfl) 5 [5] (ledFind_com p y u) (fun a => Below wb.heap.size wb a) (fun a => Below wb.heap.size wb a) (fun V => [(some 5, V 0), (some 6, V 1), (some 7, V 2), (some 8, V 3), (some 9, V 4), (some 4, V 5)]) (by kernel_rfl) (by kernel_rfl) (by kernel_rfl) (fun V => rfl) ?_ ?_ ?_
 ·exact (Below.refl _ _).drew
 ·intro i o ho
  have hi : i < 6 := (Array.getElem?_eq_some_iff.1 ho).1
  rcases i with _ | _ | _ | _ | _ | _ | i
  rotate_right
  ·omega
  all_goals obtain rfl := Option.some.inj ho
  all_goals intro ρ wi hE hI hs hd
  all_goals try dsimp only at hI
  ·have e1 : ρ (.tmp 1) = .pointer (some ⟨pf, 0, none⟩) := hs 1; have x0 := HF.out wi hI; exact Reg.gw hI
  ·have e3 : ρ (.tmp 3) = .pointer (some ⟨w.heap.size, 0, none⟩) := hs 3; have hcx := HX.out wi hI; have z0 := hcx.cell (j := 0) rfl; have z1 := hcx.cell (j := 1) rfl; have z2 := hcx.cell (j := 2) rfl; have z3 := hcx.cell (j := 3) rfl; have z4 := hcx.cell (j := 4) rfl; have z5 := hcx.cell (j := 5) rfl; exact Reg.gw hI
  ·obtain ⟨_, rfl, e5⟩ := hd 0 5; obtain ⟨_, rfl, e6⟩ := hd 1 6
   refine Reg.Gives.call (f := 52) (args := #[.agg #[.int .i64 p.tid.node, .int .i64 p.tid.epoch, .int .i64 p.tid.seq, .slice y.A p.items.length y.c, .slice y.B p.nodes.length y.d, .bool p.over]]) (w' := wi) (by go_simp) ?_
   refine (HN.out wi).mono ?_
   rintro e w'' ⟨rfl, hbb⟩
   exact ⟨_, rfl, ⟨rfl, hI.trans (hbb.mono hI.size), fun j u _ _ h => ledFind_com_later hbb h⟩⟩
  ·have e2 : ρ (.tmp 2) = .pointer (some ⟨pt, 0, none⟩) := hs 2; have ha := HU.out wi hI; have y0 := ha.1; have y1 := ha.2.1; have y2 := ha.2.2; exact Reg.gw hI
  ·obtain ⟨_, rfl, e7⟩ := hd 2 7; obtain ⟨_, rfl, e8⟩ := hd 3 8
   exact Reg.Gives.value (v := .bool (decide (p.tid = u))) (w' := wi) (by go_simp; exact tid_if p.tid u (fun b => Result.ok (Next.value (Value.bool b)) wi)) (Reg.OwedH.same hI rfl)
  ·obtain ⟨_, rfl, e9⟩ := hd 4 9; exact Reg.gw hI
 ·intro V wa hV hI
  have hV5 : V 5 = .bool (decide (p.tid = u)) := hV 5 (by decide) rfl
  simp only [Reg.putsO, List.foldl_cons, List.foldl_nil, Act.put, List.setIfInBounds_toArray, List.set_cons_succ, List.set_cons_zero, hV5]
  replace hI : (fun a => Below wb.heap.size wb a) wa := hI
  clear hV hV5
  go_wp2_with fail
  go_returns
  exact ⟨rfl, HB.out.trans (hI.mono HB.out.size)⟩
theorem find_com (A : Option Addr) (l : List (List Value)) (bs : List Bool) (cap : Nat) (u : Tid) (w : World) (h : Sl w A 6 l) (hz : ∀ k (hk : k < l.length), l[k].length = 6) (hb : bs.length = l.length) (hl : l.length ≤ 1000000)
  (ht : ∀ k (hk : k < l.length) (hk' : k < bs.length), ∃ (p : Co) (y : Lay), l[k] = p.vals y ∧ bs[k] = decide (p.tid = u)) :
  Calls Tryz.prog 51 #[.slice A l.length cap, .func (.func 52) #[] #[], u.val] w fun e w' => e = .returned (.int .i64 (idxB bs)) ∧ Below w.heap.size w w' := by
 obtain ⟨wb, hwb⟩ : ∃ v, v = (w.alloc (.cells #[.func (.func 52) #[] #[]] 105)).alloc (.cells #[.int .i64 u.node, .int .i64 u.epoch, .int .i64 u.seq] 47) := ⟨_, rfl⟩
 have hb1 := below_alloc w (.cells #[.func (.func 52) #[] #[]] 105)
 have hb2 : Below w.heap.size w wb := by rw [hwb]; exact hb1.alloc hb1.size _
 have hf : wb.cell? ⟨w.heap.size, 0, none⟩ = some (.func (.func 52) #[] #[]) := by
  rw [hwb]
  exact ((cells_new w 105 [.func (.func 52) #[] #[]] _ rfl).later (below_alloc _ _)).cell (j := 0) rfl
 have hu : Cells wb (w.heap.size + 1) 47 [.int .i64 u.node, .int .i64 u.epoch, .int .i64 u.seq] := by
  rw [hwb]
  have h := cells_new (w.alloc (.cells #[.func (.func 52) #[] #[]] 105)) 47 [.int .i64 u.node, .int .i64 u.epoch, .int .i64 u.seq] _ rfl
  rw [World.size_alloc] at h
  exact h
 have HC := Lib.hid (idx_com A l bs cap (.pointer (some ⟨w.heap.size, 0, none⟩)) (.pointer (some ⟨w.heap.size + 1, 0, none⟩)) wb (h.later hb2) hz hb hl (fun k hk hk' w' hbw => by
  obtain ⟨p, y, e1, e2⟩ := ht k hk hk'
  rw [e1, e2]
  exact findEq_com p y w.heap.size (w.heap.size + 1) u w' ((hbw.cell (block_of_cell hf)).trans hf) (hu.later hbw)))
 have HB := Lib.hid hb2
 obtain ⟨n, hn⟩ : ∃ n, l.length = n := ⟨_, rfl⟩
 rw [hn] at HC ⊢
 clear h hz hb hl ht hn hb1 hb2 hf hu
 unfold Tid.val
 go_enter Tryz.func51, Tryz.ntmps51
 go_wp2_with fail
 rw [← hwb]
 refine HC.out.mono ?_
 rintro e w2 ⟨rfl, hb2⟩
 have HB2 := Lib.hid (HB.out.trans (hb2.mono HB.out.size))
 clear hb2
 go_wp2_with fail
 go_returns
 exact ⟨rfl, HB2.out⟩
/-- Where it stands; -1: nowhere. -/
def at_com (s : St) (u : Tid) : Int := idxB (s.com.map fun p => decide (p.tid = u))
theorem Find_com (s : St) (y : Sy) (u : Tid) (w : World) (h : Sees w s y) (hl : s.com.length ≤ 1000000) :
  Calls Tryz.prog 25 #[s.val y, u.val] w fun e w' => e = .returned (.int .i64 (at_com s u)) ∧ Below w.heap.size w w' := by
 obtain ⟨wb, hwb⟩ : ∃ v, v = (w.alloc (.cells #[.int .i64 s.node, .int .i64 s.nodes, .int .i64 s.cells, .int .i64 s.epoch, .slice y.P s.places.length y.p, .slice y.Q s.prep.length y.q, .slice y.D s.dec.length y.d, .slice y.C s.com.length y.c] 32)).alloc (.cells #[.int .i64 u.node, .int .i64 u.epoch, .int .i64 u.seq] 47) := ⟨_, rfl⟩
 have hb2 : Below w.heap.size w wb := by rw [hwb]; exact (below_alloc w _).alloc (below_alloc w _).size _
 have HC := Lib.hid (find_com y.C (List.zipWith Co.vals s.com y.cs) (s.com.map fun p => decide (p.tid = u)) y.c u wb (h.com.later hb2) (fun k hk => by rw [List.getElem_zipWith]; rfl) (by rw [List.length_map, List.length_zipWith, h.cs]; omega) (by rw [List.length_zipWith, h.cs]; omega) (fun k hk hk' => by
  rw [List.length_zipWith] at hk
  refine ⟨s.com[k]'(by omega), y.cs[k]'(by omega), ?_, ?_⟩
  ·rw [List.getElem_zipWith]
  ·rw [List.getElem_map]))
 have HB := Lib.hid hb2
 have HLN : Hid ((List.zipWith Co.vals s.com y.cs).length = s.com.length) := Lib.hid (by rw [List.length_zipWith, h.cs]; omega)
 rw [HLN.out] at HC
 unfold at_com
 obtain ⟨F, hF⟩ : ∃ F, idxB (s.com.map fun p => decide (p.tid = u)) = F := ⟨_, rfl⟩
 rw [hF] at HC ⊢
 clear h hl hb2 hF
 unfold St.val
 unfold Tid.val at HC ⊢
 go_enter Tryz.func25, Tryz.ntmps25
 go_wp2_with fail
 rw [← hwb]
 refine HC.out.mono ?_
 rintro e w2 ⟨rfl, hb2⟩
 have HB2 := Lib.hid (HB.out.trans (hb2.mono HB.out.size))
 clear hb2
 go_wp2_with fail
 go_returns
 exact ⟨rfl, HB2.out⟩
end Go.Proofs.YtalhbblmnahcdaaGreat.Led
