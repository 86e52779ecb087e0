/- Part 15 of the proof. Conditions: none. -/
import Derived.Test.YtdkchpiinelmiaaGreatZ14
namespace Go.Proofs.YtdkchpiinelmiaaGreat.Led
set_option maxRecDepth 100000
open Go.RowKit Go.Deep Mem fN Rec
theorem zW {α : Sort _} (t u : cT) (f : Bool -> α) : (if t.node = u.node then (if t.epoch = u.epoch then (if t.seq = u.seq then f true else f false) else f false) else f false) = f (decide (t = u)) := by
 by_cases h : t = u
 ·subst h
  simp
 rw [decide_eq_false h]
 split
 ·split
  ·split
   ·rename_i h1 h2 h3
    obtain ⟨t1, t2, t3⟩ := t; obtain ⟨u1, u2, u3⟩ := u; simp only at h1 h2 h3; subst h1 h2 h3; exact absurd rfl h
   rfl
  rfl
 rfl
theorem sK {w : World} {g : Nat} {u : cT} {ty : TypeId} (h : Cells w g ty [iv u.node, iv u.epoch, iv u.seq]) (wi : World) (hb : Below w.heap.size w wi) : wi.cell? ⟨g, 0, none⟩ = some (iv u.node) /\ wi.cell? ⟨g, 1, none⟩ = some (iv u.epoch) /\ wi.cell? ⟨g, 2, none⟩ = some (iv u.seq) :=
 ⟨(h.later hb).cell (j := 0) rfl, (h.later hb).cell (j := 1) rfl, (h.later hb).cell (j := 2) rfl⟩
theorem qH (p : Pr) (y : Lay) (w : World) :
  Calls Tryz.prog 42 #[.agg (p.vals y).toArray] w fun e w' => e = .returned p.tid.val /\ Below w.heap.size w w' := by
 have hb1 := av w (.cells #[iv p.tid.node, iv p.tid.epoch, iv p.tid.seq, .slice y.A p.items.length y.c, .slice y.B p.nodes.length y.d] 78); have hb2 := hb1.alloc hb1.size (.cells #[iv p.tid.node, iv p.tid.epoch, iv p.tid.seq] 47); have HB := ak hb2; clear hb1 hb2; unfold Pr.vals cT.val
 go_enter Tryz.func42, Tryz.ntmps42
 go_wp2_with fail
 go_returns
 exact ⟨rfl, HB.o⟩
def wu (p : Pr) (y : Lay) (u : cT) : Nat -> Value -> World -> Prop := N.tb [.inl (.func (.func 42) #[] #[]), .inl (.agg #[.int .i64 p.tid.node, .int .i64 p.tid.epoch, .int .i64 p.tid.seq, .slice y.A p.items.length y.c, .slice y.B p.nodes.length y.d]), .inl (.agg #[.int .i64 p.tid.node, .int .i64 p.tid.epoch, .int .i64 p.tid.seq]), .inl (.agg #[.int .i64 u.node, .int .i64 u.epoch, .int .i64 u.seq]), .inl (.bool (decide (p.tid = u))), .inl (.bool (decide (p.tid = u)))]
theorem yX (p : Pr) (y : Lay) (pf pt : Nat) (u : cT) (w : World) (hf : w.cell? ⟨pf, 0, none⟩ = some (.func (.func 42) #[] #[])) (hu : Cells w pt 47 [iv u.node, iv u.epoch, iv u.seq]) :
  Calls Tryz.prog 76 #[.agg (p.vals y).toArray, (au pf), (au pt)] w fun e w' => e = .returned (.bool (decide (p.tid = u))) /\ Below w.heap.size w w' := by
 have HN := ak (fun wi => qH p y wi); obtain ⟨wb, hwb⟩ := aj (w.alloc (.cells #[iv p.tid.node, iv p.tid.epoch, iv p.tid.seq, .slice y.A p.items.length y.c, .slice y.B p.nodes.length y.d] 78)); have hb : Below w.heap.size w wb := by rw [hwb]; exact av _ _
 have HF := ak (fun wi (h : Below wb.heap.size wb wi) => (h.cell (aH ((hb.cell (aH hf)).trans hf))).trans ((hb.cell (aH hf)).trans hf)); have HU := ak (sK (hu.later hb)); have HX := ak (fun wi (h : Below wb.heap.size wb wi) => (show Cells wb w.heap.size 78 [iv p.tid.node, iv p.tid.epoch, iv p.tid.seq, .slice y.A p.items.length y.c, .slice y.B p.nodes.length y.d] by rw [hwb]; exact aB _ _ _ _ rfl).later h)
 have HB := ak hb; unfold Pr.vals at HN ⊢; clear hf hu hb
 go_enter Tryz.func76, Tryz.ntmps76
 go_wp2_with fail
 rw [<- hwb]; refine N.rb 5 [5] (wu p y u) wb (fun V => [(some 5, V 0), (some 6, V 1), (some 7, V 2), (some 8, V 3), (some 9, V 4), (some 4, V 5)]) ?_ ?_
 ·intro i o ho
  have hi : i < 6 := (Array.getElem?_eq_some_iff.1 ho).1; rcases i with _ | _ | _ | _ | _ | _ | i
  rotate_right
  ·omega
  all_goals obtain rfl := Option.some.inj ho
  all_goals intro ρ wi hE hI hs hd
  all_goals try dsimp only at hI
  ·have e1 : ρ (.tmp 1) = (au pf) := hs 1; have x0 := HF.o wi hI; exact N.gw hI
  ·have e3 : ρ (.tmp 3) = (au w.heap.size) := hs 3; have hcx := HX.o wi hI; obtain ⟨z0, z1, z2, z3, z4⟩ := hcx.q5; exact N.gw hI
  ·obtain ⟨_, rfl, e5⟩ := hd 0 5; obtain ⟨_, rfl, e6⟩ := hd 1 6
   refine N.Gives.call (f := 42) (args := #[.agg #[iv p.tid.node, iv p.tid.epoch, iv p.tid.seq, .slice y.A p.items.length y.c, .slice y.B p.nodes.length y.d]]) (w' := wi) (by go_simp) ?_; refine (HN.o wi).mono ?_; rintro e w'' ⟨rfl, hbb⟩; exact ⟨_, rfl, ⟨rfl, hI.trans (hbb.mono hI.size), fun j u _ _ h => N.tz h⟩⟩
  ·have e2 : ρ (.tmp 2) = (au pt) := hs 2; have ha := HU.o wi hI; have y0 := ha.1; have y1 := ha.2.1; have y2 := ha.2.2; exact N.gw hI
  ·obtain ⟨_, rfl, e7⟩ := hd 2 7; obtain ⟨_, rfl, e8⟩ := hd 3 8
   exact N.Gives.value (v := .bool (decide (p.tid = u))) (w' := wi) (by go_simp; exact zW p.tid u (fun b => Result.ok (Next.value (Value.bool b)) wi)) (N.bA.same hI rfl)
  obtain ⟨_, rfl, e9⟩ := hd 4 9; exact N.gw hI
 intro V wa hV hI
 have Bg : V 5 = .bool (decide (p.tid = u)) := hV 5 (by decide) rfl; simp only [N.aP, List.foldl_cons, List.foldl_nil, Act.put, List.setIfInBounds_toArray, List.set_cons_succ, List.set_cons_zero, Bg]; replace hI : (fun a => Below wb.heap.size wb a) wa := hI; clear hV Bg
 go_wp2_with fail
 go_returns
 exact ⟨rfl, HB.o.trans (hI.mono HB.o.size)⟩
theorem E6 (A : Option Addr) (l : List (List Value)) (bs : List Bool) (cap : Nat) (u : cT) (w : World) (h : Sl w A 5 l) (hz : ∀ k (hk : k < l.length), l[k].length = 5) (hb : bs.length = l.length) (hl : l.length <= 1000000)
  (ht : ∀ k (hk : k < l.length) (hk' : k < bs.length), ∃ (p : Pr) (y : Lay), l[k] = p.vals y /\ bs[k] = decide (p.tid = u)) :
  Calls Tryz.prog 41 #[.slice A l.length cap, .func (.func 42) #[] #[], u.val] w fun e w' => e = .returned (iv (dV bs)) /\ Below w.heap.size w w' := by
 obtain ⟨wb, hwb⟩ := aj ((w.alloc (.cells #[.func (.func 42) #[] #[]] 92)).alloc (.cells #[iv u.node, iv u.epoch, iv u.seq] 47)); have hb1 := av w (.cells #[.func (.func 42) #[] #[]] 92); have hb2 : Below w.heap.size w wb := by rw [hwb]; exact hb1.alloc hb1.size _
 have hf : wb.cell? ⟨w.heap.size, 0, none⟩ = some (.func (.func 42) #[] #[]) := by
  rw [hwb]; exact ((aB w 92 [.func (.func 42) #[] #[]] _ rfl).later (av _ _)).cell (j := 0) rfl
 have hu : Cells wb (w.heap.size + 1) 47 [iv u.node, iv u.epoch, iv u.seq] := by
  rw [hwb]; have h := aB (w.alloc (.cells #[.func (.func 42) #[] #[]] 92)) 47 [iv u.node, iv u.epoch, iv u.seq] _ rfl; rw [World.size_alloc] at h; exact h
 have HC := ak (Iq A l bs cap ((au w.heap.size)) ((au (w.heap.size + 1))) wb (h.later hb2) hz hb hl (fun k hk hk' w' kV => by
  obtain ⟨p, y, e1, e2⟩ := ht k hk hk'; rw [e1, e2]; exact yX p y w.heap.size (w.heap.size + 1) u w' ((kV.cell (aH hf)).trans hf) (hu.later kV)))
 have HB := ak hb2; obtain ⟨n, hn⟩ := ah l.length; rw [hn] at HC ⊢; clear h hz hb hl ht hn hb1 hb2 hf hu; unfold cT.val
 go_enter Tryz.func41, Tryz.ntmps41
 go_wp2_with fail
 rw [<- hwb]; refine HC.o.mono ?_; rintro e w2 ⟨rfl, hb2⟩; have bZ := ak (HB.o.trans (hb2.mono HB.o.size)); clear hb2
 go_wp2_with fail
 go_returns
 exact ⟨rfl, bZ.o⟩
def bQ (s : St) (u : cT) : Int := dV (s.ay.map fun p => decide (p.tid = u))
theorem qT (s : St) (y : Sy) (u : cT) (w : World) (h : cL w s y) (hl : s.ay.length <= 1000000) :
  Calls Tryz.prog 19 #[s.val y, u.val] w fun e w' => e = .returned (iv (bQ s u)) /\ Below w.heap.size w w' := by
 obtain ⟨wb, hwb⟩ := aj ((w.alloc (.cells #[iv s.node, iv s.nodes, iv s.cells, iv s.epoch, .slice y.P s.places.length y.p, .slice y.Q s.ay.length y.q, .slice y.D s.dec.length y.d, .slice y.C s.com.length y.c] 32)).alloc (.cells #[iv u.node, iv u.epoch, iv u.seq] 47)); have hb2 : Below w.heap.size w wb := by rw [hwb]; exact (av w _).alloc (av w _).size _
 have HC := ak (E6 y.Q (List.zipWith Pr.vals s.ay y.ps) (s.ay.map fun p => decide (p.tid = u)) y.q u wb (h.ay.later hb2) (fun k hk => by rw [List.getElem_zipWith]; rfl) (by rw [List.length_map, List.length_zipWith, h.ps]; omega) (by rw [List.length_zipWith, h.ps]; omega) (fun k hk hk' => by
  rw [List.length_zipWith] at hk; refine ⟨s.ay[k]'(by omega), y.ps[k]'(by omega), ?_, ?_⟩
  ·rw [List.getElem_zipWith]
  rw [List.getElem_map]))
 have HB := ak hb2; have uh : Hid ((List.zipWith Pr.vals s.ay y.ps).length = s.ay.length) := ak (by rw [List.length_zipWith, h.ps]; omega); rw [uh.o] at HC; unfold bQ; obtain ⟨F, hF⟩ : ∃ F, dV (s.ay.map fun p => decide (p.tid = u)) = F := ⟨_, rfl⟩; rw [hF] at HC ⊢; clear h hl hb2 hF; unfold St.val; unfold cT.val at HC ⊢
 go_enter Tryz.func19, Tryz.ntmps19
 go_wp2_with fail
 rw [<- hwb]; refine HC.o.mono ?_; rintro e w2 ⟨rfl, hb2⟩; have bZ := ak (HB.o.trans (hb2.mono HB.o.size)); clear hb2
 go_wp2_with fail
 go_returns
 exact ⟨rfl, bZ.o⟩
theorem sN (p : De) (w : World) :
  Calls Tryz.prog 44 #[.agg (p.vals).toArray] w fun e w' => e = .returned p.tid.val /\ Below w.heap.size w w' := by
 have hb1 := av w (.cells #[iv p.tid.node, iv p.tid.epoch, iv p.tid.seq, .bool p.yes] 79); have hb2 := hb1.alloc hb1.size (.cells #[iv p.tid.node, iv p.tid.epoch, iv p.tid.seq] 47); have HB := ak hb2; clear hb1 hb2; unfold De.vals cT.val
 go_enter Tryz.func44, Tryz.ntmps44
 go_wp2_with fail
 go_returns
 exact ⟨rfl, HB.o⟩
def yM (p : De) (u : cT) : Nat -> Value -> World -> Prop := N.tb [.inl (.func (.func 44) #[] #[]), .inl (.agg #[.int .i64 p.tid.node, .int .i64 p.tid.epoch, .int .i64 p.tid.seq, .bool p.yes]), .inl (.agg #[.int .i64 p.tid.node, .int .i64 p.tid.epoch, .int .i64 p.tid.seq]), .inl (.agg #[.int .i64 u.node, .int .i64 u.epoch, .int .i64 u.seq]), .inl (.bool (decide (p.tid = u))), .inl (.bool (decide (p.tid = u)))]
theorem AO (p : De) (pf pt : Nat) (u : cT) (w : World) (hf : w.cell? ⟨pf, 0, none⟩ = some (.func (.func 44) #[] #[])) (hu : Cells w pt 47 [iv u.node, iv u.epoch, iv u.seq]) :
  Calls Tryz.prog 78 #[.agg (p.vals).toArray, (au pf), (au pt)] w fun e w' => e = .returned (.bool (decide (p.tid = u))) /\ Below w.heap.size w w' := by
 have HN := ak (fun wi => sN p wi); obtain ⟨wb, hwb⟩ := aj (w.alloc (.cells #[iv p.tid.node, iv p.tid.epoch, iv p.tid.seq, .bool p.yes] 79)); have hb : Below w.heap.size w wb := by rw [hwb]; exact av _ _
 have HF := ak (fun wi (h : Below wb.heap.size wb wi) => (h.cell (aH ((hb.cell (aH hf)).trans hf))).trans ((hb.cell (aH hf)).trans hf)); have HU := ak (sK (hu.later hb)); have HX := ak (fun wi (h : Below wb.heap.size wb wi) => (show Cells wb w.heap.size 79 [iv p.tid.node, iv p.tid.epoch, iv p.tid.seq, .bool p.yes] by rw [hwb]; exact aB _ _ _ _ rfl).later h)
 have HB := ak hb; unfold De.vals at HN ⊢; clear hf hu hb
 go_enter Tryz.func78, Tryz.ntmps78
 go_wp2_with fail
 rw [<- hwb]; refine N.rb 5 [5] (yM p u) wb (fun V => [(some 5, V 0), (some 6, V 1), (some 7, V 2), (some 8, V 3), (some 9, V 4), (some 4, V 5)]) ?_ ?_
 ·intro i o ho
  have hi : i < 6 := (Array.getElem?_eq_some_iff.1 ho).1; rcases i with _ | _ | _ | _ | _ | _ | i
  rotate_right
  ·omega
  all_goals obtain rfl := Option.some.inj ho
  all_goals intro ρ wi hE hI hs hd
  all_goals try dsimp only at hI
  ·have e1 : ρ (.tmp 1) = (au pf) := hs 1; have x0 := HF.o wi hI; exact N.gw hI
  ·have e3 : ρ (.tmp 3) = (au w.heap.size) := hs 3; have hcx := HX.o wi hI; obtain ⟨z0, z1, z2, z3⟩ := hcx.q4; exact N.gw hI
  ·obtain ⟨_, rfl, e5⟩ := hd 0 5; obtain ⟨_, rfl, e6⟩ := hd 1 6
   refine N.Gives.call (f := 44) (args := #[.agg #[iv p.tid.node, iv p.tid.epoch, iv p.tid.seq, .bool p.yes]]) (w' := wi) (by go_simp) ?_; refine (HN.o wi).mono ?_; rintro e w'' ⟨rfl, hbb⟩; exact ⟨_, rfl, ⟨rfl, hI.trans (hbb.mono hI.size), fun j u _ _ h => N.tz h⟩⟩
  ·have e2 : ρ (.tmp 2) = (au pt) := hs 2; have ha := HU.o wi hI; have y0 := ha.1; have y1 := ha.2.1; have y2 := ha.2.2; exact N.gw hI
  ·obtain ⟨_, rfl, e7⟩ := hd 2 7; obtain ⟨_, rfl, e8⟩ := hd 3 8
   exact N.Gives.value (v := .bool (decide (p.tid = u))) (w' := wi) (by go_simp; exact zW p.tid u (fun b => Result.ok (Next.value (Value.bool b)) wi)) (N.bA.same hI rfl)
  obtain ⟨_, rfl, e9⟩ := hd 4 9; exact N.gw hI
 intro V wa hV hI
 have Bg : V 5 = .bool (decide (p.tid = u)) := hV 5 (by decide) rfl; simp only [N.aP, List.foldl_cons, List.foldl_nil, Act.put, List.setIfInBounds_toArray, List.set_cons_succ, List.set_cons_zero, Bg]; replace hI : (fun a => Below wb.heap.size wb a) wa := hI; clear hV Bg
 go_wp2_with fail
 go_returns
 exact ⟨rfl, HB.o.trans (hI.mono HB.o.size)⟩
theorem Iz (A : Option Addr) (l : List (List Value)) (bs : List Bool) (cap : Nat) (u : cT) (w : World) (h : Sl w A 4 l) (hz : ∀ k (hk : k < l.length), l[k].length = 4) (hb : bs.length = l.length) (hl : l.length <= 1000000)
  (ht : ∀ k (hk : k < l.length) (hk' : k < bs.length), ∃ p : De, l[k] = p.vals /\ bs[k] = decide (p.tid = u)) :
  Calls Tryz.prog 43 #[.slice A l.length cap, .func (.func 44) #[] #[], u.val] w fun e w' => e = .returned (iv (dV bs)) /\ Below w.heap.size w w' := by
 obtain ⟨wb, hwb⟩ := aj ((w.alloc (.cells #[.func (.func 44) #[] #[]] 95)).alloc (.cells #[iv u.node, iv u.epoch, iv u.seq] 47)); have hb1 := av w (.cells #[.func (.func 44) #[] #[]] 95); have hb2 : Below w.heap.size w wb := by rw [hwb]; exact hb1.alloc hb1.size _
 have hf : wb.cell? ⟨w.heap.size, 0, none⟩ = some (.func (.func 44) #[] #[]) := by
  rw [hwb]; exact ((aB w 95 [.func (.func 44) #[] #[]] _ rfl).later (av _ _)).cell (j := 0) rfl
 have hu : Cells wb (w.heap.size + 1) 47 [iv u.node, iv u.epoch, iv u.seq] := by
  rw [hwb]; have h := aB (w.alloc (.cells #[.func (.func 44) #[] #[]] 95)) 47 [iv u.node, iv u.epoch, iv u.seq] _ rfl; rw [World.size_alloc] at h; exact h
 have HC := ak (Kg A l bs cap ((au w.heap.size)) ((au (w.heap.size + 1))) wb (h.later hb2) hz hb hl (fun k hk hk' w' kV => by
  obtain ⟨p, e1, e2⟩ := ht k hk hk'; rw [e1, e2]; exact AO p w.heap.size (w.heap.size + 1) u w' ((kV.cell (aH hf)).trans hf) (hu.later kV)))
 have HB := ak hb2; obtain ⟨n, hn⟩ := ah l.length; rw [hn] at HC ⊢; clear h hz hb hl ht hn hb1 hb2 hf hu; unfold cT.val
 go_enter Tryz.func43, Tryz.ntmps43
 go_wp2_with fail
 rw [<- hwb]; refine HC.o.mono ?_; rintro e w2 ⟨rfl, hb2⟩; have bZ := ak (HB.o.trans (hb2.mono HB.o.size)); clear hb2
 go_wp2_with fail
 go_returns
 exact ⟨rfl, bZ.o⟩
def dJ (s : St) (u : cT) : Int := dV (s.dec.map fun p => decide (p.tid = u))
theorem sZ (s : St) (y : Sy) (u : cT) (w : World) (h : cL w s y) (hl : s.dec.length <= 1000000) :
  Calls Tryz.prog 21 #[s.val y, u.val] w fun e w' => e = .returned (iv (dJ s u)) /\ Below w.heap.size w w' := by
 obtain ⟨wb, hwb⟩ := aj ((w.alloc (.cells #[iv s.node, iv s.nodes, iv s.cells, iv s.epoch, .slice y.P s.places.length y.p, .slice y.Q s.ay.length y.q, .slice y.D s.dec.length y.d, .slice y.C s.com.length y.c] 32)).alloc (.cells #[iv u.node, iv u.epoch, iv u.seq] 47)); have hb2 : Below w.heap.size w wb := by rw [hwb]; exact (av w _).alloc (av w _).size _
 have HC := ak (Iz y.D (s.dec.map De.vals) (s.dec.map fun p => decide (p.tid = u)) y.d u wb (h.dec.later hb2) (fun k hk => by rw [List.getElem_map]; rfl) (by rw [List.length_map, List.length_map]) (by rw [List.length_map]; exact hl) (fun k hk hk' => by
  refine ⟨s.dec[k]'(by simpa using hk), ?_, ?_⟩
  ·rw [List.getElem_map]
  rw [List.getElem_map]))
 have HB := ak hb2; have uh : Hid ((s.dec.map De.vals).length = s.dec.length) := ak (by rw [List.length_map]); rw [uh.o] at HC; unfold dJ; obtain ⟨F, hF⟩ : ∃ F, dV (s.dec.map fun p => decide (p.tid = u)) = F := ⟨_, rfl⟩; rw [hF] at HC ⊢; clear h hl hb2 hF; unfold St.val; unfold cT.val at HC ⊢
 go_enter Tryz.func21, Tryz.ntmps21
 go_wp2_with fail
 rw [<- hwb]; refine HC.o.mono ?_; rintro e w2 ⟨rfl, hb2⟩; have bZ := ak (HB.o.trans (hb2.mono HB.o.size)); clear hb2
 go_wp2_with fail
 go_returns
 exact ⟨rfl, bZ.o⟩
theorem Ho (p : Co) (y : Lay) (w : World) :
  Calls Tryz.prog 46 #[.agg (p.vals y).toArray] w fun e w' => e = .returned p.tid.val /\ Below w.heap.size w w' := by
 have hb1 := av w (.cells #[iv p.tid.node, iv p.tid.epoch, iv p.tid.seq, .slice y.A p.items.length y.c, .slice y.B p.nodes.length y.d, .bool p.over] 80); have hb2 := hb1.alloc hb1.size (.cells #[iv p.tid.node, iv p.tid.epoch, iv p.tid.seq] 47); have HB := ak hb2; clear hb1 hb2; unfold Co.vals cT.val
 go_enter Tryz.func46, Tryz.ntmps46
 go_wp2_with fail
 go_returns
 exact ⟨rfl, HB.o⟩
def yN (p : Co) (y : Lay) (u : cT) : Nat -> Value -> World -> Prop := N.tb [.inl (.func (.func 46) #[] #[]), .inl (.agg #[.int .i64 p.tid.node, .int .i64 p.tid.epoch, .int .i64 p.tid.seq, .slice y.A p.items.length y.c, .slice y.B p.nodes.length y.d, .bool p.over]), .inl (.agg #[.int .i64 p.tid.node, .int .i64 p.tid.epoch, .int .i64 p.tid.seq]), .inl (.agg #[.int .i64 u.node, .int .i64 u.epoch, .int .i64 u.seq]), .inl (.bool (decide (p.tid = u))), .inl (.bool (decide (p.tid = u)))]
theorem AP (p : Co) (y : Lay) (pf pt : Nat) (u : cT) (w : World) (hf : w.cell? ⟨pf, 0, none⟩ = some (.func (.func 46) #[] #[])) (hu : Cells w pt 47 [iv u.node, iv u.epoch, iv u.seq]) :
  Calls Tryz.prog 80 #[.agg (p.vals y).toArray, (au pf), (au pt)] w fun e w' => e = .returned (.bool (decide (p.tid = u))) /\ Below w.heap.size w w' := by
 have HN := ak (fun wi => Ho p y wi); obtain ⟨wb, hwb⟩ := aj (w.alloc (.cells #[iv p.tid.node, iv p.tid.epoch, iv p.tid.seq, .slice y.A p.items.length y.c, .slice y.B p.nodes.length y.d, .bool p.over] 80)); have hb : Below w.heap.size w wb := by rw [hwb]; exact av _ _
 have HF := ak (fun wi (h : Below wb.heap.size wb wi) => (h.cell (aH ((hb.cell (aH hf)).trans hf))).trans ((hb.cell (aH hf)).trans hf)); have HU := ak (sK (hu.later hb)); have HX := ak (fun wi (h : Below wb.heap.size wb wi) => (show Cells wb w.heap.size 80 [iv p.tid.node, iv p.tid.epoch, iv p.tid.seq, .slice y.A p.items.length y.c, .slice y.B p.nodes.length y.d, .bool p.over] by rw [hwb]; exact aB _ _ _ _ rfl).later h)
 have HB := ak hb; unfold Co.vals at HN ⊢; clear hf hu hb
 go_enter Tryz.func80, Tryz.ntmps80
 go_wp2_with fail
 rw [<- hwb]; refine N.rb 5 [5] (yN p y u) wb (fun V => [(some 5, V 0), (some 6, V 1), (some 7, V 2), (some 8, V 3), (some 9, V 4), (some 4, V 5)]) ?_ ?_
 ·intro i o ho
  have hi : i < 6 := (Array.getElem?_eq_some_iff.1 ho).1; rcases i with _ | _ | _ | _ | _ | _ | i
  rotate_right
  ·omega
  all_goals obtain rfl := Option.some.inj ho
  all_goals intro ρ wi hE hI hs hd
  all_goals try dsimp only at hI
  ·have e1 : ρ (.tmp 1) = (au pf) := hs 1; have x0 := HF.o wi hI; exact N.gw hI
  ·have e3 : ρ (.tmp 3) = (au w.heap.size) := hs 3; have hcx := HX.o wi hI; obtain ⟨z0, z1, z2, z3, z4, z5⟩ := hcx.q6; exact N.gw hI
  ·obtain ⟨_, rfl, e5⟩ := hd 0 5; obtain ⟨_, rfl, e6⟩ := hd 1 6
   refine N.Gives.call (f := 46) (args := #[.agg #[iv p.tid.node, iv p.tid.epoch, iv p.tid.seq, .slice y.A p.items.length y.c, .slice y.B p.nodes.length y.d, .bool p.over]]) (w' := wi) (by go_simp) ?_; refine (HN.o wi).mono ?_; rintro e w'' ⟨rfl, hbb⟩; exact ⟨_, rfl, ⟨rfl, hI.trans (hbb.mono hI.size), fun j u _ _ h => N.tz h⟩⟩
  ·have e2 : ρ (.tmp 2) = (au pt) := hs 2; have ha := HU.o wi hI; have y0 := ha.1; have y1 := ha.2.1; have y2 := ha.2.2; exact N.gw hI
  ·obtain ⟨_, rfl, e7⟩ := hd 2 7; obtain ⟨_, rfl, e8⟩ := hd 3 8
   exact N.Gives.value (v := .bool (decide (p.tid = u))) (w' := wi) (by go_simp; exact zW p.tid u (fun b => Result.ok (Next.value (Value.bool b)) wi)) (N.bA.same hI rfl)
  obtain ⟨_, rfl, e9⟩ := hd 4 9; exact N.gw hI
 intro V wa hV hI
 have Bg : V 5 = .bool (decide (p.tid = u)) := hV 5 (by decide) rfl; simp only [N.aP, List.foldl_cons, List.foldl_nil, Act.put, List.setIfInBounds_toArray, List.set_cons_succ, List.set_cons_zero, Bg]; replace hI : (fun a => Below wb.heap.size wb a) wa := hI; clear hV Bg
 go_wp2_with fail
 go_returns
 exact ⟨rfl, HB.o.trans (hI.mono HB.o.size)⟩
theorem IB (A : Option Addr) (l : List (List Value)) (bs : List Bool) (cap : Nat) (u : cT) (w : World) (h : Sl w A 6 l) (hz : ∀ k (hk : k < l.length), l[k].length = 6) (hb : bs.length = l.length) (hl : l.length <= 1000000)
  (ht : ∀ k (hk : k < l.length) (hk' : k < bs.length), ∃ (p : Co) (y : Lay), l[k] = p.vals y /\ bs[k] = decide (p.tid = u)) :
  Calls Tryz.prog 45 #[.slice A l.length cap, .func (.func 46) #[] #[], u.val] w fun e w' => e = .returned (iv (dV bs)) /\ Below w.heap.size w w' := by
 obtain ⟨wb, hwb⟩ := aj ((w.alloc (.cells #[.func (.func 46) #[] #[]] 97)).alloc (.cells #[iv u.node, iv u.epoch, iv u.seq] 47)); have hb1 := av w (.cells #[.func (.func 46) #[] #[]] 97); have hb2 : Below w.heap.size w wb := by rw [hwb]; exact hb1.alloc hb1.size _
 have hf : wb.cell? ⟨w.heap.size, 0, none⟩ = some (.func (.func 46) #[] #[]) := by
  rw [hwb]; exact ((aB w 97 [.func (.func 46) #[] #[]] _ rfl).later (av _ _)).cell (j := 0) rfl
 have hu : Cells wb (w.heap.size + 1) 47 [iv u.node, iv u.epoch, iv u.seq] := by
  rw [hwb]; have h := aB (w.alloc (.cells #[.func (.func 46) #[] #[]] 97)) 47 [iv u.node, iv u.epoch, iv u.seq] _ rfl; rw [World.size_alloc] at h; exact h
 have HC := ak (Kh A l bs cap ((au w.heap.size)) ((au (w.heap.size + 1))) wb (h.later hb2) hz hb hl (fun k hk hk' w' kV => by
  obtain ⟨p, y, e1, e2⟩ := ht k hk hk'; rw [e1, e2]; exact AP p y w.heap.size (w.heap.size + 1) u w' ((kV.cell (aH hf)).trans hf) (hu.later kV)))
 have HB := ak hb2; obtain ⟨n, hn⟩ := ah l.length; rw [hn] at HC ⊢; clear h hz hb hl ht hn hb1 hb2 hf hu; unfold cT.val
 go_enter Tryz.func45, Tryz.ntmps45
 go_wp2_with fail
 rw [<- hwb]; refine HC.o.mono ?_; rintro e w2 ⟨rfl, hb2⟩; have bZ := ak (HB.o.trans (hb2.mono HB.o.size)); clear hb2
 go_wp2_with fail
 go_returns
 exact ⟨rfl, bZ.o⟩
def cE (s : St) (u : cT) : Int := dV (s.com.map fun p => decide (p.tid = u))
theorem tj (s : St) (y : Sy) (u : cT) (w : World) (h : cL w s y) (hl : s.com.length <= 1000000) :
  Calls Tryz.prog 23 #[s.val y, u.val] w fun e w' => e = .returned (iv (cE s u)) /\ Below w.heap.size w w' := by
 obtain ⟨wb, hwb⟩ := aj ((w.alloc (.cells #[iv s.node, iv s.nodes, iv s.cells, iv s.epoch, .slice y.P s.places.length y.p, .slice y.Q s.ay.length y.q, .slice y.D s.dec.length y.d, .slice y.C s.com.length y.c] 32)).alloc (.cells #[iv u.node, iv u.epoch, iv u.seq] 47)); have hb2 : Below w.heap.size w wb := by rw [hwb]; exact (av w _).alloc (av w _).size _
 have HC := ak (IB y.C (List.zipWith Co.vals s.com y.cs) (s.com.map fun p => decide (p.tid = u)) y.c u wb (h.com.later hb2) (fun k hk => by rw [List.getElem_zipWith]; rfl) (by rw [List.length_map, List.length_zipWith, h.cs]; omega) (by rw [List.length_zipWith, h.cs]; omega) (fun k hk hk' => by
  rw [List.length_zipWith] at hk; refine ⟨s.com[k]'(by omega), y.cs[k]'(by omega), ?_, ?_⟩
  ·rw [List.getElem_zipWith]
  rw [List.getElem_map]))
 have HB := ak hb2; have uh : Hid ((List.zipWith Co.vals s.com y.cs).length = s.com.length) := ak (by rw [List.length_zipWith, h.cs]; omega); rw [uh.o] at HC; unfold cE; obtain ⟨F, hF⟩ : ∃ F, dV (s.com.map fun p => decide (p.tid = u)) = F := ⟨_, rfl⟩; rw [hF] at HC ⊢; clear h hl hb2 hF; unfold St.val; unfold cT.val at HC ⊢
 go_enter Tryz.func23, Tryz.ntmps23
 go_wp2_with fail
 rw [<- hwb]; refine HC.o.mono ?_; rintro e w2 ⟨rfl, hb2⟩; have bZ := ak (HB.o.trans (hb2.mono HB.o.size)); clear hb2
 go_wp2_with fail
 go_returns
 exact ⟨rfl, bZ.o⟩
