/-
  Layer 8: what is asked of a state: is a cell owned, locked, are all cells there, is a node above those that there are, is a name known?
 Layer 8: can an item be prepared? Is a number among some?
  Conditions: none.
-/
import Derived.Test.YtalhbblmnahcdaaGreatPa20
import Derived.Test.YtalhbblmnahcdaaGreatPa11
import Derived.Test.YtalhbblmnahcdaaGreatPa22
import Derived.BigQuiet
import Derived.WalkSmall
namespace Go.Proofs.YtalhbblmnahcdaaGreat.Led
set_option maxRecDepth 100000
open Go.RowKit Go.Deep Go.Proofs.YtalhbblmnahcdaaGreat.Mem Go.Proofs.YtalhbblmnahcdaaGreat.Item Go.Proofs.YtalhbblmnahcdaaGreat.Rec
/-- A state's block. -/
def St.obj (s : St) (y : Sy) : Obj := .cells #[.int .i64 s.node, .int .i64 s.nodes, .int .i64 s.cells, .int .i64 s.epoch, .slice y.P s.places.length y.p, .slice y.Q s.prep.length y.q, .slice y.D s.dec.length y.d, .slice y.C s.com.length y.c] 32
theorem obj_cells (s : St) (y : Sy) (w : World) : Cells (w.alloc (s.obj y)) w.heap.size 32 [.int .i64 s.node, .int .i64 s.nodes, .int .i64 s.cells, .int .i64 s.epoch, .slice y.P s.places.length y.p, .slice y.Q s.prep.length y.q, .slice y.D s.dec.length y.d, .slice y.C s.com.length y.c] := cells_new w _ _ _ rfl
theorem place_cells {w : World} {A : Option Addr} {l : List Pl} (h : Sl w A 5 (l.map Pl.vals)) {k : Nat} (hk : k < l.length) : ∃ b off, A = some ⟨b, off, none⟩ ∧ w.cell? ⟨b, off + k * 5, none⟩ = some (.int .i64 l[k].status) ∧ w.cell? ⟨b, off + k * 5 + 1, none⟩ = some (.int .i64 l[k].hop) ∧ w.cell? ⟨b, off + k * 5 + 2, none⟩ = some (.int .i64 l[k].to) ∧ w.cell? ⟨b, off + k * 5 + 3, none⟩ = some (.int .i64 l[k].version) ∧ w.cell? ⟨b, off + k * 5 + 4, none⟩ = some (.int .i64 l[k].value) := by
 obtain ⟨b, off, e, hr⟩ := h k (by rw [List.length_map]; exact hk)
 rw [List.getElem_map] at hr
 exact ⟨b, off, e, hr 0 _ rfl, hr 1 _ rfl, hr 2 _ rfl, hr 3 _ rfl, hr 4 _ rfl⟩
theorem plAt_nat (s : St) {k : Nat} (hk : k < s.places.length) : plAt s (k : Int) = s.places[k] := by
 unfold plAt
 rw [Int.toNat_natCast, List.getElem?_eq_getElem hk]
 rfl
set_option maxHeartbeats 400000 in
theorem Owns_any (s : St) (y : Sy) (c : Int) (w : World) (h : Sees w s y) :
  Calls Tryz.prog 15 #[s.val y, .int .i64 c] w fun e w' => e = .returned (.bool (owns s c)) ∧ Below w.heap.size w w' := by
 have hb := below_alloc w (s.obj y)
 have HX := Lib.hid (obj_cells s y w)
 have HC := Lib.hid (has_any s y c (w.alloc (s.obj y)))
 have HB := Lib.hid hb
 unfold owns
 cases hh : hasC s c with
 | false =>
  rw [hh] at HC
  rw [Bool.false_and]
  clear h hb hh
  unfold St.val at HC ⊢
  go_enter Tryz.func15, Tryz.ntmps15
  go_wp2_with (refine wpList_load_cells rfl 32 _ rfl w.heap.size _ rfl rfl HX.out Tryz.underlying32 rfl (by kernel_rfl) ?_)
  refine HC.out.mono ?_
  rintro e w2 ⟨rfl, hb2⟩
  have HB2 := Lib.hid (HB.out.trans (hb2.mono HB.out.size))
  clear hb2
  go_wp2_with fail
  go_returns
  exact ⟨rfl, HB2.out⟩
 | true =>
  rw [hh] at HC
  obtain ⟨h0, h1⟩ := (hasC_iff s c).1 hh
  obtain ⟨k, rfl⟩ := Int.eq_ofNat_of_zero_le h0
  have hk : k < s.places.length := by omega
  obtain ⟨b, off, hA, hp⟩ := place_cells h.places hk
  rw [plAt_nat s hk, Bool.true_and]
  have HP := Lib.hid hp.1
  have HA := Lib.hid hA
  clear h hb hh h0 h1 hp hA
  unfold St.val at HC ⊢
  go_enter Tryz.func15, Tryz.ntmps15
  go_wp2_with (refine wpList_load_cells rfl 32 _ rfl w.heap.size _ rfl rfl HX.out Tryz.underlying32 rfl (by kernel_rfl) ?_)
  refine HC.out.mono ?_
  rintro e w2 ⟨rfl, hb2⟩
  have HB2 := Lib.hid (HB.out.trans (hb2.mono HB.out.size))
  have c4 := (HX.out.later hb2).cell (j := 4) rfl
  rw [HA.out] at c4
  have p0 := (HB2.out.cell (block_of_cell HP.out)).trans HP.out
  clear hb2
  go_wp2_with fail
  go_returns
  exact ⟨rfl, HB2.out⟩
/-- Is a cell locked? -/
def lockP (c : Int) (p : Pr) : Bool := decide (0 ≤ findI p.items c)
def locked (s : St) (c : Int) : Bool := hasC s c && s.prep.any (lockP c)
theorem lockEq (p : Pr) (y : Lay) (g : Nat) (c : Int) (w : World) (ht : Two w p.items p.nodes y) (hl : p.items.length ≤ 1000000) (hc : w.cell? ⟨g, 0, none⟩ = some (.int .i64 c)) :
  Calls Tryz.prog 44 #[.agg (p.vals y).toArray, .pointer (some ⟨g, 0, none⟩)] w fun e w' => e = .returned (.bool (lockP c p)) ∧ Below w.heap.size w w' := by
 have hb := below_alloc w (.cells #[.int .i64 p.tid.node, .int .i64 p.tid.epoch, .int .i64 p.tid.seq, .slice y.A p.items.length y.c, .slice y.B p.nodes.length y.d] 86)
 have HC := Lib.hid (find_any y.A p.items y.c c _ (ht.1.later hb) hl)
 have hc2 := (hb.cell (block_of_cell hc)).trans hc
 have HB := Lib.hid hb
 unfold lockP Pr.vals
 clear ht hb hl
 go_enter Tryz.func44, Tryz.ntmps44
 go_wp2_with fail
 refine HC.out.mono ?_
 rintro e w2 ⟨rfl, hb2⟩
 have HB2 := Lib.hid (HB.out.trans (hb2.mono HB.out.size))
 clear hb2
 go_wp2_with fail
 go_returns
 exact ⟨rfl, HB2.out⟩
set_option maxHeartbeats 400000 in
theorem Locked_any (s : St) (y : Sy) (c : Int) (w : World) (h : Sees w s y) (hl : s.prep.length ≤ 1000000 ∧ ∀ p ∈ s.prep, p.items.length ≤ 1000000) :
  Calls Tryz.prog 17 #[s.val y, .int .i64 c] w fun e w' => e = .returned (.bool (locked s c)) ∧ Below w.heap.size w w' := by
 have hb1 := below_alloc w (s.obj y)
 have hb2 := hb1.alloc hb1.size (.cells #[.int .i64 c] 3)
 have HX := Lib.hid ((obj_cells s y w).later (below_alloc _ (.cells #[.int .i64 c] 3)))
 have hci : ((w.alloc (s.obj y)).alloc (.cells #[.int .i64 c] 3)).cell? ⟨w.heap.size + 1, 0, none⟩ = some (.int .i64 c) := by
  have hq := (cells_new (w.alloc (s.obj y)) 3 [.int .i64 c] _ rfl).cell (j := 0) rfl
  rw [World.size_alloc] at hq
  exact hq
 have HCI := Lib.hid hci
 have HC := Lib.hid (has_any s y c ((w.alloc (s.obj y)).alloc (.cells #[.int .i64 c] 3)))
 have HL : Hid ((List.zipWith Pr.vals s.prep y.ps).length = s.prep.length) := Lib.hid (by rw [List.length_zipWith, h.ps]; omega)
 have HCon := Lib.hid (fun w2 (hw : Below w.heap.size w w2) (hcw : w2.cell? ⟨w.heap.size + 1, 0, none⟩ = some (.int .i64 c)) => con_lock y.Q (List.zipWith Pr.vals s.prep y.ps) (s.prep.map (lockP c)) y.q (.pointer (some ⟨w.heap.size + 1, 0, none⟩)) w2 (h.prep.later hw) (fun k hk => by rw [List.getElem_zipWith]; rfl) (by rw [List.length_map, HL.out]) (by rw [HL.out]; exact hl.1) (fun k hk hk' w' hbw => by
  rw [HL.out] at hk
  have hk2 : k < y.ps.length := by rw [h.ps]; exact hk
  rw [List.getElem_zipWith, List.getElem_map]
  exact lockEq s.prep[k] y.ps[k] (w.heap.size + 1) c w' (((h.pin k hk hk2).later hw).later hbw) (hl.2 _ (List.getElem_mem hk)) ((hbw.cell (block_of_cell hcw)).trans hcw)))
 have HAN : Hid ((s.prep.map (lockP c)).any (fun b => b) = s.prep.any (lockP c)) := Lib.hid (by rw [List.any_map]; rfl)
 rw [HL.out, HAN.out] at HCon
 have HB := Lib.hid hb2
 unfold locked
 cases hh : hasC s c with
 | false =>
  rw [hh] at HC
  rw [Bool.false_and]
  clear h hb1 hb2 hh hl hci HCon
  unfold St.val at HC ⊢
  go_enter Tryz.func17, Tryz.ntmps17
  go_wp2_with (refine wpList_load_cells rfl 32 _ rfl w.heap.size _ rfl rfl HX.out Tryz.underlying32 rfl (by kernel_rfl) ?_)
  refine HC.out.mono ?_
  rintro e w2 ⟨rfl, hb2⟩
  have HB2 := Lib.hid (HB.out.trans (hb2.mono HB.out.size))
  clear hb2
  go_wp2_with fail
  go_returns
  exact ⟨rfl, HB2.out⟩
 | true =>
  rw [hh] at HC
  rw [Bool.true_and]
  clear h hb1 hb2 hh hl hci
  unfold St.val at HC ⊢
  go_enter Tryz.func17, Tryz.ntmps17
  go_wp2_with (refine wpList_load_cells rfl 32 _ rfl w.heap.size _ rfl rfl HX.out Tryz.underlying32 rfl (by kernel_rfl) ?_)
  refine HC.out.mono ?_
  rintro e w2 ⟨rfl, hb2⟩
  have HB2 := Lib.hid (HB.out.trans (hb2.mono HB.out.size))
  have c5 := (HX.out.later hb2).cell (j := 5) rfl
  have HC3 := Lib.hid (HCon.out w2 HB2.out ((hb2.cell (block_of_cell HCI.out)).trans HCI.out))
  clear hb2
  go_wp2_with fail
  refine HC3.out.mono ?_
  rintro e w3 ⟨rfl, hb3⟩
  have HB3 := Lib.hid (HB2.out.trans (hb3.mono HB2.out.size))
  clear hb3
  go_wp2_with fail
  go_returns
  exact ⟨rfl, HB3.out⟩
/-- Is one of some nodes above those that there are? -/
def above (s : St) (l : List Int) : Bool := l.any fun n => decide (s.nodes < n)
theorem aboveEq (n m : Int) (g : Nat) (w : World) (hc : w.cell? ⟨g, 1, none⟩ = some (.int .i64 m)) :
  Calls Tryz.prog 110 #[.int .i64 n, .pointer (some ⟨g, 0, none⟩)] w fun e w' => e = .returned (.bool (decide (m < n))) ∧ Below w.heap.size w w' := by
 go_enter Tryz.func110, Tryz.ntmps110
 go_wp2_with fail
 go_returns
 exact ⟨rfl, Below.refl _ _⟩
theorem above_any (s : St) (y : Sy) (A : Option Addr) (l : List Int) (cap : Nat) (w : World) (h : Nums w A l) (hl : l.length ≤ 1000000) :
  Calls Tryz.prog 95 #[s.val y, .slice A l.length cap] w fun e w' => e = .returned (.bool (above s l)) ∧ Below w.heap.size w w' := by
 have hb := below_alloc w (s.obj y)
 have hx := obj_cells s y w
 have HC := Lib.hid (con_above A l (l.map fun n => decide (s.nodes < n)) cap (.pointer (some ⟨w.heap.size, 0, none⟩)) _ (h.later hb) (by rw [List.length_map]) hl (fun k hk hk' w' hbw => by
  rw [List.getElem_map]
  exact aboveEq l[k] s.nodes w.heap.size w' ((hx.later hbw).cell (j := 1) rfl)))
 have HAN : Hid ((l.map fun n => decide (s.nodes < n)).any (fun b => b) = above s l) := Lib.hid (by rw [List.any_map]; rfl)
 rw [HAN.out] at HC
 have HB := Lib.hid hb
 obtain ⟨n, hn⟩ : ∃ n, l.length = n := ⟨_, rfl⟩
 rw [hn] at HC ⊢
 clear h hb hl hx hn
 unfold St.val
 go_enter Tryz.func95, Tryz.ntmps95
 go_wp2_with fail
 refine HC.out.mono ?_
 rintro e w2 ⟨rfl, hb2⟩
 have HB2 := Lib.hid (HB.out.trans (hb2.mono HB.out.size))
 clear hb2
 go_wp2_with fail
 go_returns
 exact ⟨rfl, HB2.out⟩
/-- A cell's home. -/
def home (c n : Int) : Int := if n < 1 ∨ c < 0 then 0 else c % n + 1
theorem Home_any (c n : Int) (w : World) (hn : n ≤ 1000000000) : Calls Tryz.prog 19 #[.int .i64 c, .int .i64 n] w fun e w' => e = .returned (.int .i64 (home c n)) ∧ w = w' := by
 unfold home
 by_cases h1 : n < 1
 ·rw [if_pos (Or.inl h1)]
  go_enter Tryz.func19, Tryz.ntmps19
  go_wp2_with fail
  go_returns
  exact ⟨rfl, rfl⟩
 ·by_cases h2 : c < 0
  ·rw [if_pos (Or.inr h2)]
   go_enter Tryz.func19, Tryz.ntmps19
   go_wp2_with fail
   go_returns
   exact ⟨rfl, rfl⟩
  ·rw [if_neg (by omega)]
   have h3 : 0 ≤ c % n := Int.emod_nonneg _ (by omega)
   have h4 : c % n < n := Int.emod_lt_of_pos _ (by omega)
   go_enter Tryz.func19, Tryz.ntmps19
   go_wp2_with fail
   go_returns
   exact ⟨rfl, rfl⟩
/-- Is a name known? -/
def known (s : St) (u : Tid) : Bool := decide (0 ≤ at_prep s u) || decide (0 ≤ at_dec s u)
set_option maxHeartbeats 400000 in
theorem known_any (s : St) (y : Sy) (u : Tid) (w : World) (h : Sees w s y) (h1 : s.prep.length ≤ 1000000) (h2 : s.dec.length ≤ 1000000) :
  Calls Tryz.prog 96 #[s.val y, u.val] w fun e w' => e = .returned (.bool (known s u)) ∧ Below w.heap.size w w' := by
 have hb1 := below_alloc w (s.obj y)
 have hb2 := hb1.alloc hb1.size (.cells #[.int .i64 u.node, .int .i64 u.epoch, .int .i64 u.seq] 47)
 have HX := Lib.hid ((obj_cells s y w).later (below_alloc _ (.cells #[.int .i64 u.node, .int .i64 u.epoch, .int .i64 u.seq] 47)))
 have hu := cells_new (w.alloc (s.obj y)) 47 [.int .i64 u.node, .int .i64 u.epoch, .int .i64 u.seq] _ rfl
 rw [World.size_alloc] at hu
 have HU := Lib.hid hu
 have HC := Lib.hid (Find_prep s y u _ (h.later hb2) h1)
 have HV := Lib.hid h
 have HD := Lib.hid (fun w2 (hw : Below w.heap.size w w2) => Find_dec s y u w2 (HV.out.later hw) h2)
 have HB := Lib.hid hb2
 unfold known
 obtain ⟨F1, hF1⟩ : ∃ F, at_prep s u = F := ⟨_, rfl⟩
 obtain ⟨F2, hF2⟩ : ∃ F, at_dec s u = F := ⟨_, rfl⟩
 rw [hF1] at HC ⊢
 rw [hF2] at HD ⊢
 clear hb1 hb2 h h1 h2 hu hF1 hF2
 unfold St.val Tid.val at HC HD ⊢
 by_cases h0 : 0 ≤ F1
 ·rw [decide_eq_true h0, Bool.true_or]
  go_enter Tryz.func96, Tryz.ntmps96
  go_wp2_with (refine wpList_load_cells rfl 32 _ rfl w.heap.size _ rfl rfl HX.out Tryz.underlying32 rfl (by kernel_rfl) ?_)
  refine HC.out.mono ?_
  rintro e w2 ⟨rfl, hb2⟩
  have HB2 := Lib.hid (HB.out.trans (hb2.mono HB.out.size))
  clear hb2
  go_wp2_with fail
  go_returns
  exact ⟨rfl, HB2.out⟩
 ·have HN0 := Lib.hid h0
  rw [decide_eq_false h0, Bool.false_or]
  go_enter Tryz.func96, Tryz.ntmps96
  go_wp2_with (refine wpList_load_cells rfl 32 _ rfl w.heap.size _ rfl rfl HX.out Tryz.underlying32 rfl (by kernel_rfl) ?_)
  refine HC.out.mono ?_
  rintro e w2 ⟨rfl, hb2⟩
  have HB2 := Lib.hid (HB.out.trans (hb2.mono HB.out.size))
  have HX2 := Lib.hid (HX.out.later hb2)
  have hu2 := HU.out.later hb2
  have u0 := hu2.cell (j := 0) rfl
  have u1 := hu2.cell (j := 1) rfl
  have u2 := hu2.cell (j := 2) rfl
  have HD2 := Lib.hid (HD.out w2 HB2.out)
  have hz := HX2.out
  have z0 := hz.cell (j := 0) rfl
  have z1 := hz.cell (j := 1) rfl
  have z2 := hz.cell (j := 2) rfl
  have z3 := hz.cell (j := 3) rfl
  have z4 := hz.cell (j := 4) rfl
  have z5 := hz.cell (j := 5) rfl
  have z6 := hz.cell (j := 6) rfl
  have z7 := hz.cell (j := 7) rfl
  clear hb2 hu2 hz
  go_wp2_with fail
  refine HD2.out.mono ?_
  rintro e w3 ⟨rfl, hb3⟩
  have HB3 := Lib.hid (HB2.out.trans (hb3.mono HB2.out.size))
  clear hb3
  go_wp2_with fail
  go_returns
  exact ⟨ret_val (congrArg Value.bool (by rw [decide_eq_false (Int.not_le.2 HN0.out), Bool.false_or])), HB3.out⟩
/-- Are all items' cells there? -/
def allC (s : St) (l : List It) : Bool := l.all fun x => hasC s x.cell
def ledAll (s : St) (y : Sy) (x : It) (b g : Nat) : Nat → Value → World → Prop
 | 0, v, _ => v = .pointer (some ⟨b, 0, none⟩)
 | 1, v, _ => v = .pointer (some ⟨b, 0, none⟩)
 | 2, v, _ => v = s.val y
 | 3, v, _ => v = .pointer (some ⟨g, 0, none⟩)
 | 4, v, _ => v = .int .i64 x.cell
 | 5, v, _ => v = .bool (hasC s x.cell)
 | 6, v, _ => v = .bool (!hasC s x.cell)
 | 7, v, _ => v = .bool (!hasC s x.cell)
 | _, _, _ => True
theorem ledAll_later {s : St} {y : Sy} {x : It} {b g : Nat} {j : Nat} {v : Value} {w w' : World} (_hb : Below w.heap.size w w') (h : ledAll s y x b g j v w) : ledAll s y x b g j v w' := by
 match j, h with
 | 0, h | 1, h | 2, h | 3, h | 4, h | 5, h | 6, h | 7, h => exact h
 | _ + 8, _ => exact trivial
theorem hasEq (s : St) (y : Sy) (x : It) (b pp : Nat) (w : World) (hs : Cells w b 32 (s.vals y)) (hp : w.cell? ⟨pp, 0, none⟩ = some (.pointer (some ⟨b, 0, none⟩))) :
  Calls Tryz.prog 112 #[x.val, .pointer (some ⟨pp, 0, none⟩)] w fun e w' => e = .returned (.bool (!hasC s x.cell)) ∧ Below w.heap.size w w' := by
 obtain ⟨wb, hwb⟩ : ∃ v, v = w.alloc (.cells #[.int .i64 x.cell, .int .i64 x.version, .int .i64 x.value, .bool x.write, .int .i64 x.new] 72) := ⟨_, rfl⟩
 have hb : Below w.heap.size w wb := by rw [hwb]; exact below_alloc _ _
 have HP := Lib.hid (fun wi (h : Below wb.heap.size wb wi) => (h.cell (block_of_cell ((hb.cell (block_of_cell hp)).trans hp))).trans ((hb.cell (block_of_cell hp)).trans hp))
 have HS := Lib.hid (fun wi (h : Below wb.heap.size wb wi) => (hs.later hb).later h)
 have HX := Lib.hid (fun wi (h : Below wb.heap.size wb wi) => ((show Cells wb w.heap.size 72 x.vals by rw [hwb]; exact cells_new _ _ _ _ rfl).later h).cell (j := 0) rfl)
 have HB := Lib.hid hb
 unfold It.val
 clear hs hp hb
 go_enter Tryz.func112, Tryz.ntmps112
 go_wp2_with fail
 rw [← hwb]
 refine Reg.region_heavy (by kernel_rfl) 7 [7] (ledAll s y x b w.heap.size) (fun a => Below wb.heap.size wb a) (fun a => Below wb.heap.size wb a) (fun V => [(some 4, V 0), (some 5, V 1), (some 6, V 2), (some 7, V 3), (some 8, V 4), (some 9, V 5), (some 10, V 6), (some 3, V 7)]) (by kernel_rfl) (by kernel_rfl) (by kernel_rfl) (fun V => rfl) ?_ ?_ ?_
 ·exact (Below.refl _ _).drew
 ·intro i o ho
  have hi : i < 8 := (Array.getElem?_eq_some_iff.1 ho).1
  rcases i with _ | _ | _ | _ | _ | _ | _ | _ | i
  rotate_right
  ·omega
  all_goals obtain rfl := Option.some.inj ho
  all_goals intro ρ wi hE hI hs hd
  all_goals try dsimp only at hI
  ·have e1 : ρ (.tmp 1) = .pointer (some ⟨pp, 0, none⟩) := hs 1; have x0 := HP.out wi hI; exact Reg.gw hI
  ·obtain ⟨_, rfl, e4⟩ := hd 0 4; have x0 := HP.out wi hI; exact Reg.gw hI
  ·obtain ⟨_, rfl, e5⟩ := hd 1 5
   exact Reg.Gives.value (v := s.val y) (w' := wi) (by have hz := HS.out wi hI; unfold St.vals at hz; have z0 := hz.cell (j := 0) rfl; have z1 := hz.cell (j := 1) rfl; have z2 := hz.cell (j := 2) rfl; have z3 := hz.cell (j := 3) rfl; have z4 := hz.cell (j := 4) rfl; have z5 := hz.cell (j := 5) rfl; have z6 := hz.cell (j := 6) rfl; have z7 := hz.cell (j := 7) rfl; clear hz; unfold St.val; go_simp) (Reg.OwedH.same hI rfl)
  ·have e2 : ρ (.tmp 2) = .pointer (some ⟨w.heap.size, 0, none⟩) := hs 2; exact Reg.gw hI
  ·obtain ⟨_, rfl, e7⟩ := hd 3 7; have hx := HX.out wi hI; exact Reg.gw hI
  ·obtain ⟨_, rfl, e6⟩ := hd 2 6; obtain ⟨_, rfl, e8⟩ := hd 4 8; have hf := hE.func
   refine Reg.Gives.call (f := 42) (args := #[s.val y, .int .i64 x.cell]) (w' := wi) (by go_simp) ?_
   refine (has_any s y x.cell wi).mono ?_
   rintro e w'' ⟨rfl, hbb⟩
   exact ⟨_, rfl, ⟨rfl, hI.trans (hbb.mono hI.size), fun j u _ _ h => ledAll_later hbb h⟩⟩
  ·obtain ⟨_, rfl, e9⟩ := hd 5 9; exact Reg.gw hI
  ·obtain ⟨_, rfl, e10⟩ := hd 6 10; exact Reg.gw hI
 ·intro V wa hV hI
  have hV7 : V 7 = .bool (!hasC s x.cell) := hV 7 (by decide) rfl
  simp only [Reg.putsO, List.foldl_cons, List.foldl_nil, Act.put, List.setIfInBounds_toArray, List.set_cons_succ, List.set_cons_zero, hV7]
  replace hI : (fun a => Below wb.heap.size wb a) wa := hI
  clear hV hV7
  go_wp2_with fail
  go_returns
  exact ⟨rfl, HB.out.trans (hI.mono HB.out.size)⟩
theorem hasAll_any (s : St) (y : Sy) (A : Option Addr) (l : List It) (cap b : Nat) (w : World) (h : Items w A l) (hs : Cells w b 32 (s.vals y)) (hl : l.length ≤ 1000000) :
  Calls Tryz.prog 97 #[.pointer (some ⟨b, 0, none⟩), .slice A l.length cap] w fun e w' => e = .returned (.bool (allC s l)) ∧ Below w.heap.size w w' := by
 have hb := below_alloc w (.cells #[.pointer (some ⟨b, 0, none⟩)] 121)
 have hp := (cells_new w 121 [.pointer (some ⟨b, 0, none⟩)] _ rfl).cell (j := 0) rfl
 have HC := Lib.hid (con_all A (l.map It.vals) (l.map fun x => !hasC s x.cell) cap (.pointer (some ⟨w.heap.size, 0, none⟩)) _ (items_sl (h.later hb)) (fun k hk => by rw [List.getElem_map]; rfl) (by rw [List.length_map, List.length_map]) (by rw [List.length_map]; exact hl) (fun k hk hk' w' hbw => by
  have hk3 : k < l.length := by simpa using hk
  rw [List.getElem_map, List.getElem_map]
  exact hasEq s y l[k] b w.heap.size w' ((hs.later hb).later hbw) ((hbw.cell (block_of_cell hp)).trans hp)))
 have HAN : Hid ((!((l.map fun x => !hasC s x.cell).any (fun b => b))) = allC s l) := Lib.hid (by
  unfold allC
  rw [List.any_map, List.all_eq_not_any_not]
  rfl)
 rw [List.length_map] at HC
 have HB := Lib.hid hb
 obtain ⟨n, hn⟩ : ∃ n, l.length = n := ⟨_, rfl⟩
 rw [← HAN.out]
 obtain ⟨F, hF⟩ : ∃ F, (l.map fun x => !hasC s x.cell).any (fun b => b) = F := ⟨_, rfl⟩
 rw [hn, hF] at HC
 rw [hn, hF]
 clear h hb hl hp hn hF HAN hs
 go_enter Tryz.func97, Tryz.ntmps97
 go_wp2_with fail
 refine HC.out.mono ?_
 rintro e w2 ⟨rfl, hb2⟩
 have HB2 := Lib.hid (HB.out.trans (hb2.mono HB.out.size))
 clear hb2
 go_wp2_with fail
 go_returns
 exact ⟨rfl, HB2.out⟩
end Go.Proofs.YtalhbblmnahcdaaGreat.Led
namespace Go.Proofs.YtalhbblmnahcdaaGreat.Led
set_option maxRecDepth 100000
open Go.RowKit Go.Deep Go.Proofs.YtalhbblmnahcdaaGreat.Mem Go.Proofs.YtalhbblmnahcdaaGreat.Item Go.Proofs.YtalhbblmnahcdaaGreat.Rec
set_option maxHeartbeats 1000000 in
theorem index_int (A : Option Addr) (vs : List Int) (cap : Nat) (c : Int) (w : World) (h : Nums w A vs) (hl : vs.length ≤ 1000000) :
  Calls Tryz.prog 113 #[.slice A vs.length cap, .int .i64 c] w fun e w' => e = .returned (.int .i64 (idxB (vs.map fun x => decide (x = c)))) ∧ w = w' := by
 have HH := Lib.hid h
 obtain ⟨F, hF⟩ : ∃ F, idxB (vs.map fun x => decide (x = c)) = F := ⟨_, rfl⟩
 have HF := Lib.hid hF
 rw [hF]
 obtain ⟨n, hn⟩ : ∃ n, vs.length = n := ⟨_, rfl⟩
 have HN := Lib.hid hn
 rw [hn] at hl ⊢
 clear h hF hn
 go_enter Tryz.func113, Tryz.ntmps113
 go_wp2_with fail
 go_loop [5, 8] (fun _ i => ∃ k : Nat, k ≤ n ∧ i = .int .i64 (k : Int) ∧ Hid (∀ j (hj : j < vs.length), j < k → vs[j] ≠ c)) (fun _ i => n - (intOf i).toNat)
 case atStart => exact ⟨0, Nat.zero_le _, rfl, Lib.hid (fun j _ hj => absurd hj (by omega))⟩
 case round =>
  obtain ⟨k, hk, rfl, hd⟩ := hrel
  by_cases hlt : k < n
  ·have hlt' : k < vs.length := by have := HN.out; omega
   obtain ⟨b, off, hA, c0⟩ := HH.out k hlt'
   subst hA
   have HD2 : Hid (vs[k] ≠ c → ∀ j (hj : j < vs.length), j < k + 1 → vs[j] ≠ c) := Lib.hid (fun h0 j hj hjk => by
    by_cases e : j = k
    ·subst e; exact h0
    ·exact hd.out j hj (by omega))
   have HE : Hid (vs[k] = c → F = (k : Int)) := Lib.hid (fun h1 => by
    rw [← HF.out]
    exact idxB_at (by rw [List.length_map]; exact hlt') (fun j hj => by rw [List.getElem_map]; exact decide_eq_false (hd.out j (by omega) hj)) (by rw [List.getElem_map]; exact decide_eq_true h1))
   obtain ⟨x, hx⟩ : ∃ x, vs[k] = x := ⟨_, rfl⟩
   rw [hx] at c0 HD2 HE
   clear hx hlt'
   by_cases hxc : x = c
   ·have HE2 := Lib.hid (HE.out hxc)
    subst hxc
    go_wp2_with fail
    go_returns
    exact ⟨ret_int HE2.out.symm, rfl⟩
   ·have HDD := Lib.hid (HD2.out hxc)
    have hxc2 : ¬ c = x := fun e => hxc e.symm
    go_wp2_with fail
    go_round
    case rel => exact ⟨k + 1, by omega, by go_num, HDD⟩
    case measure => simp [intOf]; omega
  ·have HE : Hid (F = -1) := Lib.hid (by rw [← HF.out]; exact idxB_none fun j hj => by rw [List.getElem_map]; rw [List.length_map] at hj; exact decide_eq_false (hd.out j hj (by have := HN.out; omega)))
   clear hd
   go_wp2_with fail
   go_returns
   exact ⟨ret_int HE.out.symm, rfl⟩
theorem contains_int (A : Option Addr) (vs : List Int) (cap : Nat) (c : Int) (w : World) (h : Nums w A vs) (hl : vs.length ≤ 1000000) :
  Calls Tryz.prog 98 #[.slice A vs.length cap, .int .i64 c] w fun e w' => e = .returned (.bool (vs.any fun x => decide (x = c))) ∧ w = w' := by
 have HC := Lib.hid (index_int A vs cap c w h hl)
 have HB := Lib.hid (idxB_nonneg (vs.map fun x => decide (x = c)))
 have HAN : Hid ((vs.map fun x => decide (x = c)).any (fun b => b) = vs.any fun x => decide (x = c)) := Lib.hid (by rw [List.any_map]; rfl)
 rw [← HAN.out, ← HB.out]
 obtain ⟨n, hn⟩ : ∃ n, vs.length = n := ⟨_, rfl⟩
 obtain ⟨F, hF⟩ : ∃ F, idxB (vs.map fun x => decide (x = c)) = F := ⟨_, rfl⟩
 rw [hn, hF] at HC
 rw [hn, hF]
 clear h hl hn hF HB HAN
 go_enter Tryz.func98, Tryz.ntmps98
 go_wp2_with fail
 refine HC.out.mono ?_
 rintro e w2 ⟨rfl, rfl⟩
 go_wp2_with fail
 go_returns
 exact ⟨rfl, rfl⟩
/-- Why an item can't be prepared; 0: it can. -/
def lockE (s : St) (x : It) : Int := if owns s x.cell = false then 8 else if locked s x.cell = true then 12 else if (plAt s x.cell).version ≠ x.version then 13 else 0
theorem owns_has {s : St} {c : Int} (h : owns s c = true) : hasC s c = true := by
 unfold owns at h
 exact (Bool.and_eq_true _ _ ▸ h).1
def ledLk1 (s : St) (y : Sy) (x : It) (b g : Nat) : Nat → Value → World → Prop
 | 0, v, _ => v = .pointer (some ⟨b, 0, none⟩)
 | 1, v, _ => v = .pointer (some ⟨b, 0, none⟩)
 | 2, v, _ => v = s.val y
 | 3, v, _ => v = .pointer (some ⟨g, 0, none⟩)
 | 4, v, _ => v = .int .i64 x.cell
 | 5, v, _ => v = .bool (owns s x.cell)
 | 6, v, _ => v = .bool (!owns s x.cell)
 | 7, v, _ => v = .bool (!owns s x.cell)
 | _, _, _ => True
theorem ledLk1_later {s : St} {y : Sy} {x : It} {b g : Nat} {j : Nat} {v : Value} {w w' : World} (_hb : Below w.heap.size w w') (h : ledLk1 s y x b g j v w) : ledLk1 s y x b g j v w' := by
 match j, h with
 | 0, h | 1, h | 2, h | 3, h | 4, h | 5, h | 6, h | 7, h => exact h
 | _ + 8, _ => exact trivial
def ledLk2 (s : St) (y : Sy) (x : It) (b g : Nat) : Nat → Value → World → Prop
 | 0, v, _ => v = .pointer (some ⟨b, 0, none⟩)
 | 1, v, _ => v = .pointer (some ⟨b, 0, none⟩)
 | 2, v, _ => v = s.val y
 | 3, v, _ => v = .pointer (some ⟨g, 0, none⟩)
 | 4, v, _ => v = .int .i64 x.cell
 | 5, v, _ => v = .bool (locked s x.cell)
 | 6, v, _ => v = .bool (locked s x.cell)
 | _, _, _ => True
theorem ledLk2_later {s : St} {y : Sy} {x : It} {b g : Nat} {j : Nat} {v : Value} {w w' : World} (_hb : Below w.heap.size w w') (h : ledLk2 s y x b g j v w) : ledLk2 s y x b g j v w' := by
 match j, h with
 | 0, h | 1, h | 2, h | 3, h | 4, h | 5, h | 6, h => exact h
 | _ + 7, _ => exact trivial
set_option maxHeartbeats 1000000 in
theorem lockable_any (s : St) (y : Sy) (x : It) (b : Nat) (w : World) (hv : Sees w s y) (hs : Cells w b 32 (s.vals y)) (hl : s.prep.length ≤ 1000000 ∧ ∀ p ∈ s.prep, p.items.length ≤ 1000000) :
  Calls Tryz.prog 99 #[.pointer (some ⟨b, 0, none⟩), x.val] w fun e w' => e = .returned (.int .i64 (lockE s x)) ∧ Below w.heap.size w w' := by
 obtain ⟨wb, hwb⟩ : ∃ v, v = w.alloc (.cells #[.int .i64 x.cell, .int .i64 x.version, .int .i64 x.value, .bool x.write, .int .i64 x.new] 72) := ⟨_, rfl⟩
 have hb : Below w.heap.size w wb := by rw [hwb]; exact below_alloc _ _
 have hxc : Cells wb w.heap.size 72 [.int .i64 x.cell, .int .i64 x.version, .int .i64 x.value, .bool x.write, .int .i64 x.new] := by rw [hwb]; exact cells_new _ _ _ _ rfl
 have HXC := Lib.hid hxc
 have HS0 := Lib.hid (hs.later hb)
 have HS := Lib.hid (fun wi (h : Below wb.heap.size wb wi) => (hs.later hb).later h)
 have HX := Lib.hid (fun wi (h : Below wb.heap.size wb wi) => (hxc.later h).cell (j := 0) rfl)
 have HV := Lib.hid (hv.later hb)
 have HLP := Lib.hid hl
 have HB := Lib.hid hb
 have HLE : Hid (lockE s x = if owns s x.cell = false then 8 else if locked s x.cell = true then 12 else if (plAt s x.cell).version ≠ x.version then 13 else 0) := Lib.hid rfl
 obtain ⟨E, hE⟩ : ∃ E, lockE s x = E := ⟨_, rfl⟩
 rw [hE] at HLE ⊢
 unfold It.val
 clear hs hb hxc hv hl hE
 go_enter Tryz.func99, Tryz.ntmps99
 go_wp2_with fail
 rw [← hwb]
 refine Reg.region_heavy (by kernel_rfl) 7 [7] (ledLk1 s y x b w.heap.size) (fun a => Below wb.heap.size wb a) (fun a => Below wb.heap.size wb a) (fun V => [(some 6, V 0), (some 7, V 1), (some 8, V 2), (some 9, V 3), (some 10, V 4), (some 11, V 5), (some 12, V 6), (some 5, V 7)]) (by kernel_rfl) (by kernel_rfl) (by kernel_rfl) (fun V => rfl) ?_ ?_ ?_
 ·exact (Below.refl _ _).drew
 ·intro i o ho
  have hi : i < 8 := (Array.getElem?_eq_some_iff.1 ho).1
  rcases i with _ | _ | _ | _ | _ | _ | _ | _ | i
  rotate_right
  ·omega
  all_goals obtain rfl := Option.some.inj ho
  all_goals intro ρ wi hE hI hs hd
  all_goals try dsimp only at hI
  ·have e0 : ρ (.tmp 0) = .pointer (some ⟨b, 0, none⟩) := hs 0; exact Reg.gw hI
  ·obtain ⟨_, rfl, e6⟩ := hd 0 6; exact Reg.gw hI
  ·obtain ⟨_, rfl, e7⟩ := hd 1 7
   exact Reg.Gives.value (v := s.val y) (w' := wi) (by have hz := HS.out wi hI; unfold St.vals at hz; have z0 := hz.cell (j := 0) rfl; have z1 := hz.cell (j := 1) rfl; have z2 := hz.cell (j := 2) rfl; have z3 := hz.cell (j := 3) rfl; have z4 := hz.cell (j := 4) rfl; have z5 := hz.cell (j := 5) rfl; have z6 := hz.cell (j := 6) rfl; have z7 := hz.cell (j := 7) rfl; clear hz; unfold St.val; go_simp) (Reg.OwedH.same hI rfl)
  ·have e3 : ρ (.tmp 3) = .pointer (some ⟨w.heap.size, 0, none⟩) := hs 3; exact Reg.gw hI
  ·obtain ⟨_, rfl, e9⟩ := hd 3 9; have hx := HX.out wi hI; exact Reg.gw hI
  ·obtain ⟨_, rfl, e8⟩ := hd 2 8; obtain ⟨_, rfl, e10⟩ := hd 4 10; have hf := hE.func
   refine Reg.Gives.call (f := 15) (args := #[s.val y, .int .i64 x.cell]) (w' := wi) (by go_simp) ?_
   refine (Owns_any s y x.cell wi (HV.out.later hI)).mono ?_
   rintro e w'' ⟨rfl, hbb⟩
   exact ⟨_, rfl, ⟨rfl, hI.trans (hbb.mono hI.size), fun j u _ _ h => ledLk1_later hbb h⟩⟩
  ·obtain ⟨_, rfl, e11⟩ := hd 5 11; exact Reg.gw hI
  ·obtain ⟨_, rfl, e12⟩ := hd 6 12; exact Reg.gw hI
 ·intro V wa hV hI
  have hV7 : V 7 = .bool (!owns s x.cell) := hV 7 (by decide) rfl
  simp only [Reg.putsO, List.foldl_cons, List.foldl_nil, Act.put, List.setIfInBounds_toArray, List.set_cons_succ, List.set_cons_zero, hV7]
  replace hI : (fun a => Below wb.heap.size wb a) wa := hI
  clear hV hV7
  have HBA := Lib.hid (HB.out.trans (hI.mono HB.out.size))
  have HWA := Lib.hid hI
  clear hI
  cases ho : owns s x.cell with
  | false =>
   rw [ho] at HLE
   have HLE8 : Hid (E = 8) := Lib.hid HLE.out
   clear HLE ho
   go_wp2_with fail
   go_returns
   exact ⟨ret_int HLE8.out.symm, HBA.out⟩
  | true =>
   rw [ho, if_neg (by decide)] at HLE
   have HOW := Lib.hid ho
   have HX2 := Lib.hid (fun wi (h : Below wa.heap.size wa wi) => ((HXC.out.later HWA.out).later h).cell (j := 0) rfl)
   have HS2 := Lib.hid (fun wi (h : Below wa.heap.size wa wi) => (HS0.out.later HWA.out).later h)
   have HV2 := Lib.hid (HV.out.later HWA.out)
   clear ho
   go_wp2_with fail
   refine Reg.region_heavy (by kernel_rfl) 6 [6] (ledLk2 s y x b w.heap.size) (fun a => Below wa.heap.size wa a) (fun a => Below wa.heap.size wa a) (fun V => [(some 14, V 0), (some 15, V 1), (some 16, V 2), (some 17, V 3), (some 18, V 4), (some 19, V 5), (some 13, V 6)]) (by kernel_rfl) (by kernel_rfl) (by kernel_rfl) (fun V => rfl) ?_ ?_ ?_
   ·exact (Below.refl _ _).drew
   ·intro i o ho
    have hi : i < 7 := (Array.getElem?_eq_some_iff.1 ho).1
    rcases i with _ | _ | _ | _ | _ | _ | _ | i
    rotate_right
    ·omega
    all_goals obtain rfl := Option.some.inj ho
    all_goals intro ρ wi hE hI hs hd
    all_goals try dsimp only at hI
    ·have e0 : ρ (.tmp 0) = .pointer (some ⟨b, 0, none⟩) := hs 0; exact Reg.gw hI
    ·obtain ⟨_, rfl, e14⟩ := hd 0 14; exact Reg.gw hI
    ·obtain ⟨_, rfl, e15⟩ := hd 1 15
     exact Reg.Gives.value (v := s.val y) (w' := wi) (by have hz := HS2.out wi hI; unfold St.vals at hz; have z0 := hz.cell (j := 0) rfl; have z1 := hz.cell (j := 1) rfl; have z2 := hz.cell (j := 2) rfl; have z3 := hz.cell (j := 3) rfl; have z4 := hz.cell (j := 4) rfl; have z5 := hz.cell (j := 5) rfl; have z6 := hz.cell (j := 6) rfl; have z7 := hz.cell (j := 7) rfl; clear hz; unfold St.val; go_simp) (Reg.OwedH.same hI rfl)
    ·have e3 : ρ (.tmp 3) = .pointer (some ⟨w.heap.size, 0, none⟩) := hs 3; exact Reg.gw hI
    ·obtain ⟨_, rfl, e17⟩ := hd 3 17; have hx := HX2.out wi hI; exact Reg.gw hI
    ·obtain ⟨_, rfl, e16⟩ := hd 2 16; obtain ⟨_, rfl, e18⟩ := hd 4 18; have hf := hE.func
     refine Reg.Gives.call (f := 17) (args := #[s.val y, .int .i64 x.cell]) (w' := wi) (by go_simp) ?_
     refine (Locked_any s y x.cell wi (HV2.out.later hI) HLP.out).mono ?_
     rintro e w'' ⟨rfl, hbb⟩
     exact ⟨_, rfl, ⟨rfl, hI.trans (hbb.mono hI.size), fun j u _ _ h => ledLk2_later hbb h⟩⟩
    ·obtain ⟨_, rfl, e19⟩ := hd 5 19; exact Reg.gw hI
   ·intro V wc hV hI
    have hV6 : V 6 = .bool (locked s x.cell) := hV 6 (by decide) rfl
    simp only [Reg.putsO, List.foldl_cons, List.foldl_nil, Act.put, List.setIfInBounds_toArray, List.set_cons_succ, List.set_cons_zero, hV6]
    replace hI : (fun a => Below wa.heap.size wa a) wc := hI
    clear hV hV6
    have HBC := Lib.hid (HBA.out.trans (hI.mono HBA.out.size))
    have HWC := Lib.hid hI
    clear hI
    cases hk : locked s x.cell with
    | true =>
     rw [hk, if_pos rfl] at HLE
     have HLE8 : Hid (E = 12) := Lib.hid HLE.out
     clear HLE hk
     go_wp2_with fail
     go_returns
     exact ⟨ret_int HLE8.out.symm, HBC.out⟩
    | false =>
     rw [hk, if_neg (by decide)] at HLE
     obtain ⟨h0, h1⟩ := (hasC_iff s x.cell).1 (owns_has HOW.out)
     obtain ⟨k, hkk⟩ := Int.eq_ofNat_of_zero_le h0
     have hkl : k < s.places.length := by omega
     obtain ⟨pb, off, hA, hp⟩ := place_cells (HV2.out.later HWC.out).places hkl
     have hz := HS2.out wc HWC.out
     unfold St.vals at hz
     have z4 := hz.cell (j := 4) rfl
     rw [hA] at z4
     have hq := (HXC.out.later HWA.out).later HWC.out
     have q0 := hq.cell (j := 0) rfl
     have q1 := hq.cell (j := 1) rfl
     have p3 := hp.2.2.2.1
     rw [hkk, plAt_nat s hkl] at HLE
     rw [hkk] at q0
     obtain ⟨pv, hpv⟩ : ∃ v, s.places[k].version = v := ⟨_, rfl⟩
     rw [hpv] at p3 HLE
     clear hz hq hp hk h0 h1 hkk hpv hA
     by_cases hne : pv = x.version
     ·rw [if_neg (by simp [hne])] at HLE
      go_wp2_with fail
      go_quiet (fail)
      go_wp2_with fail
      go_returns
      exact ⟨ret_int HLE.out.symm, below_drewN HBC.out nq⟩
     ·rw [if_pos hne] at HLE
      go_wp2_with fail
      go_quiet (fail)
      go_wp2_with fail
      go_returns
      exact ⟨ret_int HLE.out.symm, below_drewN HBC.out nq⟩
end Go.Proofs.YtalhbblmnahcdaaGreat.Led
