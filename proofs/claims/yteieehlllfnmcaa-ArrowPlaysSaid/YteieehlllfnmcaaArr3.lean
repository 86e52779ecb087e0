/-
  Layer 16: a book of arrows: NewBook, arrow, To, Want, Find, Point. Conditions: none.
-/
import Derived.Test.YteieehlllfnmcaaArr2
import Derived.Test.YteieehlllfnmcaaReg4
namespace Go.Proofs.Yteieehlllfnmcaa.Arr
set_option maxRecDepth 100000
open Go.RowKit Go.Deep Go.Proofs.Yteieehlllfnmcaa.Mem Go.Proofs.Yteieehlllfnmcaa.Spn

/-- A book lies at block bb, its arrows are l. -/
structure Bk (B : Nat) (w : World) (bb : Nat) (l : List Ar) (V : Option Addr) (vc : Nat) : Prop where
  box : Cells w bb 61 [.slice V l.length vc]
  row : OwnG 51 3 Ar.vals B w (.slice V l.length vc) l
  far : ∀ k, blk V = some k → k ≠ bb
  low : B ≤ bb
section
variable {B bb vc : Nat} {w w1 wi : World} {l : List Ar} {V : Option Addr}
theorem Bk.later (h : Bk B w bb l V vc) (hb : Below w.heap.size w w1) : Bk B w1 bb l V vc := ⟨h.box.later hb, h.row.later hb, h.far, h.low⟩
theorem Bk.only {S : Nat → Prop} (h : Bk B w bb l V vc) (ho : Only S w w1) (h1 : ¬ S bb) (h2 : ∀ k, blk V = some k → ¬ S k) : Bk B w1 bb l V vc := ⟨cells_only h.box ho h1, row_only h.row ho fun k e => h2 k (by rw [← e, own_blk]), h.far, h.low⟩
theorem Bk.rowLow (h : Bk B w bb l V vc) : ∀ k, blk V = some k → B ≤ k := fun k e => (h.row.lt (by rw [own_blk]; exact e)).1
/-- Behind the append, ahead of the store. -/
def BPend (B : Nat) (w : World) (V : Option Addr) (l : List Ar) (a : Ar) (v : Value) (w1 : World) : Prop :=
  ∃ A2 n2 c2, v = .slice A2 n2 c2 ∧ n2 = (l ++ [a]).length ∧ OwnG 51 3 Ar.vals B w1 (.slice A2 n2 c2) (l ++ [a]) ∧ Only (fun k => blk V = some k) w w1 ∧ ∀ k, blk A2 = some k → blk V = some k ∨ w.heap.size ≤ k
theorem Bk.grow (h : Bk B w bb l V vc) (hB : B ≤ w.heap.size) (hb : Below w.heap.size w wi) {kk : Nat} {a : Ar} (hc : Cells wi kk 51 a.vals) (hl : l.length ≤ 1000) :
    ∃ v2 w5, (Builtin.append_ #[48, 48] 48 #[.slice V l.length vc, .slice (some ⟨kk, 0, none⟩) 1 1]).run Try.prog wi = .ok v2 w5 ∧ BPend B w V l a v2 w5 := by
  obtain ⟨V2, n2, c2, w2, hrun, hrow, hn2, hon, hnb⟩ := OwnG.appS el_ar fit_ar (h.row.later hb) (m := [a]) (cells_sl (by simpa using hc) (fun v hv => (fit_ar [_]).len v hv)) (fun e => by cases e) (Nat.le_trans hB hb.size) (by simp only [List.length_singleton]; omega)
  refine ⟨_, w2, hrun, V2, n2, c2, rfl, hn2, hrow, ?_, fun k e => ?_⟩
  · refine (Only.of_below hb).trans hon fun k _ e => ?_
    rw [own_blk] at e
    exact e
  · rcases hnb k e with e2 | e2
    · rw [own_blk] at e2
      exact Or.inl e2
    · exact Or.inr (Nat.le_trans hb.size e2)
theorem BPend.put {a : Ar} {v : Value} (h : BPend B w V l a v w1) (hp : Bk B w bb l V vc) :
    ∃ A2 n2 c2, v = .slice A2 n2 c2 ∧ w1.cell? ⟨bb, 0, none⟩ = some (.slice V l.length vc) ∧ w1.frozen? ⟨bb, 0, none⟩ = false ∧ ∃ V9 c9, Bk B (w1.setCell ⟨bb, 0, none⟩ (.slice A2 n2 c2)) bb (l ++ [a]) V9 c9 ∧ Below B w (w1.setCell ⟨bb, 0, none⟩ (.slice A2 n2 c2)) := by
  obtain ⟨A2, n2, c2, rfl, rfl, hrow, ho, hg⟩ := h
  have hbx := cells_only hp.box ho fun e => hp.far bb e rfl
  have hnp : ∀ k, blk A2 = some k → k ≠ bb := fun k e e2 => by
    rcases hg k e with e3 | e3
    · exact hp.far k e3 e2
    · have := hp.box.lt
      omega
  have hBw : B ≤ w.heap.size := Nat.le_trans hp.low (Nat.le_of_lt hp.box.lt)
  refine ⟨A2, _, c2, rfl, hbx.cell (j := 0) rfl, hbx.frozen (j := 0) (by simp), A2, c2, ⟨hbx.set_ 0 _, ?_, hnp, hp.low⟩, ?_⟩
  · exact row_only hrow (Only.of_set w1 ⟨bb, 0, none⟩ _) fun k e e2 => hnp k (by rw [← e, own_blk]) e2
  · exact (ho.below hBw fun k e => hp.rowLow k e).setCell hp.low _
/-- An arrow of a book turns. -/
theorem Bk.turn {g : Nat} (h : Bk B w bb l (some ⟨g, 0, none⟩) vc) (hb : Below w.heap.size w w1) {k : Nat} (hk : k < l.length) (x : Int) :
    Bk B (w1.setCell ⟨g, k * 3 + 2, none⟩ (.int .i64 x)) bb (l.set k (l[k].put x)) (some ⟨g, 0, none⟩) vc ∧ Only (fun j => j = g) w (w1.setCell ⟨g, k * 3 + 2, none⟩ (.int .i64 x)) := by
  have h1 := h.later hb
  refine ⟨⟨?_, ?_, h.far, h.low⟩, (Only.of_below hb).trans (Only.of_set w1 ⟨g, k * 3 + 2, none⟩ _) fun _ _ e => e⟩
  · rw [List.length_set]
    exact cells_only h1.box (Only.of_set w1 ⟨g, k * 3 + 2, none⟩ _) fun e => h.far g rfl e.symm
  · have := OwnG.setC fit_ar h1.row (j := 2) (u := .int .i64 x) hk (by omega) rfl (x := l[k].put x) rfl
    rw [List.length_set]
    exact this
/-- One is put in another one's place. -/
theorem Bk.place {g : Nat} (h : Bk B w bb l (some ⟨g, 0, none⟩) vc) (hb : Below w.heap.size w w1) {k : Nat} (hk : k < l.length) (a : Ar) :
    Bk B (((w1.setCell ⟨g, k * 3, none⟩ (.int .i64 a.node)).setCell ⟨g, k * 3 + 1, none⟩ (.int .i64 a.nodes)).setCell ⟨g, k * 3 + 2, none⟩ (.int .i64 a.tgt)) bb (l.set k a) (some ⟨g, 0, none⟩) vc ∧
      Only (fun j => j = g) w (((w1.setCell ⟨g, k * 3, none⟩ (.int .i64 a.node)).setCell ⟨g, k * 3 + 1, none⟩ (.int .i64 a.nodes)).setCell ⟨g, k * 3 + 2, none⟩ (.int .i64 a.tgt)) := by
  have h1 := h.later hb
  have e3 : Only (fun j => j = g) w1 (((w1.setCell ⟨g, k * 3, none⟩ (.int .i64 a.node)).setCell ⟨g, k * 3 + 1, none⟩ (.int .i64 a.nodes)).setCell ⟨g, k * 3 + 2, none⟩ (.int .i64 a.tgt)) :=
    ((Only.of_set w1 ⟨g, k * 3, none⟩ _).trans (Only.of_set _ ⟨g, k * 3 + 1, none⟩ _) fun _ _ e => e).trans (Only.of_set _ ⟨g, k * 3 + 2, none⟩ _) fun _ _ e => e
  refine ⟨⟨?_, ?_, h.far, h.low⟩, (Only.of_below hb).trans e3 fun _ _ e => e⟩
  · rw [List.length_set]
    exact cells_only h1.box e3 fun e => h.far g rfl e.symm
  · have r0 := OwnG.setC fit_ar h1.row (j := 0) (u := .int .i64 a.node) hk (by omega) rfl (x := ⟨a.node, l[k].nodes, l[k].tgt⟩) rfl
    have r1 := OwnG.setC fit_ar r0 (k := k) (j := 1) (u := .int .i64 a.nodes) (by rw [List.length_set]; exact hk) (by omega) rfl (x := ⟨a.node, a.nodes, l[k].tgt⟩) (by rw [List.getElem_set_self]; rfl)
    have r2 := OwnG.setC fit_ar r1 (k := k) (j := 2) (u := .int .i64 a.tgt) (by rw [List.length_set, List.length_set]; exact hk) (by omega) rfl (x := a) (by rw [List.getElem_set_self]; rfl)
    rw [List.set_set, List.set_set] at r2
    rw [List.length_set]
    exact r2
theorem Bk.elem (h : Bk B w bb l V vc) {k : Nat} (hk : k < l.length) : ∃ g, V = some ⟨g, 0, none⟩ ∧ CellsO w g (k * 3) l[k].vals := OwnG.elem fit_ar h.row hk
theorem arrow_some {g : Nat} (h : Bk B w bb l (some ⟨g, 0, none⟩) vc) {k : Nat} (hk : k < l.length) :
    Calls Try.prog 23 #[.pointer (some ⟨bb, 0, none⟩), .int .i64 (k : Int)] w fun e w' => e = .returned (.pointer (some ⟨g, k * 3, none⟩)) ∧ w' = w := by
  have c0 := h.box.cell (j := 0) rfl
  obtain ⟨n, hn⟩ : ∃ n, l.length = n := ⟨_, rfl⟩
  rw [hn] at c0 hk
  have e1 : decide ((k : Int) < 0) = false := decide_eq_false (by omega)
  have e2 : decide ((k : Int) ≥ (n : Int)) = false := decide_eq_false (by omega)
  clear h hn
  go_enter Try.func23, Try.ntmps23
  go_wp2_with fail
  go_returns
  exact ⟨rfl, rfl⟩
theorem arrow_none (h : Bk B w bb l V vc) (x : Int) (hx : ¬ (0 ≤ x ∧ x < (l.length : Int))) :
    Calls Try.prog 23 #[.pointer (some ⟨bb, 0, none⟩), .int .i64 x] w fun e w' => e = .returned (.pointer none) ∧ w' = w := by
  have c0 := h.box.cell (j := 0) rfl
  obtain ⟨n, hn⟩ : ∃ n, l.length = n := ⟨_, rfl⟩
  rw [hn] at c0 hx
  clear h hn
  by_cases h0 : x < 0
  · have e1 : decide (x < 0) = true := decide_eq_true h0
    clear h0 hx
    go_enter Try.func23, Try.ntmps23
    go_wp2_with fail
    go_returns
    exact ⟨rfl, rfl⟩
  · have e1 : decide (x < 0) = false := decide_eq_false h0
    have e2 : decide (x ≥ (n : Int)) = true := decide_eq_true (by omega)
    clear h0 hx
    go_enter Try.func23, Try.ntmps23
    go_wp2_with fail
    go_returns
    exact ⟨rfl, rfl⟩
end
theorem arrow_nil (x : Int) (w : World) : Calls Try.prog 23 #[.pointer none, .int .i64 x] w fun e w' => e = .returned (.pointer none) ∧ w' = w := by
  go_enter Try.func23, Try.ntmps23
  go_wp2_with fail
  go_returns
  exact ⟨rfl, rfl⟩
theorem Find_nil (x : Int) (w : World) : Calls Try.prog 18 #[.pointer none, .int .i64 x] w fun e w' => e = .returned (.tuple #[.int .i64 0, .bool false, .int .i64 1]) ∧ ∃ m, w' = w.drewN m := by
  go_enter Try.func18, Try.ntmps18
  go_wp2_with fail
  go_quiet (fail)
  go_wp2_with fail
  go_returns
  exact ⟨rfl, _, rfl⟩
section
variable {w : World} {P : Value} {x : Int}
/-- Where there is no arrow. -/
theorem noWant (h : Calls Try.prog 23 #[P, .int .i64 x] w fun e w' => e = .returned (.pointer none) ∧ w' = w) :
    Calls Try.prog 10 #[P, .int .i64 x] w fun e w' => e = .returned (.tuple #[.int .i64 0, .bool false, .int .i64 1]) ∧ w' = w := by
  have HA := Lib.hid h
  clear h
  go_enter Try.func10, Try.ntmps10
  go_wp2_with fail
  refine HA.out.mono ?_
  rintro e w1 ⟨rfl, rfl⟩
  go_wp2_with fail
  go_returns
  exact ⟨rfl, rfl⟩
theorem noTo (h : Calls Try.prog 23 #[P, .int .i64 x] w fun e w' => e = .returned (.pointer none) ∧ w' = w) :
    Calls Try.prog 15 #[P, .int .i64 x] w fun e w' => e = .returned (.int .i64 0) ∧ w' = w := by
  have HA := Lib.hid h
  clear h
  go_enter Try.func15, Try.ntmps15
  go_wp2_with fail
  refine HA.out.mono ?_
  rintro e w1 ⟨rfl, rfl⟩
  go_wp2_with fail
  go_returns
  exact ⟨rfl, rfl⟩
theorem noFind (y : Int) (h : Calls Try.prog 23 #[P, .int .i64 x] w fun e w' => e = .returned (.pointer none) ∧ w' = w) :
    Calls Try.prog 12 #[P, .int .i64 x, .int .i64 y] w fun e w' => e = .returned (.tuple #[.int .i64 0, .bool false, .int .i64 1]) ∧ ∃ m, w' = w.drewN m := by
  have HA := Lib.hid h
  have HF := Lib.hid (Find_nil y w)
  clear h
  go_enter Try.func12, Try.ntmps12
  go_wp2_with fail
  refine HA.out.mono ?_
  rintro e w1 ⟨rfl, rfl⟩
  go_wp2_with fail
  refine HF.out.mono ?_
  rintro e w1 ⟨rfl, m, rfl⟩
  go_wp2_with fail
  go_returns
  exact ⟨rfl, _, rfl⟩
theorem noPoint (y : Int) (h : Calls Try.prog 23 #[P, .int .i64 x] w fun e w' => e = .returned (.pointer none) ∧ w' = w) :
    Calls Try.prog 14 #[P, .int .i64 x, .int .i64 y] w fun e w' => e = .returned (.int .i64 1) ∧ w' = w := by
  have HA := Lib.hid h
  clear h
  go_enter Try.func14, Try.ntmps14
  go_wp2_with fail
  refine HA.out.mono ?_
  rintro e w1 ⟨rfl, rfl⟩
  go_wp2_with fail
  go_returns
  exact ⟨rfl, rfl⟩
end
section
variable {B bb vc g : Nat} {w : World} {l : List Ar}
theorem bTo_any (h : Bk B w bb l (some ⟨g, 0, none⟩) vc) {k : Nat} (hk : k < l.length) :
    Calls Try.prog 15 #[.pointer (some ⟨bb, 0, none⟩), .int .i64 (k : Int)] w fun e w' => e = .returned (.int .i64 l[k].tgt) ∧ w' = w := by
  have HA := Lib.hid (arrow_some h hk)
  obtain ⟨g2, e2, hc⟩ := h.elem hk
  obtain rfl : g = g2 := by simpa using e2
  have c2 := hc.cell (j := 2) rfl
  obtain ⟨t, ht⟩ : ∃ t, l[k].tgt = t := ⟨_, rfl⟩
  rw [ht] at c2 ⊢
  clear h hc e2 ht
  go_enter Try.func15, Try.ntmps15
  go_wp2_with fail
  refine HA.out.mono ?_
  rintro e w1 ⟨rfl, rfl⟩
  go_wp2_with fail
  go_returns
  exact ⟨rfl, rfl⟩
theorem bWant_any (h : Bk B w bb l (some ⟨g, 0, none⟩) vc) {k : Nat} (hk : k < l.length) :
    Calls Try.prog 10 #[.pointer (some ⟨bb, 0, none⟩), .int .i64 (k : Int)] w fun e w' => e = .returned (.tuple #[.int .i64 (onI l[k]), .bool (!homeB l[k]), .int .i64 0]) ∧ Bk B w' bb (l.set k (l[k].put l[k].node)) (some ⟨g, 0, none⟩) vc ∧ Only (fun j => j = g) w w' := by
  have HA := Lib.hid (arrow_some h hk)
  obtain ⟨g2, e2, hc⟩ := h.elem hk
  obtain rfl : g = g2 := by simpa using e2
  have HW := Lib.hid (Want_any hc)
  have HT : Hid (∀ m, _) := Lib.hid fun m => h.turn (below_drew w m) hk l[k].node
  obtain ⟨on, hon⟩ : ∃ t, onI l[k] = t := ⟨_, rfl⟩
  obtain ⟨b, hb⟩ : ∃ t, homeB l[k] = t := ⟨_, rfl⟩
  rw [hon, hb] at HW
  rw [hon, hb]
  clear h hc e2 hon hb
  go_enter Try.func10, Try.ntmps10
  go_wp2_with fail
  refine HA.out.mono ?_
  rintro e w1 ⟨rfl, rfl⟩
  go_wp2_with fail
  refine HW.out.mono ?_
  rintro e w2 ⟨rfl, m, hw2⟩
  have HT2 := Lib.hid (HT.out m)
  rw [← hw2] at HT2
  clear HT HW hw2
  go_wp2_with fail
  go_returns
  exact ⟨rfl, HT2.out⟩
theorem bFind_any (h : Bk B w bb l (some ⟨g, 0, none⟩) vc) {k : Nat} (hk : k < l.length) (x : Int) :
    Calls Try.prog 12 #[.pointer (some ⟨bb, 0, none⟩), .int .i64 (k : Int), .int .i64 x] w fun e w' =>
      (edgeI l[k].node x l[k].nodes = true ∧ e = .returned (.tuple #[.int .i64 (onI l[k]), .bool (homeB l[k]), .int .i64 0]) ∧ Bk B w' bb (l.set k (l[k].put x)) (some ⟨g, 0, none⟩) vc ∧ Only (fun j => j = g) w w') ∨
      (edgeI l[k].node x l[k].nodes = false ∧ e = .returned (.tuple #[.int .i64 0, .bool false, .int .i64 1]) ∧ Below w.heap.size w w') := by
  have HA := Lib.hid (arrow_some h hk)
  obtain ⟨g2, e2, hc⟩ := h.elem hk
  obtain rfl : g = g2 := by simpa using e2
  have HF := Lib.hid (Find_any hc x)
  have HT : Hid (∀ w1, Below w.heap.size w w1 → _) := Lib.hid fun w1 hb => h.turn (w1 := w1) hb hk x
  obtain ⟨on, hon⟩ : ∃ t, onI l[k] = t := ⟨_, rfl⟩
  obtain ⟨b, hb⟩ : ∃ t, homeB l[k] = t := ⟨_, rfl⟩
  obtain ⟨d, hd⟩ : ∃ t, edgeI l[k].node x l[k].nodes = t := ⟨_, rfl⟩
  have HF : Hid (Calls Try.prog 18 #[.pointer (some ⟨g, k * 3, none⟩), .int .i64 x] w fun e w' =>
    (d = true ∧ e = .returned (.tuple #[.int .i64 on, .bool b, .int .i64 0]) ∧ ∃ w1, Below w.heap.size w w1 ∧ w' = w1.setCell ⟨g, k * 3 + 2, none⟩ (.int .i64 x)) ∨
    (d = false ∧ e = .returned (.tuple #[.int .i64 0, .bool false, .int .i64 1]) ∧ Below w.heap.size w w')) := Lib.hid (by rw [← hon, ← hb, ← hd]; exact HF.out)
  rw [hon, hb, hd]
  clear h hc e2 hon hb hd
  go_enter Try.func12, Try.ntmps12
  go_wp2_with fail
  refine HA.out.mono ?_
  rintro e w1 ⟨rfl, rfl⟩
  go_wp2_with fail
  refine HF.out.mono ?_
  rintro e w2 (⟨rfl, rfl, w3, hb3, hw2⟩ | ⟨rfl, rfl, hb3⟩)
  · have HT2 := Lib.hid (HT.out w3 hb3)
    rw [← hw2] at HT2
    clear HT HF hw2 hb3
    go_wp2_with fail
    go_returns
    exact ⟨rfl, HT2.out⟩
  · have HB := Lib.hid hb3
    clear HT HF hb3
    go_wp2_with fail
    go_returns
    exact ⟨rfl, HB.out⟩
def arA (r : Option Ar) : Ar := r.getD ⟨0, 0, 0⟩
theorem arV_eq (r : Option Ar) : arV r = .agg #[.int .i64 (arA r).node, .int .i64 (arA r).nodes, .int .i64 (arA r).tgt] := by cases r <;> rfl
theorem bPoint_any (h : Bk B w bb l (some ⟨g, 0, none⟩) vc) {k : Nat} (hk : k < l.length) (x : Int) :
    Calls Try.prog 14 #[.pointer (some ⟨bb, 0, none⟩), .int .i64 (k : Int), .int .i64 x] w fun e w' =>
      (∃ a, newAr l[k].node l[k].nodes x = some a ∧ e = .returned (.int .i64 0) ∧ Bk B w' bb (l.set k a) (some ⟨g, 0, none⟩) vc ∧ Only (fun j => j = g) w w') ∨
      (newAr l[k].node l[k].nodes x = none ∧ e = .returned (.int .i64 1) ∧ Below w.heap.size w w') := by
  have HA := Lib.hid (arrow_some h hk)
  obtain ⟨g2, e2, hc⟩ := h.elem hk
  obtain rfl : g = g2 := by simpa using e2
  obtain ⟨nd, hnd⟩ : ∃ t, l[k].node = t := ⟨_, rfl⟩
  obtain ⟨nn, hnn⟩ : ∃ t, l[k].nodes = t := ⟨_, rfl⟩
  rw [hnd, hnn]
  have hcc := hc
  unfold Ar.vals at hcc
  rw [hnd, hnn] at hcc
  obtain ⟨o, ho⟩ : ∃ o, k * 3 = o := ⟨_, rfl⟩
  have HT : Hid (∀ (w1 : World) (a : Ar), Below w.heap.size w w1 → _) := Lib.hid fun w1 a hb => h.place (w1 := w1) hb hk a
  rw [ho] at HA hcc HT
  have HC := Lib.hid hcc
  obtain ⟨rz, hrz⟩ : ∃ r, newAr nd nn x = r := ⟨_, rfl⟩
  rw [hrz]
  obtain ⟨az, haz⟩ : ∃ a, arA rz = a := ⟨_, rfl⟩
  obtain ⟨ez, hez⟩ : ∃ a : Int, (if rz.isNone then 1 else 0) = a := ⟨_, rfl⟩
  have HNW : Hid (∀ wi, Calls Try.prog 21 #[.int .i64 nd, .int .i64 nn, .int .i64 x] wi fun e w' => e = .returned (.tuple #[.agg #[.int .i64 az.node, .int .i64 az.nodes, .int .i64 az.tgt], .int .i64 ez]) ∧ Below wi.heap.size wi w') := Lib.hid fun wi => by
    have := New_any nd nn x wi
    rw [hrz, arV_eq, haz, hez] at this
    exact this
  have HEZ := Lib.hid hez
  have HAZ := Lib.hid haz
  clear h hc hcc e2 hnd hnn hrz hez haz ho
  go_enter Try.func14, Try.ntmps14
  go_wp2_with fail
  refine HA.out.mono ?_
  rintro e w1 ⟨rfl, rfl⟩
  go_upto_region 4 with (fail)
  refine Reg.region_inv (by kernel_rfl) (fun i => ([some (.pointer (some ⟨g, o, none⟩)), some (.pointer (some ⟨g, o, none⟩)), some (.pointer (some ⟨g, o, none⟩)), some (.int .i64 nd), some (.pointer (some ⟨g, o, none⟩)), some (.pointer (some ⟨g, o, none⟩)), some (.pointer (some ⟨g, o + 1, none⟩)), some (.int .i64 nn), some (.int .i64 x), some (.tuple #[.agg #[.int .i64 az.node, .int .i64 az.nodes, .int .i64 az.tgt], .int .i64 ez]), some (.tuple #[.agg #[.int .i64 az.node, .int .i64 az.nodes, .int .i64 az.tgt], .int .i64 ez]), some (.agg #[.int .i64 az.node, .int .i64 az.nodes, .int .i64 az.tgt]), some (.int .i64 ez), none, none, some (.int .i64 ez)] : List (Option Value)).getD i none) (fun D V W => Below w1.heap.size w1 W ∧ (D 13 = true → ∃ kz, (V 13) = Value.pointer (some ⟨kz, 0, none⟩) ∧ w1.heap.size ≤ kz ∧ Cells W kz 51 (cond (D 14) (Ar.vals az) [.int .i64 0, .int .i64 0, .int .i64 0]))) (fun V => [(some 16, V 0), (some 17, V 1), (some 18, V 2), (some 19, V 3), (some 20, V 4), (some 21, V 5), (some 22, V 6), (some 23, V 7), (some 24, V 8), (some 25, V 9), (some 15, V 10), (some 26, V 11), (some 27, V 12), (some 8, V 13), (none, V 14), (some 9, V 15)]) (by kernel_rfl) (by kernel_rfl) (fun V => rfl) ?_ ?_ ?_
  · intro V
    exact ⟨(Below.refl _ _).drew, fun e => (by cases e)⟩
  · intro i o ho
    have hi : i < 16 := (Array.getElem?_eq_some_iff.1 ho).1
    rcases i with _ | _ | _ | _ | _ | _ | _ | _ | _ | _ | _ | _ | _ | _ | _ | _ | i
    rotate_right
    · omega
    all_goals obtain rfl := Option.some.inj ho
    all_goals intro D V ρ wi hE hI hDi hT hF hs hd hk
    · have e7 : ρ (.tmp 7) = .pointer (some ⟨g, o, none⟩) := hs 7; clear hT hF hk
      exact Reg.Gives.value (v := .pointer (some ⟨g, o, none⟩)) (w' := wi) (by go_simp) ⟨fun x h => Option.some.inj h, hI⟩
    · have e16 : ρ (.tmp 16) = .pointer (some ⟨g, o, none⟩) := (hd 0 16).trans (hk 0 _ rfl); clear hT hF hk
      exact Reg.Gives.value (v := .pointer (some ⟨g, o, none⟩)) (w' := wi) (by go_simp) ⟨fun x h => Option.some.inj h, hI⟩
    · have e17 : ρ (.tmp 17) = .pointer (some ⟨g, o, none⟩) := (hd 1 17).trans (hk 1 _ rfl); clear hT hF hk
      exact Reg.Gives.value (v := .pointer (some ⟨g, o, none⟩)) (w' := wi) (by go_simp) ⟨fun x h => Option.some.inj h, hI⟩
    · have e18 : ρ (.tmp 18) = .pointer (some ⟨g, o, none⟩) := (hd 2 18).trans (hk 2 _ rfl); clear hT hF; have x0 : wi.cell? ⟨g, o, none⟩ = _ := (HC.out.later hI.1).cell (j := 0) rfl
      exact Reg.Gives.value (v := .int .i64 nd) (w' := wi) (by go_simp) ⟨fun x h => Option.some.inj h, hI⟩
    · have e7 : ρ (.tmp 7) = .pointer (some ⟨g, o, none⟩) := hs 7; clear hT hF hk
      exact Reg.Gives.value (v := .pointer (some ⟨g, o, none⟩)) (w' := wi) (by go_simp) ⟨fun x h => Option.some.inj h, hI⟩
    · have e20 : ρ (.tmp 20) = .pointer (some ⟨g, o, none⟩) := (hd 4 20).trans (hk 4 _ rfl); clear hT hF hk
      exact Reg.Gives.value (v := .pointer (some ⟨g, o, none⟩)) (w' := wi) (by go_simp) ⟨fun x h => Option.some.inj h, hI⟩
    · have e21 : ρ (.tmp 21) = .pointer (some ⟨g, o, none⟩) := (hd 5 21).trans (hk 5 _ rfl); clear hT hF hk
      exact Reg.Gives.value (v := .pointer (some ⟨g, o + 1, none⟩)) (w' := wi) (by go_simp) ⟨fun x h => Option.some.inj h, hI⟩
    · have e22 : ρ (.tmp 22) = .pointer (some ⟨g, o + 1, none⟩) := (hd 6 22).trans (hk 6 _ rfl); clear hT hF; have x0 : wi.cell? ⟨g, o + 1, none⟩ = _ := (HC.out.later hI.1).cell (j := 1) rfl
      exact Reg.Gives.value (v := .int .i64 nn) (w' := wi) (by go_simp) ⟨fun x h => Option.some.inj h, hI⟩
    · have e2 : ρ (.tmp 2) = .int .i64 x := hs 2; clear hT hF hk
      exact Reg.Gives.value (v := .int .i64 x) (w' := wi) (by go_simp) ⟨fun x h => Option.some.inj h, hI⟩
    · have e19 : ρ (.tmp 19) = .int .i64 nd := (hd 3 19).trans (hk 3 _ rfl); have e23 : ρ (.tmp 23) = .int .i64 nn := (hd 7 23).trans (hk 7 _ rfl); have e24 : ρ (.tmp 24) = .int .i64 x := (hd 8 24).trans (hk 8 _ rfl); have hf := hE.func; clear hT hF
      refine Reg.Gives.call (f := 21) (args := #[.int .i64 nd, .int .i64 nn, .int .i64 x]) (w' := wi) (by go_simp) ?_
      refine (HNW.out wi).mono ?_
      rintro e w'' ⟨rfl, hb⟩
      refine ⟨_, rfl, fun x h => Option.some.inj h, hI.1.trans (hb.mono hI.1.size), fun e => ?_⟩
      obtain ⟨kz, h1, h2, h3⟩ := hI.2 e; exact ⟨kz, h1, h2, h3.later hb⟩
    · have e25 : ρ (.tmp 25) = .tuple #[.agg #[.int .i64 az.node, .int .i64 az.nodes, .int .i64 az.tgt], .int .i64 ez] := (hd 9 25).trans (hk 9 _ rfl); clear hT hF hk
      exact Reg.Gives.value (v := .tuple #[.agg #[.int .i64 az.node, .int .i64 az.nodes, .int .i64 az.tgt], .int .i64 ez]) (w' := wi) (by go_simp) ⟨fun x h => Option.some.inj h, hI⟩
    · have e15 : ρ (.tmp 15) = .tuple #[.agg #[.int .i64 az.node, .int .i64 az.nodes, .int .i64 az.tgt], .int .i64 ez] := (hd 10 15).trans (hk 10 _ rfl); clear hT hF hk
      exact Reg.Gives.value (v := .agg #[.int .i64 az.node, .int .i64 az.nodes, .int .i64 az.tgt]) (w' := wi) (by go_simp) ⟨fun x h => Option.some.inj h, hI⟩
    · have e15 : ρ (.tmp 15) = .tuple #[.agg #[.int .i64 az.node, .int .i64 az.nodes, .int .i64 az.tgt], .int .i64 ez] := (hd 10 15).trans (hk 10 _ rfl); clear hT hF hk
      exact Reg.Gives.value (v := .int .i64 ez) (w' := wi) (by go_simp) ⟨fun x h => Option.some.inj h, hI⟩
    · have hD14 : D 14 = false := hF 1 14; clear hT hF; have hal := below_alloc wi (.cells #[.int .i64 0, .int .i64 0, .int .i64 0] 51)
      exact Reg.Gives.value (v := .pointer (some ⟨wi.heap.size, 0, none⟩)) (w' := wi.alloc (.cells #[.int .i64 0, .int .i64 0, .int .i64 0] 51)) (by go_simp) ⟨fun x h => (by cases h), by show Below w1.heap.size w1 (wi.alloc (.cells #[.int .i64 0, .int .i64 0, .int .i64 0] 51)) ∧ (true = true → ∃ kz, (Value.pointer (some ⟨wi.heap.size, 0, none⟩)) = Value.pointer (some ⟨kz, 0, none⟩) ∧ w1.heap.size ≤ kz ∧ Cells (wi.alloc (.cells #[.int .i64 0, .int .i64 0, .int .i64 0] 51)) kz 51 (cond (D 14) (Ar.vals az) [.int .i64 0, .int .i64 0, .int .i64 0])); rw [hD14]; exact ⟨hI.1.trans (hal.mono hI.1.size), fun _ => ⟨_, rfl, hI.1.size, cells_new _ _ _ _ rfl⟩⟩⟩
    · have e8 : ρ (.tmp 8) = V 13 := hd 13 8; have e26 : ρ (.tmp 26) = .agg #[.int .i64 az.node, .int .i64 az.nodes, .int .i64 az.tgt] := (hd 11 26).trans (hk 11 _ rfl); have hD13 : D 13 = true := hT 1 13; have hD14 : D 14 = false := hDi; clear hT hF; obtain ⟨kz, h1, h2, h3⟩ := hI.2 hD13
      rw [hD14] at h3
      simp only [cond_false] at h3
      have e9 := e8
      rw [h1] at e9
      obtain ⟨k1, k2⟩ := h3.put (l := Ar.vals az) rfl; have k3 := h3.there (n := 3) (Nat.le_refl 3)
      have hrun := run_storeVar_mid (P := Try.prog) wi kz 0 51 #[.int .i64 az.node, .int .i64 az.nodes, .int .i64 az.tgt] k3 (by kernel_rfl) (by simp [Value.oneCell'])
      obtain ⟨wq, hwq⟩ : ∃ W, wi.setCells kz 0 (#[.int .i64 az.node, .int .i64 az.nodes, .int .i64 az.tgt]).toList = W := ⟨_, rfl⟩
      have k4 : Cells wq kz 51 (Ar.vals az) ∧ Only (fun k => k = kz) wi wq := by rw [← hwq]; exact ⟨k1, k2⟩
      rw [hwq] at hrun
      clear k1 k2 hwq
      exact Reg.Gives.skip (w' := wq) (exec_store 51 _ _ rfl kz 0 #[.int .i64 az.node, .int .i64 az.nodes, .int .i64 az.tgt] e9 e26 hrun) ⟨fun x h => (by cases h), by show Below w1.heap.size w1 wq ∧ ((D 13) = true → ∃ kz, (V 13) = Value.pointer (some ⟨kz, 0, none⟩) ∧ w1.heap.size ≤ kz ∧ Cells wq kz 51 (cond true (Ar.vals az) [.int .i64 0, .int .i64 0, .int .i64 0])); exact ⟨hI.1.trans (k4.2.below hI.1.size fun k e => by rw [e]; exact h2), fun _ => ⟨kz, h1, h2, k4.1⟩⟩⟩
    · have e27 : ρ (.tmp 27) = .int .i64 ez := (hd 12 27).trans (hk 12 _ rfl); clear hT hF hk
      exact Reg.Gives.value (v := .int .i64 ez) (w' := wi) (by go_simp) ⟨fun x h => Option.some.inj h, hI⟩
  · intro V w4 hk hI
    have hV15 : V 15 = .int .i64 ez := hk 15 (by show _ < 16; decide) _ rfl
    simp only [Reg.putsO, List.foldl_cons, List.foldl_nil, Act.put, List.setIfInBounds_toArray, List.set_cons_succ, List.set_cons_zero, hV15]
    replace hI : Below w1.heap.size w1 w4 ∧ ((fun _ => true) 13 = true → ∃ kz, (V 13) = Value.pointer (some ⟨kz, 0, none⟩) ∧ w1.heap.size ≤ kz ∧ Cells w4 kz 51 (cond true (Ar.vals az) [.int .i64 0, .int .i64 0, .int .i64 0])) := hI
    clear hk hV15
    obtain ⟨hb4, hI2⟩ := hI
    obtain ⟨kz, hkz, hlow, hcz⟩ := hI2 rfl
    simp only [cond_true] at hcz
    rw [hkz]
    have HB4 := Lib.hid hb4
    have y0 := hcz.cell (j := 0) rfl
    have y1 := hcz.cell (j := 1) rfl
    have y2 := hcz.cell (j := 2) rfl
    have hc4 := HC.out.later hb4
    have f0 : w4.frozen? ⟨g, o, none⟩ = false := hc4.frozen (j := 0) (by simp)
    have f1 : w4.frozen? ⟨g, o + 1, none⟩ = false := hc4.frozen (j := 1) (by simp)
    have f2 : w4.frozen? ⟨g, o + 2, none⟩ = false := hc4.frozen (j := 2) (by simp)
    have z0 : w4.cell? ⟨g, o, none⟩ = _ := hc4.cell (j := 0) rfl
    have z1 : w4.cell? ⟨g, o + 1, none⟩ = _ := hc4.cell (j := 1) rfl
    have z2 : w4.cell? ⟨g, o + 2, none⟩ = _ := hc4.cell (j := 2) rfl
    clear hb4 hkz hlow hcz hc4 hI2
    cases rz with
    | none =>
      obtain rfl : ez = 1 := HEZ.out.symm
      go_wp2_with fail
      go_returns
      exact ⟨rfl, HB4.out⟩
    | some a =>
      obtain rfl : ez = 0 := HEZ.out.symm
      obtain rfl : az = a := HAZ.out.symm
      have HT2 := Lib.hid (HT.out w4 az HB4.out)
      clear HT
      go_wp2_with fail
      go_returns
      exact Or.inl ⟨_, rfl, rfl, HT2.out⟩
end
end Go.Proofs.Yteieehlllfnmcaa.Arr
