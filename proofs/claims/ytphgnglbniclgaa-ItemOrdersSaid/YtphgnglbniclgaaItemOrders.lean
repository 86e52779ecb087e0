/-
  ItemOrders is proved: the order of names is one: of two unlike ones just one stands ahead, and it goes on. Conditions: none.
-/
import Derived.Test.YtphgnglbniclgaaItemAwake
namespace Go.Proofs.Ytphgnglbniclgaa.ItemOrders
open Go.ChangeShapes Go.WideShapes Go.ChangeAt Go.RowKit Go.Proofs.Ytphgnglbniclgaa.Mem Go.Proofs.Ytphgnglbniclgaa.Item

theorem ord_vals (a b : Tid) : ord a b = -1 ∨ ord a b = 0 ∨ ord a b = 1 := by
  rcases ord_cases a b with ⟨h, _⟩ | ⟨h, _⟩ | ⟨h, _⟩
  · exact Or.inl h
  · exact Or.inr (Or.inl h)
  · exact Or.inr (Or.inr h)
set_option maxHeartbeats 400000 in
theorem walk_lt0 (a b c : Tid) (w : World) (hab : ord a b = -1) (hoba : ord b a = 1) (hd : (a.node == b.node) = false) :
    Calls Try.prog 6 #[a.val, b.val, c.val] w fun e w' => e = .returned (.bool true) ∧ Below w.heap.size w w' := by
  have HNN := Lib.hid hab
  have hk := ord_vals b c
  have hl := ord_vals a c
  have HT := Lib.hid (fun h k => ord_trans (a := a) (b := b) (c := c) h k)
  have hba := below_alloc w (.cells #[.int .i64 a.node, .int .i64 a.epoch, .int .i64 a.seq] 23)
  have hbb := hba.alloc hba.size (.cells #[.int .i64 b.node, .int .i64 b.epoch, .int .i64 b.seq] 23)
  have hbc := hbb.alloc hbb.size (.cells #[.int .i64 c.node, .int .i64 c.epoch, .int .i64 c.seq] 23)
  have hca := ((cells_new w 23 a.vals #[.int .i64 a.node, .int .i64 a.epoch, .int .i64 a.seq] rfl).later (below_alloc _ (.cells #[.int .i64 b.node, .int .i64 b.epoch, .int .i64 b.seq] 23))).later (below_alloc _ (.cells #[.int .i64 c.node, .int .i64 c.epoch, .int .i64 c.seq] 23))
  have hcb := (cells_new (w.alloc (.cells #[.int .i64 a.node, .int .i64 a.epoch, .int .i64 a.seq] 23)) 23 b.vals #[.int .i64 b.node, .int .i64 b.epoch, .int .i64 b.seq] rfl).later (below_alloc _ (.cells #[.int .i64 c.node, .int .i64 c.epoch, .int .i64 c.seq] 23))
  have hcc := cells_new ((w.alloc (.cells #[.int .i64 a.node, .int .i64 a.epoch, .int .i64 a.seq] 23)).alloc (.cells #[.int .i64 b.node, .int .i64 b.epoch, .int .i64 b.seq] 23)) 23 c.vals #[.int .i64 c.node, .int .i64 c.epoch, .int .i64 c.seq] rfl
  rw [World.size_alloc] at hcb
  rw [World.size_alloc, World.size_alloc] at hcc
  have HBC := Lib.hid hbc
  have HCA := Lib.hid hca
  have HCB := Lib.hid hcb
  have HCC := Lib.hid hcc
  have HAB := Lib.hid (order_any a b)
  have HBA := Lib.hid (order_any b a)
  rw [hab] at HAB
  rw [hoba] at HBA
  clear hab hoba
  have HBCo := Lib.hid (order_any b c)
  have HAC := Lib.hid (order_any a c)
  clear hba hbb hbc hca hcb hcc
  obtain ⟨a1, a2, a3⟩ := a
  obtain ⟨b1, b2, b3⟩ := b
  obtain ⟨c1, c2, c3⟩ := c
  simp only at hd
  unfold Tid.val at *
  go_enter Try.func6, Try.ntmps6
  go_wp2_with fail
  refine (awake_any _).mono ?_
  rintro e w1 ⟨rfl, hb1⟩
  have HB1 := Lib.hid (HBC.out.trans (hb1.mono HBC.out.size))
  have ca := HCA.out.later hb1
  have cb := HCB.out.later hb1
  have cc := HCC.out.later hb1
  have HA1 := Lib.hid ca
  have HB1c := Lib.hid cb
  have HC1 := Lib.hid cc
  have x0 := ca.cell (j := 0) rfl
  have x1 := ca.cell (j := 1) rfl
  have x2 := ca.cell (j := 2) rfl
  have y0 := cb.cell (j := 0) rfl
  have y1 := cb.cell (j := 1) rfl
  have y2 := cb.cell (j := 2) rfl
  clear ca cb cc hb1
  go_wp2_with fail
  refine (HAB.out _).mono ?_
  rintro e w2 ⟨rfl, hb2⟩
  have HB2 := Lib.hid (HB1.out.trans (hb2.mono HB1.out.size))
  have HA2 := Lib.hid (HA1.out.later hb2)
  have HB2c := Lib.hid (HB1c.out.later hb2)
  have HC2 := Lib.hid (HC1.out.later hb2)
  clear x0 x1 x2 y0 y1 y2 hb2
  have x0 := HA2.out.cell (j := 0) rfl
  have x1 := HA2.out.cell (j := 1) rfl
  have x2 := HA2.out.cell (j := 2) rfl
  have y0 := HB2c.out.cell (j := 0) rfl
  have y1 := HB2c.out.cell (j := 1) rfl
  have y2 := HB2c.out.cell (j := 2) rfl
  go_wp2_with fail
  refine (HBA.out _).mono ?_
  rintro e w3 ⟨rfl, hb3⟩
  have HB3 := Lib.hid (HB2.out.trans (hb3.mono HB2.out.size))
  have HA3 := Lib.hid (HA2.out.later hb3)
  have HB3c := Lib.hid (HB2c.out.later hb3)
  have HC3 := Lib.hid (HC2.out.later hb3)
  clear x0 x1 x2 y0 y1 y2 hb3
  have x0 := HA3.out.cell (j := 0) rfl
  have x1 := HA3.out.cell (j := 1) rfl
  have x2 := HA3.out.cell (j := 2) rfl
  have y0 := HB3c.out.cell (j := 0) rfl
  have y1 := HB3c.out.cell (j := 1) rfl
  have y2 := HB3c.out.cell (j := 2) rfl
  have z0 := HC3.out.cell (j := 0) rfl
  have z1 := HC3.out.cell (j := 1) rfl
  have z2 := HC3.out.cell (j := 2) rfl
  go_wp2_with fail
  refine (HBCo.out _).mono ?_
  rintro e w4 ⟨rfl, hb4⟩
  have HB4 := Lib.hid (HB3.out.trans (hb4.mono HB3.out.size))
  have HA4 := Lib.hid (HA3.out.later hb4)
  have HC4 := Lib.hid (HC3.out.later hb4)
  clear x0 x1 x2 y0 y1 y2 z0 z1 z2 hb4
  have x0 := HA4.out.cell (j := 0) rfl
  have x1 := HA4.out.cell (j := 1) rfl
  have x2 := HA4.out.cell (j := 2) rfl
  have z0 := HC4.out.cell (j := 0) rfl
  have z1 := HC4.out.cell (j := 1) rfl
  have z2 := HC4.out.cell (j := 2) rfl
  rcases hk with hk | hk | hk
  all_goals rw [hk]
  all_goals have HK := Lib.hid hk
  all_goals clear hk
  · go_wp2_with fail
    refine (HAC.out _).mono ?_
    rintro e w5 ⟨rfl, hb5⟩
    have HB5 := Lib.hid (HB4.out.trans (hb5.mono HB4.out.size))
    have hle := HT.out (by rw [HNN.out]; decide) (by rw [HK.out]; decide)
    rcases hl with hl | hl | hl
    · rw [hl]
      clear hl hle hb5
      go_wp2_with fail
      go_returns
      exact ⟨rfl, HB5.out⟩
    · rw [hl]
      clear hl hle hb5
      go_wp2_with fail
      go_returns
      exact ⟨rfl, HB5.out⟩
    · exfalso
      rw [hl] at hle
      exact absurd hle (by decide)
  · go_wp2_with fail
    refine (HAC.out _).mono ?_
    rintro e w5 ⟨rfl, hb5⟩
    have HB5 := Lib.hid (HB4.out.trans (hb5.mono HB4.out.size))
    have hle := HT.out (by rw [HNN.out]; decide) (by rw [HK.out]; decide)
    rcases hl with hl | hl | hl
    · rw [hl]
      clear hl hle hb5
      go_wp2_with fail
      go_returns
      exact ⟨rfl, HB5.out⟩
    · rw [hl]
      clear hl hle hb5
      go_wp2_with fail
      go_returns
      exact ⟨rfl, HB5.out⟩
    · exfalso
      rw [hl] at hle
      exact absurd hle (by decide)
  · go_wp2_with fail
    go_returns
    exact ⟨rfl, HB4.out⟩
set_option maxHeartbeats 400000 in
theorem walk_gt0 (a b c : Tid) (w : World) (hab : ord a b = 1) (hoba : ord b a = -1) (hd : (a.node == b.node) = false) :
    Calls Try.prog 6 #[a.val, b.val, c.val] w fun e w' => e = .returned (.bool true) ∧ Below w.heap.size w w' := by
  have HNN := Lib.hid hab
  have hk := ord_vals b c
  have hl := ord_vals a c
  have HT := Lib.hid (fun h k => ord_trans (a := a) (b := b) (c := c) h k)
  have hba := below_alloc w (.cells #[.int .i64 a.node, .int .i64 a.epoch, .int .i64 a.seq] 23)
  have hbb := hba.alloc hba.size (.cells #[.int .i64 b.node, .int .i64 b.epoch, .int .i64 b.seq] 23)
  have hbc := hbb.alloc hbb.size (.cells #[.int .i64 c.node, .int .i64 c.epoch, .int .i64 c.seq] 23)
  have hca := ((cells_new w 23 a.vals #[.int .i64 a.node, .int .i64 a.epoch, .int .i64 a.seq] rfl).later (below_alloc _ (.cells #[.int .i64 b.node, .int .i64 b.epoch, .int .i64 b.seq] 23))).later (below_alloc _ (.cells #[.int .i64 c.node, .int .i64 c.epoch, .int .i64 c.seq] 23))
  have hcb := (cells_new (w.alloc (.cells #[.int .i64 a.node, .int .i64 a.epoch, .int .i64 a.seq] 23)) 23 b.vals #[.int .i64 b.node, .int .i64 b.epoch, .int .i64 b.seq] rfl).later (below_alloc _ (.cells #[.int .i64 c.node, .int .i64 c.epoch, .int .i64 c.seq] 23))
  have hcc := cells_new ((w.alloc (.cells #[.int .i64 a.node, .int .i64 a.epoch, .int .i64 a.seq] 23)).alloc (.cells #[.int .i64 b.node, .int .i64 b.epoch, .int .i64 b.seq] 23)) 23 c.vals #[.int .i64 c.node, .int .i64 c.epoch, .int .i64 c.seq] rfl
  rw [World.size_alloc] at hcb
  rw [World.size_alloc, World.size_alloc] at hcc
  have HBC := Lib.hid hbc
  have HCA := Lib.hid hca
  have HCB := Lib.hid hcb
  have HCC := Lib.hid hcc
  have HAB := Lib.hid (order_any a b)
  have HBA := Lib.hid (order_any b a)
  rw [hab] at HAB
  rw [hoba] at HBA
  clear hab hoba
  have HBCo := Lib.hid (order_any b c)
  have HAC := Lib.hid (order_any a c)
  clear hba hbb hbc hca hcb hcc
  obtain ⟨a1, a2, a3⟩ := a
  obtain ⟨b1, b2, b3⟩ := b
  obtain ⟨c1, c2, c3⟩ := c
  simp only at hd
  unfold Tid.val at *
  go_enter Try.func6, Try.ntmps6
  go_wp2_with fail
  refine (awake_any _).mono ?_
  rintro e w1 ⟨rfl, hb1⟩
  have HB1 := Lib.hid (HBC.out.trans (hb1.mono HBC.out.size))
  have ca := HCA.out.later hb1
  have cb := HCB.out.later hb1
  have cc := HCC.out.later hb1
  have HA1 := Lib.hid ca
  have HB1c := Lib.hid cb
  have HC1 := Lib.hid cc
  have x0 := ca.cell (j := 0) rfl
  have x1 := ca.cell (j := 1) rfl
  have x2 := ca.cell (j := 2) rfl
  have y0 := cb.cell (j := 0) rfl
  have y1 := cb.cell (j := 1) rfl
  have y2 := cb.cell (j := 2) rfl
  clear ca cb cc hb1
  go_wp2_with fail
  refine (HAB.out _).mono ?_
  rintro e w2 ⟨rfl, hb2⟩
  have HB2 := Lib.hid (HB1.out.trans (hb2.mono HB1.out.size))
  have HA2 := Lib.hid (HA1.out.later hb2)
  have HB2c := Lib.hid (HB1c.out.later hb2)
  have HC2 := Lib.hid (HC1.out.later hb2)
  clear x0 x1 x2 y0 y1 y2 hb2
  have x0 := HA2.out.cell (j := 0) rfl
  have x1 := HA2.out.cell (j := 1) rfl
  have x2 := HA2.out.cell (j := 2) rfl
  have y0 := HB2c.out.cell (j := 0) rfl
  have y1 := HB2c.out.cell (j := 1) rfl
  have y2 := HB2c.out.cell (j := 2) rfl
  go_wp2_with fail
  refine (HBA.out _).mono ?_
  rintro e w3 ⟨rfl, hb3⟩
  have HB3 := Lib.hid (HB2.out.trans (hb3.mono HB2.out.size))
  have HA3 := Lib.hid (HA2.out.later hb3)
  have HB3c := Lib.hid (HB2c.out.later hb3)
  have HC3 := Lib.hid (HC2.out.later hb3)
  clear x0 x1 x2 y0 y1 y2 hb3
  have x0 := HA3.out.cell (j := 0) rfl
  have x1 := HA3.out.cell (j := 1) rfl
  have x2 := HA3.out.cell (j := 2) rfl
  have y0 := HB3c.out.cell (j := 0) rfl
  have y1 := HB3c.out.cell (j := 1) rfl
  have y2 := HB3c.out.cell (j := 2) rfl
  have z0 := HC3.out.cell (j := 0) rfl
  have z1 := HC3.out.cell (j := 1) rfl
  have z2 := HC3.out.cell (j := 2) rfl
  go_wp2_with fail
  go_returns
  exact ⟨rfl, HB3.out⟩
set_option maxHeartbeats 400000 in
theorem walk_lt1 (a b c : Tid) (w : World) (hab : ord a b = -1) (hoba : ord b a = 1) (hd : (a.node == b.node) = true ∧ (a.epoch == b.epoch) = false) :
    Calls Try.prog 6 #[a.val, b.val, c.val] w fun e w' => e = .returned (.bool true) ∧ Below w.heap.size w w' := by
  have HNN := Lib.hid hab
  have hk := ord_vals b c
  have hl := ord_vals a c
  have HT := Lib.hid (fun h k => ord_trans (a := a) (b := b) (c := c) h k)
  have hba := below_alloc w (.cells #[.int .i64 a.node, .int .i64 a.epoch, .int .i64 a.seq] 23)
  have hbb := hba.alloc hba.size (.cells #[.int .i64 b.node, .int .i64 b.epoch, .int .i64 b.seq] 23)
  have hbc := hbb.alloc hbb.size (.cells #[.int .i64 c.node, .int .i64 c.epoch, .int .i64 c.seq] 23)
  have hca := ((cells_new w 23 a.vals #[.int .i64 a.node, .int .i64 a.epoch, .int .i64 a.seq] rfl).later (below_alloc _ (.cells #[.int .i64 b.node, .int .i64 b.epoch, .int .i64 b.seq] 23))).later (below_alloc _ (.cells #[.int .i64 c.node, .int .i64 c.epoch, .int .i64 c.seq] 23))
  have hcb := (cells_new (w.alloc (.cells #[.int .i64 a.node, .int .i64 a.epoch, .int .i64 a.seq] 23)) 23 b.vals #[.int .i64 b.node, .int .i64 b.epoch, .int .i64 b.seq] rfl).later (below_alloc _ (.cells #[.int .i64 c.node, .int .i64 c.epoch, .int .i64 c.seq] 23))
  have hcc := cells_new ((w.alloc (.cells #[.int .i64 a.node, .int .i64 a.epoch, .int .i64 a.seq] 23)).alloc (.cells #[.int .i64 b.node, .int .i64 b.epoch, .int .i64 b.seq] 23)) 23 c.vals #[.int .i64 c.node, .int .i64 c.epoch, .int .i64 c.seq] rfl
  rw [World.size_alloc] at hcb
  rw [World.size_alloc, World.size_alloc] at hcc
  have HBC := Lib.hid hbc
  have HCA := Lib.hid hca
  have HCB := Lib.hid hcb
  have HCC := Lib.hid hcc
  have HAB := Lib.hid (order_any a b)
  have HBA := Lib.hid (order_any b a)
  rw [hab] at HAB
  rw [hoba] at HBA
  clear hab hoba
  have HBCo := Lib.hid (order_any b c)
  have HAC := Lib.hid (order_any a c)
  clear hba hbb hbc hca hcb hcc
  obtain ⟨a1, a2, a3⟩ := a
  obtain ⟨b1, b2, b3⟩ := b
  obtain ⟨c1, c2, c3⟩ := c
  simp only at hd
  unfold Tid.val at *
  go_enter Try.func6, Try.ntmps6
  go_wp2_with fail
  refine (awake_any _).mono ?_
  rintro e w1 ⟨rfl, hb1⟩
  have HB1 := Lib.hid (HBC.out.trans (hb1.mono HBC.out.size))
  have ca := HCA.out.later hb1
  have cb := HCB.out.later hb1
  have cc := HCC.out.later hb1
  have HA1 := Lib.hid ca
  have HB1c := Lib.hid cb
  have HC1 := Lib.hid cc
  have x0 := ca.cell (j := 0) rfl
  have x1 := ca.cell (j := 1) rfl
  have x2 := ca.cell (j := 2) rfl
  have y0 := cb.cell (j := 0) rfl
  have y1 := cb.cell (j := 1) rfl
  have y2 := cb.cell (j := 2) rfl
  clear ca cb cc hb1
  go_wp2_with fail
  refine (HAB.out _).mono ?_
  rintro e w2 ⟨rfl, hb2⟩
  have HB2 := Lib.hid (HB1.out.trans (hb2.mono HB1.out.size))
  have HA2 := Lib.hid (HA1.out.later hb2)
  have HB2c := Lib.hid (HB1c.out.later hb2)
  have HC2 := Lib.hid (HC1.out.later hb2)
  clear x0 x1 x2 y0 y1 y2 hb2
  have x0 := HA2.out.cell (j := 0) rfl
  have x1 := HA2.out.cell (j := 1) rfl
  have x2 := HA2.out.cell (j := 2) rfl
  have y0 := HB2c.out.cell (j := 0) rfl
  have y1 := HB2c.out.cell (j := 1) rfl
  have y2 := HB2c.out.cell (j := 2) rfl
  go_wp2_with fail
  refine (HBA.out _).mono ?_
  rintro e w3 ⟨rfl, hb3⟩
  have HB3 := Lib.hid (HB2.out.trans (hb3.mono HB2.out.size))
  have HA3 := Lib.hid (HA2.out.later hb3)
  have HB3c := Lib.hid (HB2c.out.later hb3)
  have HC3 := Lib.hid (HC2.out.later hb3)
  clear x0 x1 x2 y0 y1 y2 hb3
  have x0 := HA3.out.cell (j := 0) rfl
  have x1 := HA3.out.cell (j := 1) rfl
  have x2 := HA3.out.cell (j := 2) rfl
  have y0 := HB3c.out.cell (j := 0) rfl
  have y1 := HB3c.out.cell (j := 1) rfl
  have y2 := HB3c.out.cell (j := 2) rfl
  have z0 := HC3.out.cell (j := 0) rfl
  have z1 := HC3.out.cell (j := 1) rfl
  have z2 := HC3.out.cell (j := 2) rfl
  obtain ⟨hd1, hd2⟩ := hd
  go_wp2_with fail
  refine (HBCo.out _).mono ?_
  rintro e w4 ⟨rfl, hb4⟩
  have HB4 := Lib.hid (HB3.out.trans (hb4.mono HB3.out.size))
  have HA4 := Lib.hid (HA3.out.later hb4)
  have HC4 := Lib.hid (HC3.out.later hb4)
  clear x0 x1 x2 y0 y1 y2 z0 z1 z2 hb4
  have x0 := HA4.out.cell (j := 0) rfl
  have x1 := HA4.out.cell (j := 1) rfl
  have x2 := HA4.out.cell (j := 2) rfl
  have z0 := HC4.out.cell (j := 0) rfl
  have z1 := HC4.out.cell (j := 1) rfl
  have z2 := HC4.out.cell (j := 2) rfl
  rcases hk with hk | hk | hk
  all_goals rw [hk]
  all_goals have HK := Lib.hid hk
  all_goals clear hk
  · go_wp2_with fail
    refine (HAC.out _).mono ?_
    rintro e w5 ⟨rfl, hb5⟩
    have HB5 := Lib.hid (HB4.out.trans (hb5.mono HB4.out.size))
    have hle := HT.out (by rw [HNN.out]; decide) (by rw [HK.out]; decide)
    rcases hl with hl | hl | hl
    · rw [hl]
      clear hl hle hb5
      go_wp2_with fail
      go_returns
      exact ⟨rfl, HB5.out⟩
    · rw [hl]
      clear hl hle hb5
      go_wp2_with fail
      go_returns
      exact ⟨rfl, HB5.out⟩
    · exfalso
      rw [hl] at hle
      exact absurd hle (by decide)
  · go_wp2_with fail
    refine (HAC.out _).mono ?_
    rintro e w5 ⟨rfl, hb5⟩
    have HB5 := Lib.hid (HB4.out.trans (hb5.mono HB4.out.size))
    have hle := HT.out (by rw [HNN.out]; decide) (by rw [HK.out]; decide)
    rcases hl with hl | hl | hl
    · rw [hl]
      clear hl hle hb5
      go_wp2_with fail
      go_returns
      exact ⟨rfl, HB5.out⟩
    · rw [hl]
      clear hl hle hb5
      go_wp2_with fail
      go_returns
      exact ⟨rfl, HB5.out⟩
    · exfalso
      rw [hl] at hle
      exact absurd hle (by decide)
  · go_wp2_with fail
    go_returns
    exact ⟨rfl, HB4.out⟩
set_option maxHeartbeats 400000 in
theorem walk_gt1 (a b c : Tid) (w : World) (hab : ord a b = 1) (hoba : ord b a = -1) (hd : (a.node == b.node) = true ∧ (a.epoch == b.epoch) = false) :
    Calls Try.prog 6 #[a.val, b.val, c.val] w fun e w' => e = .returned (.bool true) ∧ Below w.heap.size w w' := by
  have HNN := Lib.hid hab
  have hk := ord_vals b c
  have hl := ord_vals a c
  have HT := Lib.hid (fun h k => ord_trans (a := a) (b := b) (c := c) h k)
  have hba := below_alloc w (.cells #[.int .i64 a.node, .int .i64 a.epoch, .int .i64 a.seq] 23)
  have hbb := hba.alloc hba.size (.cells #[.int .i64 b.node, .int .i64 b.epoch, .int .i64 b.seq] 23)
  have hbc := hbb.alloc hbb.size (.cells #[.int .i64 c.node, .int .i64 c.epoch, .int .i64 c.seq] 23)
  have hca := ((cells_new w 23 a.vals #[.int .i64 a.node, .int .i64 a.epoch, .int .i64 a.seq] rfl).later (below_alloc _ (.cells #[.int .i64 b.node, .int .i64 b.epoch, .int .i64 b.seq] 23))).later (below_alloc _ (.cells #[.int .i64 c.node, .int .i64 c.epoch, .int .i64 c.seq] 23))
  have hcb := (cells_new (w.alloc (.cells #[.int .i64 a.node, .int .i64 a.epoch, .int .i64 a.seq] 23)) 23 b.vals #[.int .i64 b.node, .int .i64 b.epoch, .int .i64 b.seq] rfl).later (below_alloc _ (.cells #[.int .i64 c.node, .int .i64 c.epoch, .int .i64 c.seq] 23))
  have hcc := cells_new ((w.alloc (.cells #[.int .i64 a.node, .int .i64 a.epoch, .int .i64 a.seq] 23)).alloc (.cells #[.int .i64 b.node, .int .i64 b.epoch, .int .i64 b.seq] 23)) 23 c.vals #[.int .i64 c.node, .int .i64 c.epoch, .int .i64 c.seq] rfl
  rw [World.size_alloc] at hcb
  rw [World.size_alloc, World.size_alloc] at hcc
  have HBC := Lib.hid hbc
  have HCA := Lib.hid hca
  have HCB := Lib.hid hcb
  have HCC := Lib.hid hcc
  have HAB := Lib.hid (order_any a b)
  have HBA := Lib.hid (order_any b a)
  rw [hab] at HAB
  rw [hoba] at HBA
  clear hab hoba
  have HBCo := Lib.hid (order_any b c)
  have HAC := Lib.hid (order_any a c)
  clear hba hbb hbc hca hcb hcc
  obtain ⟨a1, a2, a3⟩ := a
  obtain ⟨b1, b2, b3⟩ := b
  obtain ⟨c1, c2, c3⟩ := c
  simp only at hd
  unfold Tid.val at *
  go_enter Try.func6, Try.ntmps6
  go_wp2_with fail
  refine (awake_any _).mono ?_
  rintro e w1 ⟨rfl, hb1⟩
  have HB1 := Lib.hid (HBC.out.trans (hb1.mono HBC.out.size))
  have ca := HCA.out.later hb1
  have cb := HCB.out.later hb1
  have cc := HCC.out.later hb1
  have HA1 := Lib.hid ca
  have HB1c := Lib.hid cb
  have HC1 := Lib.hid cc
  have x0 := ca.cell (j := 0) rfl
  have x1 := ca.cell (j := 1) rfl
  have x2 := ca.cell (j := 2) rfl
  have y0 := cb.cell (j := 0) rfl
  have y1 := cb.cell (j := 1) rfl
  have y2 := cb.cell (j := 2) rfl
  clear ca cb cc hb1
  go_wp2_with fail
  refine (HAB.out _).mono ?_
  rintro e w2 ⟨rfl, hb2⟩
  have HB2 := Lib.hid (HB1.out.trans (hb2.mono HB1.out.size))
  have HA2 := Lib.hid (HA1.out.later hb2)
  have HB2c := Lib.hid (HB1c.out.later hb2)
  have HC2 := Lib.hid (HC1.out.later hb2)
  clear x0 x1 x2 y0 y1 y2 hb2
  have x0 := HA2.out.cell (j := 0) rfl
  have x1 := HA2.out.cell (j := 1) rfl
  have x2 := HA2.out.cell (j := 2) rfl
  have y0 := HB2c.out.cell (j := 0) rfl
  have y1 := HB2c.out.cell (j := 1) rfl
  have y2 := HB2c.out.cell (j := 2) rfl
  go_wp2_with fail
  refine (HBA.out _).mono ?_
  rintro e w3 ⟨rfl, hb3⟩
  have HB3 := Lib.hid (HB2.out.trans (hb3.mono HB2.out.size))
  have HA3 := Lib.hid (HA2.out.later hb3)
  have HB3c := Lib.hid (HB2c.out.later hb3)
  have HC3 := Lib.hid (HC2.out.later hb3)
  clear x0 x1 x2 y0 y1 y2 hb3
  have x0 := HA3.out.cell (j := 0) rfl
  have x1 := HA3.out.cell (j := 1) rfl
  have x2 := HA3.out.cell (j := 2) rfl
  have y0 := HB3c.out.cell (j := 0) rfl
  have y1 := HB3c.out.cell (j := 1) rfl
  have y2 := HB3c.out.cell (j := 2) rfl
  have z0 := HC3.out.cell (j := 0) rfl
  have z1 := HC3.out.cell (j := 1) rfl
  have z2 := HC3.out.cell (j := 2) rfl
  obtain ⟨hd1, hd2⟩ := hd
  go_wp2_with fail
  go_returns
  exact ⟨rfl, HB3.out⟩
set_option maxHeartbeats 400000 in
theorem walk_lt2 (a b c : Tid) (w : World) (hab : ord a b = -1) (hoba : ord b a = 1) (hd : (a.node == b.node) = true ∧ (a.epoch == b.epoch) = true ∧ (a.seq == b.seq) = false) :
    Calls Try.prog 6 #[a.val, b.val, c.val] w fun e w' => e = .returned (.bool true) ∧ Below w.heap.size w w' := by
  have HNN := Lib.hid hab
  have hk := ord_vals b c
  have hl := ord_vals a c
  have HT := Lib.hid (fun h k => ord_trans (a := a) (b := b) (c := c) h k)
  have hba := below_alloc w (.cells #[.int .i64 a.node, .int .i64 a.epoch, .int .i64 a.seq] 23)
  have hbb := hba.alloc hba.size (.cells #[.int .i64 b.node, .int .i64 b.epoch, .int .i64 b.seq] 23)
  have hbc := hbb.alloc hbb.size (.cells #[.int .i64 c.node, .int .i64 c.epoch, .int .i64 c.seq] 23)
  have hca := ((cells_new w 23 a.vals #[.int .i64 a.node, .int .i64 a.epoch, .int .i64 a.seq] rfl).later (below_alloc _ (.cells #[.int .i64 b.node, .int .i64 b.epoch, .int .i64 b.seq] 23))).later (below_alloc _ (.cells #[.int .i64 c.node, .int .i64 c.epoch, .int .i64 c.seq] 23))
  have hcb := (cells_new (w.alloc (.cells #[.int .i64 a.node, .int .i64 a.epoch, .int .i64 a.seq] 23)) 23 b.vals #[.int .i64 b.node, .int .i64 b.epoch, .int .i64 b.seq] rfl).later (below_alloc _ (.cells #[.int .i64 c.node, .int .i64 c.epoch, .int .i64 c.seq] 23))
  have hcc := cells_new ((w.alloc (.cells #[.int .i64 a.node, .int .i64 a.epoch, .int .i64 a.seq] 23)).alloc (.cells #[.int .i64 b.node, .int .i64 b.epoch, .int .i64 b.seq] 23)) 23 c.vals #[.int .i64 c.node, .int .i64 c.epoch, .int .i64 c.seq] rfl
  rw [World.size_alloc] at hcb
  rw [World.size_alloc, World.size_alloc] at hcc
  have HBC := Lib.hid hbc
  have HCA := Lib.hid hca
  have HCB := Lib.hid hcb
  have HCC := Lib.hid hcc
  have HAB := Lib.hid (order_any a b)
  have HBA := Lib.hid (order_any b a)
  rw [hab] at HAB
  rw [hoba] at HBA
  clear hab hoba
  have HBCo := Lib.hid (order_any b c)
  have HAC := Lib.hid (order_any a c)
  clear hba hbb hbc hca hcb hcc
  obtain ⟨a1, a2, a3⟩ := a
  obtain ⟨b1, b2, b3⟩ := b
  obtain ⟨c1, c2, c3⟩ := c
  simp only at hd
  unfold Tid.val at *
  go_enter Try.func6, Try.ntmps6
  go_wp2_with fail
  refine (awake_any _).mono ?_
  rintro e w1 ⟨rfl, hb1⟩
  have HB1 := Lib.hid (HBC.out.trans (hb1.mono HBC.out.size))
  have ca := HCA.out.later hb1
  have cb := HCB.out.later hb1
  have cc := HCC.out.later hb1
  have HA1 := Lib.hid ca
  have HB1c := Lib.hid cb
  have HC1 := Lib.hid cc
  have x0 := ca.cell (j := 0) rfl
  have x1 := ca.cell (j := 1) rfl
  have x2 := ca.cell (j := 2) rfl
  have y0 := cb.cell (j := 0) rfl
  have y1 := cb.cell (j := 1) rfl
  have y2 := cb.cell (j := 2) rfl
  clear ca cb cc hb1
  go_wp2_with fail
  refine (HAB.out _).mono ?_
  rintro e w2 ⟨rfl, hb2⟩
  have HB2 := Lib.hid (HB1.out.trans (hb2.mono HB1.out.size))
  have HA2 := Lib.hid (HA1.out.later hb2)
  have HB2c := Lib.hid (HB1c.out.later hb2)
  have HC2 := Lib.hid (HC1.out.later hb2)
  clear x0 x1 x2 y0 y1 y2 hb2
  have x0 := HA2.out.cell (j := 0) rfl
  have x1 := HA2.out.cell (j := 1) rfl
  have x2 := HA2.out.cell (j := 2) rfl
  have y0 := HB2c.out.cell (j := 0) rfl
  have y1 := HB2c.out.cell (j := 1) rfl
  have y2 := HB2c.out.cell (j := 2) rfl
  go_wp2_with fail
  refine (HBA.out _).mono ?_
  rintro e w3 ⟨rfl, hb3⟩
  have HB3 := Lib.hid (HB2.out.trans (hb3.mono HB2.out.size))
  have HA3 := Lib.hid (HA2.out.later hb3)
  have HB3c := Lib.hid (HB2c.out.later hb3)
  have HC3 := Lib.hid (HC2.out.later hb3)
  clear x0 x1 x2 y0 y1 y2 hb3
  have x0 := HA3.out.cell (j := 0) rfl
  have x1 := HA3.out.cell (j := 1) rfl
  have x2 := HA3.out.cell (j := 2) rfl
  have y0 := HB3c.out.cell (j := 0) rfl
  have y1 := HB3c.out.cell (j := 1) rfl
  have y2 := HB3c.out.cell (j := 2) rfl
  have z0 := HC3.out.cell (j := 0) rfl
  have z1 := HC3.out.cell (j := 1) rfl
  have z2 := HC3.out.cell (j := 2) rfl
  obtain ⟨hd1, hd2, hd3⟩ := hd
  go_wp2_with fail
  refine (HBCo.out _).mono ?_
  rintro e w4 ⟨rfl, hb4⟩
  have HB4 := Lib.hid (HB3.out.trans (hb4.mono HB3.out.size))
  have HA4 := Lib.hid (HA3.out.later hb4)
  have HC4 := Lib.hid (HC3.out.later hb4)
  clear x0 x1 x2 y0 y1 y2 z0 z1 z2 hb4
  have x0 := HA4.out.cell (j := 0) rfl
  have x1 := HA4.out.cell (j := 1) rfl
  have x2 := HA4.out.cell (j := 2) rfl
  have z0 := HC4.out.cell (j := 0) rfl
  have z1 := HC4.out.cell (j := 1) rfl
  have z2 := HC4.out.cell (j := 2) rfl
  rcases hk with hk | hk | hk
  all_goals rw [hk]
  all_goals have HK := Lib.hid hk
  all_goals clear hk
  · go_wp2_with fail
    refine (HAC.out _).mono ?_
    rintro e w5 ⟨rfl, hb5⟩
    have HB5 := Lib.hid (HB4.out.trans (hb5.mono HB4.out.size))
    have hle := HT.out (by rw [HNN.out]; decide) (by rw [HK.out]; decide)
    rcases hl with hl | hl | hl
    · rw [hl]
      clear hl hle hb5
      go_wp2_with fail
      go_returns
      exact ⟨rfl, HB5.out⟩
    · rw [hl]
      clear hl hle hb5
      go_wp2_with fail
      go_returns
      exact ⟨rfl, HB5.out⟩
    · exfalso
      rw [hl] at hle
      exact absurd hle (by decide)
  · go_wp2_with fail
    refine (HAC.out _).mono ?_
    rintro e w5 ⟨rfl, hb5⟩
    have HB5 := Lib.hid (HB4.out.trans (hb5.mono HB4.out.size))
    have hle := HT.out (by rw [HNN.out]; decide) (by rw [HK.out]; decide)
    rcases hl with hl | hl | hl
    · rw [hl]
      clear hl hle hb5
      go_wp2_with fail
      go_returns
      exact ⟨rfl, HB5.out⟩
    · rw [hl]
      clear hl hle hb5
      go_wp2_with fail
      go_returns
      exact ⟨rfl, HB5.out⟩
    · exfalso
      rw [hl] at hle
      exact absurd hle (by decide)
  · go_wp2_with fail
    go_returns
    exact ⟨rfl, HB4.out⟩
set_option maxHeartbeats 400000 in
theorem walk_gt2 (a b c : Tid) (w : World) (hab : ord a b = 1) (hoba : ord b a = -1) (hd : (a.node == b.node) = true ∧ (a.epoch == b.epoch) = true ∧ (a.seq == b.seq) = false) :
    Calls Try.prog 6 #[a.val, b.val, c.val] w fun e w' => e = .returned (.bool true) ∧ Below w.heap.size w w' := by
  have HNN := Lib.hid hab
  have hk := ord_vals b c
  have hl := ord_vals a c
  have HT := Lib.hid (fun h k => ord_trans (a := a) (b := b) (c := c) h k)
  have hba := below_alloc w (.cells #[.int .i64 a.node, .int .i64 a.epoch, .int .i64 a.seq] 23)
  have hbb := hba.alloc hba.size (.cells #[.int .i64 b.node, .int .i64 b.epoch, .int .i64 b.seq] 23)
  have hbc := hbb.alloc hbb.size (.cells #[.int .i64 c.node, .int .i64 c.epoch, .int .i64 c.seq] 23)
  have hca := ((cells_new w 23 a.vals #[.int .i64 a.node, .int .i64 a.epoch, .int .i64 a.seq] rfl).later (below_alloc _ (.cells #[.int .i64 b.node, .int .i64 b.epoch, .int .i64 b.seq] 23))).later (below_alloc _ (.cells #[.int .i64 c.node, .int .i64 c.epoch, .int .i64 c.seq] 23))
  have hcb := (cells_new (w.alloc (.cells #[.int .i64 a.node, .int .i64 a.epoch, .int .i64 a.seq] 23)) 23 b.vals #[.int .i64 b.node, .int .i64 b.epoch, .int .i64 b.seq] rfl).later (below_alloc _ (.cells #[.int .i64 c.node, .int .i64 c.epoch, .int .i64 c.seq] 23))
  have hcc := cells_new ((w.alloc (.cells #[.int .i64 a.node, .int .i64 a.epoch, .int .i64 a.seq] 23)).alloc (.cells #[.int .i64 b.node, .int .i64 b.epoch, .int .i64 b.seq] 23)) 23 c.vals #[.int .i64 c.node, .int .i64 c.epoch, .int .i64 c.seq] rfl
  rw [World.size_alloc] at hcb
  rw [World.size_alloc, World.size_alloc] at hcc
  have HBC := Lib.hid hbc
  have HCA := Lib.hid hca
  have HCB := Lib.hid hcb
  have HCC := Lib.hid hcc
  have HAB := Lib.hid (order_any a b)
  have HBA := Lib.hid (order_any b a)
  rw [hab] at HAB
  rw [hoba] at HBA
  clear hab hoba
  have HBCo := Lib.hid (order_any b c)
  have HAC := Lib.hid (order_any a c)
  clear hba hbb hbc hca hcb hcc
  obtain ⟨a1, a2, a3⟩ := a
  obtain ⟨b1, b2, b3⟩ := b
  obtain ⟨c1, c2, c3⟩ := c
  simp only at hd
  unfold Tid.val at *
  go_enter Try.func6, Try.ntmps6
  go_wp2_with fail
  refine (awake_any _).mono ?_
  rintro e w1 ⟨rfl, hb1⟩
  have HB1 := Lib.hid (HBC.out.trans (hb1.mono HBC.out.size))
  have ca := HCA.out.later hb1
  have cb := HCB.out.later hb1
  have cc := HCC.out.later hb1
  have HA1 := Lib.hid ca
  have HB1c := Lib.hid cb
  have HC1 := Lib.hid cc
  have x0 := ca.cell (j := 0) rfl
  have x1 := ca.cell (j := 1) rfl
  have x2 := ca.cell (j := 2) rfl
  have y0 := cb.cell (j := 0) rfl
  have y1 := cb.cell (j := 1) rfl
  have y2 := cb.cell (j := 2) rfl
  clear ca cb cc hb1
  go_wp2_with fail
  refine (HAB.out _).mono ?_
  rintro e w2 ⟨rfl, hb2⟩
  have HB2 := Lib.hid (HB1.out.trans (hb2.mono HB1.out.size))
  have HA2 := Lib.hid (HA1.out.later hb2)
  have HB2c := Lib.hid (HB1c.out.later hb2)
  have HC2 := Lib.hid (HC1.out.later hb2)
  clear x0 x1 x2 y0 y1 y2 hb2
  have x0 := HA2.out.cell (j := 0) rfl
  have x1 := HA2.out.cell (j := 1) rfl
  have x2 := HA2.out.cell (j := 2) rfl
  have y0 := HB2c.out.cell (j := 0) rfl
  have y1 := HB2c.out.cell (j := 1) rfl
  have y2 := HB2c.out.cell (j := 2) rfl
  go_wp2_with fail
  refine (HBA.out _).mono ?_
  rintro e w3 ⟨rfl, hb3⟩
  have HB3 := Lib.hid (HB2.out.trans (hb3.mono HB2.out.size))
  have HA3 := Lib.hid (HA2.out.later hb3)
  have HB3c := Lib.hid (HB2c.out.later hb3)
  have HC3 := Lib.hid (HC2.out.later hb3)
  clear x0 x1 x2 y0 y1 y2 hb3
  have x0 := HA3.out.cell (j := 0) rfl
  have x1 := HA3.out.cell (j := 1) rfl
  have x2 := HA3.out.cell (j := 2) rfl
  have y0 := HB3c.out.cell (j := 0) rfl
  have y1 := HB3c.out.cell (j := 1) rfl
  have y2 := HB3c.out.cell (j := 2) rfl
  have z0 := HC3.out.cell (j := 0) rfl
  have z1 := HC3.out.cell (j := 1) rfl
  have z2 := HC3.out.cell (j := 2) rfl
  obtain ⟨hd1, hd2, hd3⟩ := hd
  go_wp2_with fail
  go_returns
  exact ⟨rfl, HB3.out⟩
set_option maxHeartbeats 400000 in
theorem walk_eq (a b c : Tid) (w : World) (hab : ord a b = 0) (hoba : ord b a = 0) (hd : (a.node == b.node) = true ∧ (a.epoch == b.epoch) = true ∧ (a.seq == b.seq) = true) :
    Calls Try.prog 6 #[a.val, b.val, c.val] w fun e w' => e = .returned (.bool true) ∧ Below w.heap.size w w' := by
  have HNN := Lib.hid hab
  have hk := ord_vals b c
  have hl := ord_vals a c
  have HT := Lib.hid (fun h k => ord_trans (a := a) (b := b) (c := c) h k)
  have hba := below_alloc w (.cells #[.int .i64 a.node, .int .i64 a.epoch, .int .i64 a.seq] 23)
  have hbb := hba.alloc hba.size (.cells #[.int .i64 b.node, .int .i64 b.epoch, .int .i64 b.seq] 23)
  have hbc := hbb.alloc hbb.size (.cells #[.int .i64 c.node, .int .i64 c.epoch, .int .i64 c.seq] 23)
  have hca := ((cells_new w 23 a.vals #[.int .i64 a.node, .int .i64 a.epoch, .int .i64 a.seq] rfl).later (below_alloc _ (.cells #[.int .i64 b.node, .int .i64 b.epoch, .int .i64 b.seq] 23))).later (below_alloc _ (.cells #[.int .i64 c.node, .int .i64 c.epoch, .int .i64 c.seq] 23))
  have hcb := (cells_new (w.alloc (.cells #[.int .i64 a.node, .int .i64 a.epoch, .int .i64 a.seq] 23)) 23 b.vals #[.int .i64 b.node, .int .i64 b.epoch, .int .i64 b.seq] rfl).later (below_alloc _ (.cells #[.int .i64 c.node, .int .i64 c.epoch, .int .i64 c.seq] 23))
  have hcc := cells_new ((w.alloc (.cells #[.int .i64 a.node, .int .i64 a.epoch, .int .i64 a.seq] 23)).alloc (.cells #[.int .i64 b.node, .int .i64 b.epoch, .int .i64 b.seq] 23)) 23 c.vals #[.int .i64 c.node, .int .i64 c.epoch, .int .i64 c.seq] rfl
  rw [World.size_alloc] at hcb
  rw [World.size_alloc, World.size_alloc] at hcc
  have HBC := Lib.hid hbc
  have HCA := Lib.hid hca
  have HCB := Lib.hid hcb
  have HCC := Lib.hid hcc
  have HAB := Lib.hid (order_any a b)
  have HBA := Lib.hid (order_any b a)
  rw [hab] at HAB
  rw [hoba] at HBA
  clear hab hoba
  have HBCo := Lib.hid (order_any b c)
  have HAC := Lib.hid (order_any a c)
  clear hba hbb hbc hca hcb hcc
  obtain ⟨a1, a2, a3⟩ := a
  obtain ⟨b1, b2, b3⟩ := b
  obtain ⟨c1, c2, c3⟩ := c
  simp only at hd
  unfold Tid.val at *
  go_enter Try.func6, Try.ntmps6
  go_wp2_with fail
  refine (awake_any _).mono ?_
  rintro e w1 ⟨rfl, hb1⟩
  have HB1 := Lib.hid (HBC.out.trans (hb1.mono HBC.out.size))
  have ca := HCA.out.later hb1
  have cb := HCB.out.later hb1
  have cc := HCC.out.later hb1
  have HA1 := Lib.hid ca
  have HB1c := Lib.hid cb
  have HC1 := Lib.hid cc
  have x0 := ca.cell (j := 0) rfl
  have x1 := ca.cell (j := 1) rfl
  have x2 := ca.cell (j := 2) rfl
  have y0 := cb.cell (j := 0) rfl
  have y1 := cb.cell (j := 1) rfl
  have y2 := cb.cell (j := 2) rfl
  clear ca cb cc hb1
  go_wp2_with fail
  refine (HAB.out _).mono ?_
  rintro e w2 ⟨rfl, hb2⟩
  have HB2 := Lib.hid (HB1.out.trans (hb2.mono HB1.out.size))
  have HA2 := Lib.hid (HA1.out.later hb2)
  have HB2c := Lib.hid (HB1c.out.later hb2)
  have HC2 := Lib.hid (HC1.out.later hb2)
  clear x0 x1 x2 y0 y1 y2 hb2
  have x0 := HA2.out.cell (j := 0) rfl
  have x1 := HA2.out.cell (j := 1) rfl
  have x2 := HA2.out.cell (j := 2) rfl
  have y0 := HB2c.out.cell (j := 0) rfl
  have y1 := HB2c.out.cell (j := 1) rfl
  have y2 := HB2c.out.cell (j := 2) rfl
  go_wp2_with fail
  refine (HBA.out _).mono ?_
  rintro e w3 ⟨rfl, hb3⟩
  have HB3 := Lib.hid (HB2.out.trans (hb3.mono HB2.out.size))
  have HA3 := Lib.hid (HA2.out.later hb3)
  have HB3c := Lib.hid (HB2c.out.later hb3)
  have HC3 := Lib.hid (HC2.out.later hb3)
  clear x0 x1 x2 y0 y1 y2 hb3
  have x0 := HA3.out.cell (j := 0) rfl
  have x1 := HA3.out.cell (j := 1) rfl
  have x2 := HA3.out.cell (j := 2) rfl
  have y0 := HB3c.out.cell (j := 0) rfl
  have y1 := HB3c.out.cell (j := 1) rfl
  have y2 := HB3c.out.cell (j := 2) rfl
  have z0 := HC3.out.cell (j := 0) rfl
  have z1 := HC3.out.cell (j := 1) rfl
  have z2 := HC3.out.cell (j := 2) rfl
  obtain ⟨hd1, hd2, hd3⟩ := hd
  go_wp2_with fail
  refine (HBCo.out _).mono ?_
  rintro e w4 ⟨rfl, hb4⟩
  have HB4 := Lib.hid (HB3.out.trans (hb4.mono HB3.out.size))
  have HA4 := Lib.hid (HA3.out.later hb4)
  have HC4 := Lib.hid (HC3.out.later hb4)
  clear x0 x1 x2 y0 y1 y2 z0 z1 z2 hb4
  have x0 := HA4.out.cell (j := 0) rfl
  have x1 := HA4.out.cell (j := 1) rfl
  have x2 := HA4.out.cell (j := 2) rfl
  have z0 := HC4.out.cell (j := 0) rfl
  have z1 := HC4.out.cell (j := 1) rfl
  have z2 := HC4.out.cell (j := 2) rfl
  rcases hk with hk | hk | hk
  all_goals rw [hk]
  all_goals have HK := Lib.hid hk
  all_goals clear hk
  · go_wp2_with fail
    refine (HAC.out _).mono ?_
    rintro e w5 ⟨rfl, hb5⟩
    have HB5 := Lib.hid (HB4.out.trans (hb5.mono HB4.out.size))
    have hle := HT.out (by rw [HNN.out]; decide) (by rw [HK.out]; decide)
    rcases hl with hl | hl | hl
    · rw [hl]
      clear hl hle hb5
      go_wp2_with fail
      go_returns
      exact ⟨rfl, HB5.out⟩
    · rw [hl]
      clear hl hle hb5
      go_wp2_with fail
      go_returns
      exact ⟨rfl, HB5.out⟩
    · exfalso
      rw [hl] at hle
      exact absurd hle (by decide)
  · go_wp2_with fail
    refine (HAC.out _).mono ?_
    rintro e w5 ⟨rfl, hb5⟩
    have HB5 := Lib.hid (HB4.out.trans (hb5.mono HB4.out.size))
    have hle := HT.out (by rw [HNN.out]; decide) (by rw [HK.out]; decide)
    rcases hl with hl | hl | hl
    · rw [hl]
      clear hl hle hb5
      go_wp2_with fail
      go_returns
      exact ⟨rfl, HB5.out⟩
    · rw [hl]
      clear hl hle hb5
      go_wp2_with fail
      go_returns
      exact ⟨rfl, HB5.out⟩
    · exfalso
      rw [hl] at hle
      exact absurd hle (by decide)
  · go_wp2_with fail
    go_returns
    exact ⟨rfl, HB4.out⟩
theorem walk (a b c : Tid) (w : World) :
    Calls Try.prog 6 #[a.val, b.val, c.val] w fun e w' => e = .returned (.bool true) ∧ Below w.heap.size w w' := by
  have hne : a ≠ b → (a.node == b.node) = false ∨ ((a.node == b.node) = true ∧ (a.epoch == b.epoch) = false) ∨ ((a.node == b.node) = true ∧ (a.epoch == b.epoch) = true ∧ (a.seq == b.seq) = false) := by
    intro h
    obtain ⟨a1, a2, a3⟩ := a
    obtain ⟨b1, b2, b3⟩ := b
    by_cases e1 : a1 = b1
    · by_cases e2 : a2 = b2
      · by_cases e3 : a3 = b3
        · subst e1; subst e2; subst e3; exact absurd rfl h
        · exact Or.inr (Or.inr (by simp [e1, e2, e3]))
      · exact Or.inr (Or.inl (by simp [e1, e2]))
    · exact Or.inl (by simp [e1])
  have hn := ord_neg a b
  rcases ord_cases a b with ⟨h, k⟩ | ⟨h, k⟩ | ⟨h, k⟩
  · have hba : ord b a = 1 := by omega
    rcases hne (fun e => by subst e; exact tlt_irrefl _ k) with hd | hd | hd
    · exact walk_lt0 a b c w h hba hd
    · exact walk_lt1 a b c w h hba hd
    · exact walk_lt2 a b c w h hba hd
  · subst k
    exact walk_eq a a c w h h (by simp)
  · have hba : ord b a = -1 := by omega
    rcases hne (fun e => by subst e; exact tlt_irrefl _ k) with hd | hd | hd
    · exact walk_gt0 a b c w h hba hd
    · exact walk_gt1 a b c w h hba hd
    · exact walk_gt2 a b c w h hba hd

theorem opened {H : Type} {enc : TypeId × Value → H} {W : World} {base : Nat} {gs : List (DataW H)} (v0 : Value) (d0 : DataW H) (p0 : List MemPlace) (v1 : Value) (d1 : DataW H) (p1 : List MemPlace) (v2 : Value) (d2 : DataW H) (p2 : List MemPlace)
    (o0 : Value.okWide Try.prog W .any base 23 v0) (t0 : DataW.Trod enc Try.prog W 0 (fun _ => true) true 23 v0 d0 p0)
    (o1 : Value.okWide Try.prog W .any base 23 v1) (t1 : DataW.Trod enc Try.prog W 0 (fun _ => true) true 23 v1 d1 p1)
    (o2 : Value.okWide Try.prog W .any base 23 v2) (t2 : DataW.Trod enc Try.prog W 0 (fun _ => true) true 23 v2 d2 p2)
    (_hsz : (DataW.weightsEach Try.prog ([23, 23, 23] ++ []) ([d0, d1, d2] ++ gs)).all (· ≤ reachBytes) = true) :
    Calls Try.prog 6 #[v0, v1, v2] W fun e W' => e = .returned (.bool true) ∧ Below W.heap.size W W' := by
  obtain ⟨a, rfl, _⟩ := open_tid o0 t0
  obtain ⟨b, rfl, _⟩ := open_tid o1 t1
  obtain ⟨c, rfl, _⟩ := open_tid o2 t2
  exact walk a b c W

theorem contract (H : Type) (enc : TypeId × Value → H) (W : World) (base : Nat) (args : Array Value) (ds gs : List (DataW H)) (before : List MemPlace)
    (hval : ∀ (j : Nat) t v, Try.f6.params[j]? = some t → args[j]? = some v → Value.okWide Try.prog W .any base t v)
    (hW : DataW.Whole enc Try.prog Try.f6.params.toList Rows.itemOrdersSpec.vars false W args.toList ds gs before)
    (hsz : (DataW.weightsEach Try.prog (Try.f6.params.toList ++ []) (ds ++ gs)).all (· ≤ reachBytes) = true) :
    Calls Try.prog 6 args W fun e W' => ∃ v, e = .returned v ∧ Rows.itemOrdersSpec.post enc Try.prog Try.f6 false true false false W args v W' := by
  have hW0 := hW
  obtain ⟨p, q, hA0, hV, rfl, _, _⟩ := hW
  have hA : DataW.TrodAll enc Try.prog W 0 (fun _ => true) true Try.f6.params.toList args.toList ds p := hA0
  rw [Try.params6] at hA hval hsz
  obtain ⟨v0, vs0, d0, ds0, p0, q0, hargs, rfl, rfl, h0, r0⟩ := trodAll_cons hA
  obtain ⟨v1, vs1, d1, ds1, p1, q1, rfl, rfl, rfl, h1, r1⟩ := trodAll_cons r0
  obtain ⟨v2, vs2, d2, ds2, p2, q2, rfl, rfl, rfl, h2, r2⟩ := trodAll_cons r1
  obtain ⟨rfl, rfl, rfl⟩ := trodAll_nil r2
  obtain rfl : args = #[v0, v1, v2] := by cases args; simp_all
  refine (opened v0 d0 p0 v1 d1 p1 v2 d2 p2 (hval 0 23 v0 rfl rfl) h0 (hval 1 23 v1 rfl rfl) h1 (hval 2 23 v2 rfl rfl) h2 hsz).mono fun e W' ⟨he, hb⟩ => ⟨_, he, ?_⟩
  exact Base.law_post (tb := 4) Base.laidOut (by kernel_rfl) rfl Try.underlying4 rfl (fun l hl => by
    rw [Try.params6] at hl
    match l, hl with
    | [_, _, _], _ => rfl) (by rw [Try.params6]; rfl) hW0 hb

theorem laid_met (os : Os) : laidMet Try.prog Rows.itemOrdersRow.laid ((Base.plainWorld os).forCall (fun _ _ => 0) ⟨#[], #[.agg #[.int .i64 0, .int .i64 0, .int .i64 0], .agg #[.int .i64 0, .int .i64 0, .int .i64 0], .agg #[.int .i64 0, .int .i64 0, .int .i64 0]], []⟩).memory := laidMet_nil _ _
theorem reads (os : Os) {H : Type} (enc : TypeId × Value → H) : ∃ places, DataW.whole enc Try.prog ((Base.plainWorld os).forCall (fun _ _ => 0) ⟨#[], #[.agg #[.int .i64 0, .int .i64 0, .int .i64 0], .agg #[.int .i64 0, .int .i64 0, .int .i64 0], .agg #[.int .i64 0, .int .i64 0, .int .i64 0]], []⟩).memory Try.f6.params.toList Rows.itemOrdersSpec.vars false (#[.agg #[.int .i64 0, .int .i64 0, .int .i64 0], .agg #[.int .i64 0, .int .i64 0, .int .i64 0], .agg #[.int .i64 0, .int .i64 0, .int .i64 0]] : Array Value).toList 8 = some ([.agg [.lit (.int .i64 0), .lit (.int .i64 0), .lit (.int .i64 0)], .agg [.lit (.int .i64 0), .lit (.int .i64 0), .lit (.int .i64 0)], .agg [.lit (.int .i64 0), .lit (.int .i64 0), .lit (.int .i64 0)]], [], places) :=
  ⟨[], by kernel_rfl⟩

set_option maxRecDepth 100000 in
theorem lifted (os : Os) (started : os.Started) (H : Type) (enc : TypeId × Value → H) (F : Stop.Interp) :
    ReturnsInHanded {} Try.checked os 6 .any ((OpenSpec.ofChange Rows.itemOrdersSpec).preRow enc Try.prog Try.f6 Rows.itemOrdersRow.domain false Rows.itemOrdersRow.laid) (((OpenSpec.ofChange Rows.itemOrdersSpec).at F).post enc Try.prog Try.f6 false true false false) := by
  obtain ⟨places, hx⟩ := reads os enc
  refine returnsInHanded_of_row (C := Try.checked) (s := OpenSpec.ofChange Rows.itemOrdersSpec) Base.own started (by kernel_rfl) Try.func6
    (witness_row_at (enc := enc) (C := Try.checked) false (Base.plainWorld os) #[.agg #[.int .i64 0, .int .i64 0, .int .i64 0], .agg #[.int .i64 0, .int .i64 0, .int .i64 0], .agg #[.int .i64 0, .int .i64 0, .int .i64 0]] rfl (by kernel_rfl) (by kernel_rfl) (by kernel_rfl)
      (OpenSpec.preRow_of_cond 8 hx (by kernel_rfl) (fun k hk => by cases hk) (by kernel_rfl) (laid_met os))) ?_
  intro W base args ds gs before hval hW _ _ hsz _ _ _
  exact contract H enc W base args ds gs before hval hW hsz

theorem said : Rows.ItemOrdersSaid :=
  OpenClaim.holds_of_cond 6 Try.f6 rfl rfl rfl rfl rfl rfl rfl ⟨rfl, rfl, rfl, rfl, rfl⟩ rfl rfl rfl rfl rfl (by kernel_rfl) Try.func6 (by kernel_rfl)
    (of_decide_eq_true (by kernel_rfl)) (by unfold Func.isWrapper; rw [if_neg (of_decide_eq_false (by kernel_rfl))]; exact ⟨rfl, rfl⟩)
    (fun os started H enc _ F => by rw [OpenClaim.pre_eq_preRow]; exact lifted os started H enc F)
#print axioms said
end Go.Proofs.Ytphgnglbniclgaa.ItemOrders
