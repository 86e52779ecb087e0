/-
  What the landed code of layer 4 does: a disk in memory, and each of its methods but Append (DiskImpl). Conditions: none.
-/
import Derived.Test.YtfdhckfpkhoheaaDoorDiskCode
import Derived.Test.YtfdhckfpkhoheaaDoorReg2
import Derived.Test.YtfdhckfpkhoheaaDoorJoin
import Derived.Lib.AppendStr
import Derived.IntWalk
import Derived.WalkSpells
namespace Go.Proofs.YtfdhckfpkhoheaaDoor.Disk
open Go.RowKit Go.Proofs.YtfdhckfpkhoheaaDoor.Mem

/-- The cells of a disk in block g, whose row is v. -/
def Box (w : World) (g : Nat) (v : Value) (d : Ds) : Prop :=
  ∃ fl : Int, (0 ≤ d.fuse → fl = d.fuse) ∧ Cells w g 43 [.bool (decide (0 ≤ d.fuse)), .int .i64 fl, .bool d.down, .int .i64 (d.size : Int), v, .int .i64 (d.safe : Int)]
/-- A disk in block g, its bytes in block r. -/
def Dk (w : World) (base g : Nat) (r : Option Nat) (d : Ds) : Prop :=
  ∃ v, v.ownBlock = r ∧ r ≠ some g ∧ base ≤ g ∧ Box w g v d ∧ w.ownsRow base 5 1 v d.b.length (d.b.map bv)
theorem Box.lt {w : World} {g : Nat} {v : Value} {d : Ds} (h : Box w g v d) : g < w.heap.size := by
  obtain ⟨fl, _, hc⟩ := h
  exact hc.lt
theorem Box.only {S : Nat → Prop} {w w' : World} {g : Nat} {v : Value} {d : Ds} (h : Box w g v d) (ho : Only S w w') (hg : ¬ S g) : Box w' g v d := by
  obtain ⟨fl, hf, hc⟩ := h
  exact ⟨fl, hf, cells_only hc ho hg⟩
theorem Dk.own {w : World} {base g : Nat} {r : Option Nat} {d : Ds} (h : Dk w base g r d) : base ≤ g ∧ ∀ k, r = some k → base ≤ k := by
  obtain ⟨v, rfl, _, hg, _, ho⟩ := h
  exact ⟨hg, fun k hk => (ho.lt k hk).1⟩
theorem Dk.lt {w : World} {base g : Nat} {r : Option Nat} {d : Ds} (h : Dk w base g r d) : g < w.heap.size ∧ ∀ k, r = some k → k < w.heap.size := by
  obtain ⟨v, rfl, _, hg, hc, ho⟩ := h
  exact ⟨hc.lt, fun k hk => (ho.lt k hk).2⟩
theorem Dk.only {S : Nat → Prop} {w w' : World} {base g : Nat} {r : Option Nat} {d : Ds} (h : Dk w base g r d) (ho : Only S w w') (hg : ¬ S g) (hr : ∀ k, r = some k → ¬ S k) : Dk w' base g r d := by
  obtain ⟨v, rfl, h1, h2, hc, hw⟩ := h
  exact ⟨v, rfl, h1, h2, hc.only ho hg, row_only hw ho hr⟩
/-- Where only the disk's own block has turned. -/
theorem Dk.turn {w w' : World} {base g : Nat} {r : Option Nat} {d d' : Ds} (h : Dk w base g r d) (ho : Only (fun k => k = g) w w') (hb : d'.b = d.b) (hx : ∀ v, Box w g v d → Box w' g v d') : Dk w' base g r d' ∧ Turn w w' g r r := by
  obtain ⟨v, rfl, h1, h2, hc, hw⟩ := h
  refine ⟨⟨v, rfl, h1, h2, hx v hc, ?_⟩, ho.mono fun k _ hk => Or.inl hk, fun k hk => Or.inl hk.symm⟩
  rw [hb]
  exact row_only hw ho fun k hk e => h1 (by rw [hk, e])
/-- A row's form. -/
theorem row_forms {w : World} {base : Nat} {e : TypeId} {v : Value} {n : Nat} {xs : List Value} (h : w.ownsRow base e 1 v n xs) :
    (v = .slice none 0 0 ∧ n = 0) ∨ ∃ k cap, v = .slice (some ⟨k, 0, none⟩) n cap ∧ n ≤ cap := by
  rcases h.2 with ⟨rfl, h0⟩ | ⟨k, cap, cur, rfl, _, _, h1, _⟩
  · exact .inl ⟨rfl, h0⟩
  · exact .inr ⟨k, cap, rfl, h1⟩
/-- A row's beginning. -/
theorem row_take {w : World} {base : Nat} {e : TypeId} {k cap n m : Nat} {xs : List Value} (h : w.ownsRow base e 1 (.slice (some ⟨k, 0, none⟩) n cap) n xs) (hm : m ≤ n) : w.ownsRow base e 1 (.slice (some ⟨k, 0, none⟩) m cap) m (xs.take m) := by
  obtain ⟨hl, h⟩ := h
  refine ⟨by rw [List.length_take]; omega, .inr ?_⟩
  rcases h with ⟨hx, _⟩ | ⟨k', cap', cur, hx, hb, hg, h1, h2, h3, h4⟩
  · cases hx
  · injection hx with ha _ hc
    injection ha with ha
    injection ha with ha
    subst ha; subst hc
    refine ⟨k, cap, cur, rfl, hb, hg, by omega, h2, h3, ?_⟩
    rw [← h4, List.take_take, Nat.mul_one, Nat.mul_one, Nat.min_eq_left hm]
/-- A row cut. -/
theorem row_cut {w : World} {base : Nat} {e : TypeId} {A : Option Addr} {c n m : Nat} {xs : List Value} (h : w.ownsRow base e 1 (.slice A n c) n xs) (hm : m ≤ n) :
    w.ownsRow base e 1 (.slice A m c) m (xs.take m) ∧ (Value.slice A m c).ownBlock = (Value.slice A n c).ownBlock ∧ m ≤ c := by
  have hl := h.1
  rcases row_forms h with ⟨h5, h6⟩ | ⟨k, cap, h5, h6⟩
  · injection h5 with h7 _ h8
    obtain rfl : m = 0 := by omega
    subst h7; subst h8
    exact ⟨World.ownsRow_nil _ _ _ _, rfl, Nat.le_refl _⟩
  · injection h5 with h7 _ h8
    subst h7; subst h8
    exact ⟨row_take h hm, rfl, by omega⟩

theorem new_any (n : Int) (w : World) (base : Nat) (hb : base ≤ w.heap.size) :
    Calls Tryd.prog 6 #[.int .i64 n] w fun e w' => (if n < 0 ∨ 1048576 < n then e = .returned (.tuple #[.pointer none, .int .i64 1]) else ∃ g r, e = .returned (.tuple #[at_ g, .int .i64 0]) ∧ Dk w' base g r (empty n.toNat) ∧ w.heap.size ≤ g ∧ ∀ k, r = some k → w.heap.size ≤ k) ∧ Below w.heap.size w w' := by
  by_cases h0 : n < 0
  · go_enter Tryd.func6, Tryd.ntmps6
    go_wp2_with fail
    go_returns
    exact ⟨rfl, Below.refl _ _⟩
  by_cases h1 : 1048576 < n
  · go_enter Tryd.func6, Tryd.ntmps6
    go_wp2_with fail
    go_returns
    exact ⟨rfl, Below.refl _ _⟩
  · have hn : ¬ (n < 0 ∨ 1048576 < n) := by omega
    go_enter Tryd.func6, Tryd.ntmps6
    go_wp2_with fail
    go_returns
    have hx : ((n.toNat : Nat) : Int) = n := by omega
    refine ⟨⟨w.heap.size, rfl, none, ⟨.slice none 0 0, rfl, by simp, hb, ⟨0, ?_, ?_⟩, World.ownsRow_nil _ _ _ _⟩, Nat.le_refl _, fun k hk => by cases hk⟩, below_alloc _ _⟩
    · intro h
      exact absurd (show (0 : Int) ≤ -1 from h) (by decide)
    · refine cells_new w _ _ _ ?_
      show _ = [Value.bool (decide (0 ≤ (empty n.toNat).fuse)), _, Value.bool (empty n.toNat).down, Value.int .i64 ((empty n.toNat).size : Int), _, Value.int .i64 ((empty n.toNat).safe : Int)]
      show _ = [Value.bool (decide ((0 : Int) ≤ -1)), _, Value.bool false, Value.int .i64 ((n.toNat : Nat) : Int), _, Value.int .i64 0]
      rw [hx]
      rfl

section
variable {w : World} {base g : Nat} {r : Option Nat} {d : Ds}
theorem down_any (h : Dk w base g r d) : Calls Tryd.prog 27 #[at_ g] w fun e w' => e = .returned (.bool d.down) ∧ w = w' := by
  obtain ⟨v, _, _, _, ⟨fl, _, hc⟩, _⟩ := h
  have c2 := hc.cell (j := 2) rfl
  clear hc
  unfold at_
  go_enter Tryd.func27, Tryd.ntmps27
  go_wp2_with fail
  go_returns
  exact ⟨rfl, rfl⟩
theorem size_any (h : Dk w base g r d) : Calls Tryd.prog 32 #[at_ g] w fun e w' => e = .returned (.int .i64 (d.size : Int)) ∧ w = w' := by
  obtain ⟨v, _, _, _, ⟨fl, _, hc⟩, _⟩ := h
  have c2 := hc.cell (j := 3) rfl
  clear hc
  unfold at_
  go_enter Tryd.func32, Tryd.ntmps32
  go_wp2_with fail
  go_returns
  exact ⟨rfl, rfl⟩
theorem bytes_any (h : Dk w base g r d) : Calls Tryd.prog 16 #[at_ g] w fun e w' => e = .returned (.string ⟨d.b.toArray⟩) ∧ w = w' := by
  obtain ⟨v, _, _, _, ⟨fl, _, hc⟩, ho⟩ := h
  have c2 := hc.cell (j := 4) rfl
  have hs := string_row Tryd.underlying41 Tryd.underlying5 Tryd.underlying9 ho
  clear hc ho
  unfold at_
  go_enter Tryd.func16, Tryd.ntmps16
  go_wp2_with fail
  go_returns
  exact ⟨rfl, rfl⟩
end
theorem noDown_any (w : World) : Calls Tryd.prog 27 #[.pointer none] w fun e w' => e = .returned (.bool true) ∧ w = w' := by
  go_enter Tryd.func27, Tryd.ntmps27
  go_wp2_with fail
  go_returns
  exact ⟨rfl, rfl⟩
theorem noSize_any (w : World) : Calls Tryd.prog 32 #[.pointer none] w fun e w' => e = .returned (.int .i64 0) ∧ w = w' := by
  go_enter Tryd.func32, Tryd.ntmps32
  go_wp2_with fail
  go_returns
  exact ⟨rfl, rfl⟩
theorem noBytes_any (w : World) : Calls Tryd.prog 16 #[.pointer none] w fun e w' => e = .returned (.string ⟨#[]⟩) ∧ w = w' := by
  go_enter Tryd.func16, Tryd.ntmps16
  go_wp2_with fail
  go_returns
  exact ⟨rfl, rfl⟩
theorem noFuse_any (n : Int) (w : World) : Calls Tryd.prog 10 #[.pointer none, .int .i64 n] w fun e w' => e = .returned (.tuple #[]) ∧ w = w' := by
  go_enter Tryd.func10, Tryd.ntmps10
  go_wp2_with fail
  go_returns
  exact ⟨rfl, rfl⟩
theorem noCrash_any (n : Int) (w : World) : Calls Tryd.prog 12 #[.pointer none, .int .i64 n] w fun e w' => e = .returned (.tuple #[]) ∧ w = w' := by
  go_enter Tryd.func12, Tryd.ntmps12
  go_wp2_with fail
  go_returns
  exact ⟨rfl, rfl⟩
theorem noAppend_any (v : Value) (w : World) : Calls Tryd.prog 21 #[.pointer none, v] w fun e w' => e = .returned (.int .i64 7) ∧ w = w' := by
  go_enter Tryd.func21, Tryd.ntmps21
  go_wp2_with fail
  refine (noDown_any w).mono ?_
  rintro e w' ⟨rfl, rfl⟩
  go_wp2_with fail
  go_returns
  exact ⟨rfl, rfl⟩
theorem noSync_any (w : World) : Calls Tryd.prog 22 #[.pointer none] w fun e w' => e = .returned (.int .i64 7) ∧ w = w' := by
  go_enter Tryd.func22, Tryd.ntmps22
  go_wp2_with fail
  refine (noDown_any w).mono ?_
  rintro e w' ⟨rfl, rfl⟩
  go_wp2_with fail
  go_returns
  exact ⟨rfl, rfl⟩
theorem noDrop_any (n : Int) (w : World) : Calls Tryd.prog 24 #[.pointer none, .int .i64 n] w fun e w' => e = .returned (.int .i64 7) ∧ w = w' := by
  go_enter Tryd.func24, Tryd.ntmps24
  go_wp2_with fail
  refine (noDown_any w).mono ?_
  rintro e w' ⟨rfl, rfl⟩
  go_wp2_with fail
  go_returns
  exact ⟨rfl, rfl⟩
theorem noCut_any (n : Int) (w : World) : Calls Tryd.prog 17 #[.pointer none, .int .i64 n] w fun e w' => e = .returned (.int .i64 7) ∧ w = w' := by
  go_enter Tryd.func17, Tryd.ntmps17
  go_wp2_with fail
  refine (noDown_any w).mono ?_
  rintro e w' ⟨rfl, rfl⟩
  go_wp2_with fail
  go_returns
  exact ⟨rfl, rfl⟩

/-- A disk whose fuse let some of n bytes by. -/
def spent (d : Ds) (n : Nat) : Ds := { d with fuse := spend d.fuse (left d.fuse n), down := if d.fuse < 0 then d.down else decide (left d.fuse n < n) }
theorem spend_any {w : World} {g : Nat} {d : Ds} (n : Nat) (hn : n ≤ 1000000000000) (ho : d.Ok) (hx : ∃ v, Box w g v d) :
    Calls Tryd.prog 35 #[at_ g, .int .i64 (n : Int)] w fun e w' => e = .returned (.int .i64 ((left d.fuse n : Nat) : Int)) ∧ Only (fun k => k = g) w w' ∧ ∀ v, Box w g v d → Box w' g v (spent d n) := by
  obtain ⟨v0, fl, hfl, hc⟩ := hx
  have HC := Lib.hid hc
  have c0 := hc.cell (j := 0) rfl
  have c1 := hc.cell (j := 1) rfl
  have hf1 := hc.frozen (j := 1) (by simp)
  have hf2 := hc.frozen (j := 2) (by simp)
  have hlow := ho.low
  have hhigh := ho.high
  unfold at_
  by_cases h0 : d.fuse < 0
  · have hd0 : decide (0 ≤ d.fuse) = false := decide_eq_false (by omega)
    rw [hd0] at c0
    clear hc
    go_enter Tryd.func35, Tryd.ntmps35
    go_wp2_with fail
    go_returns
    have e1 : left d.fuse n = n := by unfold left; rw [if_pos h0]
    have e2 : spent d n = d := by unfold spent spend; rw [if_pos h0, if_pos h0]
    exact ⟨ret_val (by rw [e1]; rfl), Only.refl _ _, fun v h => by rw [e2]; exact h⟩
  · obtain rfl := hfl (by omega)
    have hd0 : decide (0 ≤ d.fuse) = true := decide_eq_true (by omega)
    rw [hd0] at c0
    have c2 := hc.cell (j := 2) rfl
    clear hc
    have put : ∀ (x : Int) (b : Bool), (spent d n).fuse = x → 0 ≤ x → (spent d n).down = b →
        Only (fun k => k = g) w ((w.setCell ⟨g, 1, none⟩ (.int .i64 x)).setCell ⟨g, 2, none⟩ (.bool b)) ∧ ∀ v, Box w g v d → Box ((w.setCell ⟨g, 1, none⟩ (.int .i64 x)).setCell ⟨g, 2, none⟩ (.bool b)) g v (spent d n) := by
      intro x b hx h0x hb
      refine ⟨(Only.of_set w ⟨g, 1, none⟩ _).trans (Only.of_set _ ⟨g, 2, none⟩ _) fun k _ hk => hk, ?_⟩
      rintro v ⟨fl, _, hc⟩
      refine ⟨x, fun _ => hx.symm, ?_⟩
      have h3 := (hc.set_ 1 (.int .i64 x)).set_ 2 (.bool b)
      rw [hx, hb, show decide ((0 : Int) ≤ x) = true from decide_eq_true h0x]
      rw [hd0] at h3
      exact h3
    have HP := Lib.hid put
    clear put
    have e1 : ((left d.fuse n : Nat) : Int) = min (n : Int) d.fuse := by unfold left; rw [if_neg h0]; omega
    have e2 : (spent d n).fuse = d.fuse - min (n : Int) d.fuse := by show spend d.fuse (left d.fuse n) = _; unfold spend; rw [if_neg h0, e1]
    have e3 : (spent d n).down = decide (min (n : Int) d.fuse < (n : Int)) := by
      show (if d.fuse < 0 then d.down else decide (left d.fuse n < n)) = _
      rw [if_neg h0, ← e1]
      simp
    have H2 := Lib.hid (HP.out _ _ e2 (by omega) e3)
    have HE := Lib.hid e1
    clear e1 e2 e3 HP
    go_enter Tryd.func35, Tryd.ntmps35
    go_wp2_with fail
    go_returns
    exact ⟨ret_val (by rw [HE.out]; rfl), H2.out⟩

theorem fuse_any {w : World} {base g : Nat} {r : Option Nat} {d : Ds} (n : Int) (h : Dk w base g r d) :
    Calls Tryd.prog 10 #[at_ g, .int .i64 n] w fun e w' => e = .returned (.tuple #[]) ∧ ∃ r', Dk w' base g r' (fuseS d n) ∧ Turn w w' g r r' := by
  have hw := h
  obtain ⟨v, _, _, _, ⟨fl, _, hc⟩, _⟩ := h
  have c0 := hc.cell (j := 0) rfl
  have c1 := hc.cell (j := 1) rfl
  have hf0 := hc.frozen (j := 0) (by simp)
  have hf1 := hc.frozen (j := 1) (by simp)
  have HW := Lib.hid hw
  have put : Dk ((w.setCell ⟨g, 0, none⟩ (.bool (decide (0 ≤ n)))).setCell ⟨g, 1, none⟩ (.int .i64 n)) base g r (fuseS d n) ∧ Turn w ((w.setCell ⟨g, 0, none⟩ (.bool (decide (0 ≤ n)))).setCell ⟨g, 1, none⟩ (.int .i64 n)) g r r := by
    refine hw.turn ((Only.of_set w ⟨g, 0, none⟩ _).trans (Only.of_set _ ⟨g, 1, none⟩ _) fun k _ hk => hk) rfl ?_
    rintro v ⟨fl, _, hc⟩
    have h3 := (hc.set_ 0 (.bool (decide (0 ≤ n)))).set_ 1 (.int .i64 n)
    have e : decide ((0 : Int) ≤ (fuseS d n).fuse) = decide (0 ≤ n) := by
      show decide ((0 : Int) ≤ (if n < 0 then -1 else n)) = _
      split <;> simp <;> omega
    refine ⟨n, fun hx => ?_, by rw [e]; exact h3⟩
    have h0 : (0 : Int) ≤ (if n < 0 then -1 else n) := hx
    show n = (if n < 0 then -1 else n)
    split at h0
    · omega
    · rw [if_neg (by assumption)]
  have HP := Lib.hid put
  clear hc hw put
  unfold at_
  by_cases h0 : 0 ≤ n
  · have e : decide (0 ≤ n) = true := decide_eq_true h0
    rw [e] at HP
    go_enter Tryd.func10, Tryd.ntmps10
    go_wp2_with fail
    go_returns
    exact ⟨rfl, _, HP.out⟩
  · have e : decide (0 ≤ n) = false := decide_eq_false h0
    rw [e] at HP
    go_enter Tryd.func10, Tryd.ntmps10
    go_wp2_with fail
    go_returns
    exact ⟨rfl, _, HP.out⟩

theorem Box.safe {w : World} {g : Nat} {v : Value} {d : Ds} (h : Box w g v d) (n : Nat) : Box (w.setCell ⟨g, 5, none⟩ (.int .i64 (n : Int))) g v { d with safe := n } := by
  obtain ⟨fl, hf, hc⟩ := h
  exact ⟨fl, hf, hc.set_ 5 (.int .i64 (n : Int))⟩
theorem Box.row {w : World} {g : Nat} {v : Value} {d : Ds} (h : Box w g v d) (u : Value) (b : List UInt8) : Box (w.setCell ⟨g, 4, none⟩ u) g u { d with b := b } := by
  obtain ⟨fl, hf, hc⟩ := h
  exact ⟨fl, hf, hc.set_ 4 u⟩
theorem Box.cells {w : World} {g : Nat} {v : Value} {d : Ds} (h : Box w g v d) : w.cell? ⟨g, 4, none⟩ = some v ∧ w.cell? ⟨g, 5, none⟩ = some (.int .i64 (d.safe : Int)) ∧ w.frozen? ⟨g, 4, none⟩ = false ∧ w.frozen? ⟨g, 5, none⟩ = false ∧ w.cell? ⟨g, 3, none⟩ = some (.int .i64 (d.size : Int)) ∧ w.cell? ⟨g, 2, none⟩ = some (.bool d.down) := by
  obtain ⟨fl, hf, hc⟩ := h
  exact ⟨hc.cell rfl, hc.cell rfl, hc.frozen (by simp), hc.frozen (by simp), hc.cell rfl, hc.cell rfl⟩
theorem row_slice {w : World} {base : Nat} {e : TypeId} {v : Value} {n : Nat} {xs : List Value} (h : w.ownsRow base e 1 v n xs) : ∃ A c, v = .slice A n c := by
  rcases row_forms h with ⟨rfl, rfl⟩ | ⟨k, cap, rfl, _⟩
  · exact ⟨_, _, rfl⟩
  · exact ⟨_, _, rfl⟩

theorem sync_any {w : World} {base g : Nat} {r : Option Nat} {d : Ds} (h : Dk w base g r d) (ho : d.Ok) :
    Calls Tryd.prog 22 #[at_ g] w fun e w' => e = .returned (.int .i64 (syncS d).1) ∧ ∃ r', Dk w' base g r' (syncS d).2 ∧ Turn w w' g r r' := by
  have HD := Lib.hid (down_any h)
  have HW := Lib.hid h
  have hlow := ho.low
  by_cases h1 : d.down = true
  · have HV := Lib.hid (show syncS d = (7, d) by unfold syncS; rw [if_pos h1])
    rw [h1] at HD
    clear h ho h1
    unfold at_ at *
    go_enter Tryd.func22, Tryd.ntmps22
    go_wp2_with fail
    refine HD.out.mono ?_
    rintro e w' ⟨rfl, rfl⟩
    go_wp2_with fail
    go_returns
    rw [HV.out]
    exact ⟨rfl, r, HW.out, Turn.refl _ _ _⟩
  · obtain ⟨v, _, _, _, hbx, hrow⟩ := h
    have h1' : d.down = false := by simpa using h1
    have HS := Lib.hid (spend_any 1 (by omega) ho ⟨v, hbx⟩)
    have HB := Lib.hid hbx
    obtain ⟨A, c, rfl⟩ := row_slice hrow
    rw [h1'] at HD
    by_cases h2 : d.fuse = 0
    · have e1 : left d.fuse 1 = 0 := by unfold left; rw [if_neg (by omega), h2]; rfl
      have HV := Lib.hid (show syncS d = (7, { d with down := true }) by unfold syncS; rw [if_neg h1, if_pos h2])
      have HE := Lib.hid (show spent d 1 = { d with down := true } by
        unfold spent
        rw [e1, spend_zero, if_neg (by omega)]
        rfl)
      rw [e1] at HS
      clear hbx hrow h1 h1' ho e1
      unfold at_ at *
      go_enter Tryd.func22, Tryd.ntmps22
      go_wp2_with fail
      refine HD.out.mono ?_
      rintro e w1 ⟨rfl, rfl⟩
      go_wp2_with fail
      refine HS.out.mono ?_
      rintro e w2 ⟨rfl, hon, hx⟩
      have HT := Lib.hid (HW.out.turn (d' := spent d 1) hon rfl hx)
      clear hon hx
      go_wp2_with fail
      go_returns
      rw [HV.out]
      have h := HT.out
      rw [HE.out] at h
      exact ⟨rfl, r, h⟩
    · have e1 : left d.fuse 1 = 1 := by unfold left; split <;> omega
      have HV := Lib.hid (show syncS d = (0, { d with safe := d.b.length, fuse := spend d.fuse 1 }) by unfold syncS; rw [if_neg h1, if_neg h2])
      have HE := Lib.hid (show spent d 1 = { d with fuse := spend d.fuse 1 } by
        unfold spent
        rw [e1, h1']
        split <;> rfl)
      rw [e1] at HS
      clear hbx hrow h1 h1' ho e1 h2
      unfold at_ at *
      go_enter Tryd.func22, Tryd.ntmps22
      go_wp2_with fail
      refine HD.out.mono ?_
      rintro e w1 ⟨rfl, rfl⟩
      go_wp2_with fail
      refine HS.out.mono ?_
      rintro e w2 ⟨rfl, hon, hx⟩
      obtain ⟨c4, c5, f4, f5, _, _⟩ := (hx _ HB.out).cells
      have HON := Lib.hid hon
      have HX := Lib.hid hx
      clear hon hx
      go_wp2_with fail
      go_returns
      rw [HV.out]
      refine ⟨rfl, r, HW.out.turn (HON.out.trans (Only.of_set w2 ⟨g, 5, none⟩ _) fun k _ hk => hk) rfl fun v hb => ?_⟩
      have h := (HX.out v hb).safe d.b.length
      rw [HE.out] at h
      exact h

theorem cut_any {w : World} {base g : Nat} {r : Option Nat} {d : Ds} (n : Int) (h : Dk w base g r d) (ho : d.Ok) :
    Calls Tryd.prog 17 #[at_ g, .int .i64 n] w fun e w' => e = .returned (.int .i64 (cutS d n).1) ∧ ∃ r', Dk w' base g r' (cutS d n).2 ∧ Turn w w' g r r' := by
  have HD := Lib.hid (down_any h)
  have HW := Lib.hid h
  by_cases h1 : d.down = true
  · have HV := Lib.hid (show cutS d n = (7, d) by unfold cutS; rw [if_pos h1])
    rw [h1] at HD
    clear h ho h1
    unfold at_ at *
    go_enter Tryd.func17, Tryd.ntmps17
    go_wp2_with fail
    refine HD.out.mono ?_
    rintro e w' ⟨rfl, rfl⟩
    go_wp2_with fail
    go_returns
    rw [HV.out]
    exact ⟨rfl, r, HW.out, Turn.refl _ _ _⟩
  · obtain ⟨v, hv, hne, hbg, hbx, hrow⟩ := h
    have h1' : d.down = false := by simpa using h1
    rw [h1'] at HD
    obtain ⟨c4, c5, f4, f5, _, _⟩ := hbx.cells
    have hfits := ho.fits
    have hsz := ho.size
    have hsf := ho.safe
    obtain ⟨A, c, rfl⟩ := row_slice hrow
    by_cases h2 : n < 0 ∨ (d.b.length : Int) < n
    · have HV := Lib.hid (show cutS d n = (1, d) by unfold cutS; rw [if_neg h1, if_pos h2])
      clear hbx hrow h1 h1' ho
      unfold at_ at *
      by_cases h3 : n < 0
      · clear h2
        go_enter Tryd.func17, Tryd.ntmps17
        go_wp2_with fail
        refine HD.out.mono ?_
        rintro e w1 ⟨rfl, rfl⟩
        go_wp2_with fail
        go_returns
        rw [HV.out]
        exact ⟨rfl, r, HW.out, Turn.refl _ _ _⟩
      · have h4 : (d.b.length : Int) < n := by omega
        clear h2
        go_enter Tryd.func17, Tryd.ntmps17
        go_wp2_with fail
        refine HD.out.mono ?_
        rintro e w1 ⟨rfl, rfl⟩
        go_wp2_with fail
        go_returns
        rw [HV.out]
        exact ⟨rfl, r, HW.out, Turn.refl _ _ _⟩
    · obtain ⟨m, rfl⟩ : ∃ m : Nat, n = (m : Int) := ⟨n.toNat, by omega⟩
      have hm : m ≤ d.b.length := by omega
      have HV := Lib.hid (show cutS d (m : Int) = (0, { d with b := d.b.take m, safe := min d.safe m }) by unfold cutS; rw [if_neg h1, if_neg h2]; rfl)
      have HB := Lib.hid hbx
      have HR := Lib.hid hrow
      have hmc : m ≤ c := by
        rcases row_forms hrow with ⟨h5, h6⟩ | ⟨k, cap, h5, h6⟩
        · omega
        · injection h5 with _ _ h7; omega
      have HN : Hid (∀ w1 : World, w1.ownsRow base 5 1 (.slice A d.b.length c) d.b.length (d.b.map bv) → w1.ownsRow base 5 1 (.slice A m c) m ((d.b.take m).map bv)) := Lib.hid fun w1 h => by
        rcases row_forms h with ⟨h5, h6⟩ | ⟨k, cap, h5, h6⟩
        · injection h5 with h7 _ h8
          have hm0 : m = 0 := by omega
          subst h7; subst h8; subst hm0
          exact World.ownsRow_nil _ _ _ _
        · injection h5 with h7 _ h8
          subst h7; subst h8
          rw [List.map_take]
          exact row_take h hm
      have put : Dk ((w.setCell ⟨g, 4, none⟩ (.slice A m c)).setCell ⟨g, 5, none⟩ (.int .i64 (min (d.safe : Int) (m : Int)))) base g r { d with b := d.b.take m, safe := min d.safe m } ∧ Turn w ((w.setCell ⟨g, 4, none⟩ (.slice A m c)).setCell ⟨g, 5, none⟩ (.int .i64 (min (d.safe : Int) (m : Int)))) g r r := by
        rw [show min (d.safe : Int) (m : Int) = ((min d.safe m : Nat) : Int) by omega]
        have hon := (Only.of_set w ⟨g, 4, none⟩ (.slice A m c)).trans (Only.of_set _ ⟨g, 5, none⟩ (.int .i64 ((min d.safe m : Nat) : Int))) fun k _ hk => hk
        refine ⟨⟨.slice A m c, ?_, hne, hbg, (HB.out.row (.slice A m c) (d.b.take m)).safe (min d.safe m), ?_⟩, hon.mono fun k _ hk => Or.inl hk, fun k hk => Or.inl hk.symm⟩
        · rw [← hv]
          cases A <;> rfl
        · have hl : (d.b.take m).length = m := by rw [List.length_take]; omega
          have h3 := HN.out _ (row_only HR.out hon fun k hk e => hne (by rw [← hv, hk]; exact congrArg some e))
          show World.ownsRow _ base _ 1 _ (d.b.take m).length _
          rw [hl]
          exact h3
      have HP := Lib.hid put
      clear hbx hrow h1 h1' ho put h2 hv hne
      unfold at_ at *
      go_enter Tryd.func17, Tryd.ntmps17
      go_wp2_with fail
      refine HD.out.mono ?_
      rintro e w1 ⟨rfl, rfl⟩
      go_wp2_with fail
      go_returns
      rw [HV.out]
      exact ⟨rfl, r, HP.out⟩

theorem crash_any {w : World} {base g : Nat} {r : Option Nat} {d : Ds} (n : Int) (h : Dk w base g r d) (ho : d.Ok) (hn : -9223372036854775808 ≤ n) (hn2 : n ≤ 9223372036854775807) :
    Calls Tryd.prog 12 #[at_ g, .int .i64 n] w fun e w' => e = .returned (.tuple #[]) ∧ ∃ r', Dk w' base g r' (crashS d n) ∧ Turn w w' g r r' := by
  obtain ⟨v, hv, hne, hbg, hbx, hrow⟩ := h
  obtain ⟨c4, c5, f4, f5, _, _⟩ := hbx.cells
  have hfits := ho.fits
  have hsz := ho.size
  have hsf := ho.safe
  obtain ⟨A, c, rfl⟩ := row_slice hrow
  have hkl := kept_le ho n
  obtain ⟨j, hj, hkj⟩ : ∃ j : Nat, max 0 (min n ((d.b.length : Int) - (d.safe : Int))) = (j : Int) ∧ kept d n = d.safe + j := ⟨min n.toNat (d.b.length - d.safe), by omega, rfl⟩
  generalize hk : kept d n = k at *
  have HJ := Lib.hid hj
  have hmc : k ≤ c := by
    rcases row_forms hrow with ⟨h5, h6⟩ | ⟨k, cap, h5, h6⟩
    · omega
    · injection h5 with _ _ h7; omega
  have hk1 : (d.safe : Int) + (j : Int) ≤ (c : Int) := by omega
  have hk2 : ((d.safe : Int) + (j : Int)).toNat = k := by omega
  obtain ⟨fl, hfl, hc⟩ := hbx
  have f0 := hc.frozen (j := 0) (by simp)
  have f1 := hc.frozen (j := 1) (by simp)
  have f2 := hc.frozen (j := 2) (by simp)
  have c0 := hc.cell (j := 0) rfl
  have c1 := hc.cell (j := 1) rfl
  have c2 := hc.cell (j := 2) rfl
  have HC := Lib.hid hc
  have HR := Lib.hid hrow
  clear hc hrow ho hfl
  unfold at_
  go_enter Tryd.func12, Tryd.ntmps12
  go_wp2_with fail
  go_region
  clear hj
  go_wp2_with fail
  go_region
  go_wp2_with fail
  go_returns
  have hn : d.safe + j ≤ d.b.length := by omega
  obtain ⟨hr1, hr2, _⟩ := row_cut HR.out hn
  have o1 := (Only.of_set w ⟨g, 5, none⟩ (.int .i64 ((d.safe : Int) + (j : Int)))).trans (S := fun k => k = g) (Only.of_set _ ⟨g, 4, none⟩ (.slice A (d.safe + j) c)) fun k _ hk => hk
  have o2 := o1.trans (S := fun k => k = g) (Only.of_set _ ⟨g, 0, none⟩ (.bool false)) fun k _ hk => hk
  have o3 := o2.trans (S := fun k => k = g) (Only.of_set _ ⟨g, 1, none⟩ (.int .i64 0)) fun k _ hk => hk
  have o4 := o3.trans (S := fun k => k = g) (Only.of_set _ ⟨g, 2, none⟩ (.bool false)) fun k _ hk => hk
  have o5 := o4.trans (S := fun k => k = g) (S' := fun _ => False) (Only.of_below ((Below.refl _ _).drew.drew)) fun k _ hk => hk.elim
  have hcs := ((((HC.out.set_ 5 (.int .i64 ((d.safe : Int) + (j : Int)))).set_ 4 (.slice A (d.safe + j) c)).set_ 0 (.bool false)).set_ 1 (.int .i64 0)).set_ 2 (.bool false)
  have e1 : (d.b.map bv).take (d.safe + j) = (d.b.take (d.safe + j)).map bv := by rw [List.map_take]
  have e2 : (d.b.take (d.safe + j)).length = d.safe + j := by rw [List.length_take]; omega
  refine ⟨rfl, r, ⟨.slice A (d.safe + j) c, by rw [hr2]; exact hv, hne, hbg, ⟨0, fun h => absurd (show (0 : Int) ≤ -1 from h) (by decide), ?_⟩, ?_⟩, o5.mono fun k _ hk => Or.inl hk, fun k hk => Or.inl hk.symm⟩
  · have h3 := cells_only hcs (Only.of_below ((Below.refl _ _).drew.drew) : Only (fun _ => False) _ _) (fun h => h)
    have hkk : ((kept d n : Nat) : Int) = (d.safe : Int) + (j : Int) := by rw [hk, hkj]; omega
    show Cells _ g _ [Value.bool (decide ((0 : Int) ≤ -1)), _, Value.bool false, Value.int .i64 (d.size : Int), _, Value.int .i64 ((kept d n : Nat) : Int)]
    rw [hkk]
    exact h3
  · have h3 := row_only hr1 o5 fun k hk e => hne (by rw [← hv, ← hr2, hk]; exact congrArg some e)
    have hkk : kept d n = d.safe + j := by rw [hk, hkj]
    show World.ownsRow _ base _ 1 _ (d.b.take (kept d n)).length ((d.b.take (kept d n)).map bv)
    rw [hkk, e2, ← e1]
    exact h3

theorem infoByte : (Tryd.prog.info? 5).map (fun i => (i.zero, i.size, i.bytes)) = some (some (.int .u8 0), 1, 1) := by kernel_rfl
theorem bv_one (l : List UInt8) : ∀ u ∈ l.map bv, u.oneCell' = true := by
  intro u hu
  obtain ⟨b, _, rfl⟩ := List.mem_map.1 hu
  rfl
theorem eqlNil (A : Option Addr) (n c : Nat) : ∀ w, (binOp .eql 41 (.slice A n c) (.slice none 0 0)).run Tryd.prog w = .ok (.bool A.isNone) w := fun w => Lib.run_eql_slice_nil w 41 5 A n c 0 0 Tryd.underlying41
theorem cloneNone_any (w : World) : Calls Tryd.prog 36 #[.slice none 0 0] w fun e w' => e = .returned (.slice none 0 0) ∧ w = w' := by
  have he := eqlNil none 0 0
  simp only [Option.isNone_none] at he
  go_enter Tryd.func36, Tryd.ntmps36
  go_wp2_with fail
  go_returns
  exact ⟨rfl, rfl⟩
theorem cloneSome_any (ad : Addr) (c : Nat) (l : List UInt8) (w : World) (base : Nat) (hb : base ≤ w.heap.size) (hl : l.length ≤ 1000000000) (hc : ∀ j u, (l.map bv)[j]? = some u → w.cell? (ad.add j) = some u) :
    Calls Tryd.prog 36 #[.slice (some ad) l.length c] w fun e w' => ∃ v, e = .returned v ∧ w'.ownsRow base 5 1 v l.length (l.map bv) ∧ (∀ k, v.ownBlock = some k → w.heap.size ≤ k) ∧ Below w.heap.size w w' := by
  have he := eqlNil (some ad) l.length c
  simp only [Option.isNone_some] at he
  obtain ⟨i0, hi, hz0, hz1, hz2⟩ := info_parts infoByte
  have HO := Lib.hid (World.ownsRow_made (base := base) (e := 5) (size := 1) w #[] 0 hb (Nat.zero_le _) rfl)
  have HC : Hid (∀ j u, (l.map bv)[j]? = some u → (w.alloc (.cells #[] 5)).cell? (ad.add j) = some u) := Lib.hid fun j u hu => by
    have h1 := hc j u hu
    exact ((below_alloc w (.cells #[] 5)).cell (block_of_cell h1)).trans h1
  have HB := Lib.hid hb
  have hm : 0 + l.length ≤ maxLen := by unfold maxLen; omega
  clear hc hb
  go_enter Tryd.func36, Tryd.ntmps36
  go_wp2_with (at_builtin
               refine wpList_append_own_at _ rfl (.tmp 5) (.tmp 6) 41 rfl base 5 i0 (.int .u8 0) 1 1 Tryd.underlying41 hi hz0 hz1 hz2 rfl (by decide) (.slice (some ⟨w.heap.size, 0, none⟩) 0 0) 0 [] rfl HO.out ad l.length c (l.map bv) rfl (by simp) HC.out (bv_one l) hm (by omega) (Nat.le_trans HB.out (below_alloc w _).size) ?_
               intro v' w1 ho1 hg1 hx1 hat1
               clear hx1
               have HOW := Lib.hid ho1
               have HAT := Lib.hid hat1
               have HGR := Lib.hid hg1
               clear ho1 hat1 hg1)
  go_returns
  have ho1 := HOW.out
  have hat1 := HAT.out
  have hal := below_alloc w (.cells #[] 5)
  rw [Nat.zero_add, List.nil_append] at ho1
  refine ⟨v', rfl, ho1, fun k hk => ?_, hal.trans ((Only.of_grown HGR.out).below hal.size fun k hk => ?_)⟩
  · rcases hat1 with e | e
    · rw [e] at hk; simp [Value.ownBlock] at hk; omega
    · rw [e] at hk; have := hal.size; simp at hk; omega
  · simp [Value.ownBlock] at hk; omega

set_option maxHeartbeats 2000000 in
theorem drop_any {w : World} {base g : Nat} {r : Option Nat} {d : Ds} (n : Int) (h : Dk w base g r d) (ho : d.Ok) :
    Calls Tryd.prog 24 #[at_ g, .int .i64 n] w fun e w' => e = .returned (.int .i64 (dropS d n).1) ∧ ∃ r', Dk w' base g r' (dropS d n).2 ∧ Turn w w' g r r' := by
  have HD := Lib.hid (down_any h)
  have HW := Lib.hid h
  have hlow := ho.low
  have hfits := ho.fits
  have hsz := ho.size
  have hsf := ho.safe
  by_cases h1 : d.down = true
  · have HV := Lib.hid (show dropS d n = (7, d) by unfold dropS; rw [if_pos h1])
    rw [h1] at HD
    clear h ho h1
    unfold at_ at *
    go_enter Tryd.func24, Tryd.ntmps24
    go_wp2_with fail
    refine HD.out.mono ?_
    rintro e w' ⟨rfl, rfl⟩
    go_wp2_with fail
    go_returns
    rw [HV.out]
    exact ⟨rfl, r, HW.out, Turn.refl _ _ _⟩
  · obtain ⟨v, hv, hne, hbg, hbx, hrow⟩ := h
    have h1' : d.down = false := by simpa using h1
    rw [h1'] at HD
    obtain ⟨c4, c5, f4, f5, _, _⟩ := hbx.cells
    by_cases h2 : n < 0 ∨ (d.safe : Int) < n
    · have HV := Lib.hid (show dropS d n = (1, d) by unfold dropS; rw [if_neg h1, if_pos h2])
      clear hbx hrow h1 h1' ho
      unfold at_ at *
      by_cases h3 : n < 0
      · clear h2
        go_enter Tryd.func24, Tryd.ntmps24
        go_wp2_with fail
        refine HD.out.mono ?_
        rintro e w1 ⟨rfl, rfl⟩
        go_wp2_with fail
        go_returns
        rw [HV.out]
        exact ⟨rfl, r, HW.out, Turn.refl _ _ _⟩
      · have h4 : (d.safe : Int) < n := by omega
        clear h2
        go_enter Tryd.func24, Tryd.ntmps24
        go_wp2_with fail
        refine HD.out.mono ?_
        rintro e w1 ⟨rfl, rfl⟩
        go_wp2_with fail
        go_returns
        rw [HV.out]
        exact ⟨rfl, r, HW.out, Turn.refl _ _ _⟩
    · obtain ⟨m, rfl⟩ : ∃ m : Nat, n = (m : Int) := ⟨n.toNat, by omega⟩
      have hm : m ≤ d.safe := by omega
      have HS := Lib.hid (spend_any 1 (by omega) ho ⟨v, hbx⟩)
      by_cases h3 : d.fuse = 0
      · have e1 : left d.fuse 1 = 0 := by unfold left; rw [if_neg (by omega), h3]; rfl
        have HV := Lib.hid (show dropS d (m : Int) = (7, { d with down := true }) by unfold dropS; rw [if_neg h1, if_neg h2, if_pos h3])
        have HE := Lib.hid (show spent d 1 = { d with down := true } by
          unfold spent
          rw [e1, spend_zero, if_neg (by omega)]
          rfl)
        rw [e1] at HS
        clear hbx hrow h1 h1' ho e1 h2
        unfold at_ at *
        go_enter Tryd.func24, Tryd.ntmps24
        go_wp2_with fail
        refine HD.out.mono ?_
        rintro e w1 ⟨rfl, rfl⟩
        go_wp2_with fail
        refine HS.out.mono ?_
        rintro e w2 ⟨rfl, hon, hx⟩
        have HT := Lib.hid (HW.out.turn (d' := spent d 1) hon rfl hx)
        clear hon hx
        go_wp2_with fail
        go_returns
        rw [HV.out]
        have h := HT.out
        rw [HE.out] at h
        exact ⟨rfl, r, h⟩
      · have e1 : left d.fuse 1 = 1 := by unfold left; split <;> omega
        have HV := Lib.hid (show dropS d (m : Int) = (0, { d with b := d.b.drop m, safe := d.safe - m, fuse := spend d.fuse 1 }) by unfold dropS; rw [if_neg h1, if_neg h2, if_neg h3]; rfl)
        have HE := Lib.hid (show spent d 1 = { d with fuse := spend d.fuse 1 } by
          unfold spent
          rw [e1, h1']
          split <;> rfl)
        rw [e1] at HS
        have HB := Lib.hid hbx
        have HR := Lib.hid hrow
        have hml : m ≤ d.b.length := by omega
        have HT : Hid (∀ (w2 w3 : World) (u : Value), Only (fun k => k = g) w w2 → Box w2 g v (spent d 1) → Below w2.heap.size w2 w3 → w3.ownsRow base 5 1 u (d.b.drop m).length ((d.b.drop m).map bv) → (∀ k, u.ownBlock = some k → w2.heap.size ≤ k) →
            ∃ r', Dk ((w3.setCell ⟨g, 4, none⟩ u).setCell ⟨g, 5, none⟩ (.int .i64 ((d.safe : Int) - (m : Int)))) base g r' { d with b := d.b.drop m, safe := d.safe - m, fuse := spend d.fuse 1 } ∧ Turn w ((w3.setCell ⟨g, 4, none⟩ u).setCell ⟨g, 5, none⟩ (.int .i64 ((d.safe : Int) - (m : Int)))) g r r') := Lib.hid fun w2 w3 u ho2 hb2 hbl hr3 hnew => by
          have hlt := hb2.lt
          have o1 := ho2.trans (S := fun k => k = g) (Only.of_below (S := fun _ => False) hbl) fun k _ hk => hk.elim
          have o2 := o1.trans (S := fun k => k = g) (Only.of_set w3 ⟨g, 4, none⟩ u) fun k _ hk => hk
          have o3 := o2.trans (S := fun k => k = g) (Only.of_set _ ⟨g, 5, none⟩ (.int .i64 ((d.safe : Int) - (m : Int)))) fun k _ hk => hk
          have hgu : ∀ k, u.ownBlock = some k → ¬ k = g := fun k hk e => by have := hnew k hk; omega
          have hcast : (d.safe : Int) - (m : Int) = ((d.safe - m : Nat) : Int) := by omega
          rw [hcast] at o3 ⊢
          have hbx3 := ((hb2.only (Only.of_below (S := fun _ => False) hbl) fun h => h).row u (d.b.drop m)).safe (d.safe - m)
          rw [HE.out] at hbx3
          refine ⟨u.ownBlock, ⟨u, rfl, fun e => hgu g e rfl, hbg, hbx3, row_only (row_only hr3 (Only.of_set w3 ⟨g, 4, none⟩ u) hgu) (Only.of_set _ ⟨g, 5, none⟩ _) hgu⟩, o3.mono fun k _ hk => Or.inl hk, fun k hk => Or.inr ?_⟩
          have := hnew k hk
          have := ho2.size
          omega
        have hbase : base ≤ w.heap.size := by have := hbx.lt; omega
        rcases row_forms hrow with ⟨rfl, h6⟩ | ⟨k, cap, rfl, h6⟩
        · obtain rfl : m = 0 := by omega
          have HL := Lib.hid (show d.b = [] from List.eq_nil_of_length_eq_zero h6)
          clear hbx hrow h1 h1' ho e1 h2 h3
          unfold at_ at *
          go_enter Tryd.func24, Tryd.ntmps24
          go_wp2_with fail
          refine HD.out.mono ?_
          rintro e w1 ⟨rfl, rfl⟩
          go_wp2_with fail
          refine HS.out.mono ?_
          rintro e w2 ⟨rfl, hon, hx⟩
          have HON := Lib.hid hon
          have HX := Lib.hid (hx _ HB.out)
          obtain ⟨d4, d5, g4, g5, _, _⟩ := HX.out.cells
          rw [show (spent d 1).safe = d.safe from rfl] at d5
          clear hon hx
          go_wp2_with fail
          refine (cloneNone_any w2).mono ?_
          rintro e w3 ⟨rfl, rfl⟩
          go_wp2_with fail
          go_returns
          rw [HV.out]
          have h := HT.out w2 w2 (.slice none 0 0) HON.out HX.out (Below.refl _ _) (by rw [HL.out]; exact World.ownsRow_nil _ _ _ _) (fun k hk => by cases hk)
          rw [show (d.safe : Int) - ((0 : Nat) : Int) = (d.safe : Int) by omega] at h
          exact ⟨rfl, h⟩
        · have HC : Hid (∀ (w2 : World), Only (fun k => k = g) w w2 → ∀ (j : Nat) (u : Value), ((d.b.drop m).map bv)[j]? = some u → w2.cell? (⟨k, m + j, none⟩ : Addr) = some u) := Lib.hid fun w2 ho2 j u hu => by
            have hr2 := row_only hrow ho2 fun i hi e => hne (by rw [← hv, hi, e])
            have h := hr2.cells (g := k) rfl (m + j) u (by
              rw [List.getElem?_map] at hu ⊢
              rw [List.getElem?_drop] at hu
              exact hu)
            rw [addr_add] at h
            exact h
          have hdl : (d.b.drop m).length = d.b.length - m := List.length_drop
          by_cases hq : cap = m
          · subst hq
            have HCN : Hid (∀ (w2 : World), Only (fun k => k = g) w w2 → Calls Tryd.prog 36 #[.slice (some ⟨k, 0, none⟩) 0 0] w2 fun e w' => ∃ v, e = .returned v ∧ w'.ownsRow base 5 1 v (d.b.drop cap).length ((d.b.drop cap).map bv) ∧ (∀ k, v.ownBlock = some k → w2.heap.size ≤ k) ∧ Below w2.heap.size w2 w') := Lib.hid fun w2 ho2 => by
              rw [List.drop_of_length_le (by omega)]
              exact cloneSome_any ⟨k, 0, none⟩ 0 [] w2 base (Nat.le_trans hbase ho2.size) (by simp) fun j u hu => by simp at hu
            clear hbx hrow h1 h1' ho e1 h2 h3
            unfold at_ at *
            go_enter Tryd.func24, Tryd.ntmps24
            go_wp2_with fail
            refine HD.out.mono ?_
            rintro e w1 ⟨rfl, rfl⟩
            go_wp2_with fail
            refine HS.out.mono ?_
            rintro e w2 ⟨rfl, hon, hx⟩
            have HON := Lib.hid hon
            have HX := Lib.hid (hx _ HB.out)
            obtain ⟨d4, d5, g4, g5, _, _⟩ := HX.out.cells
            clear hon hx
            go_wp2_with fail
            refine (HCN.out w2 HON.out).mono ?_
            rintro e w3 ⟨u, rfl, hr3, hn3, hb3⟩
            have hbx3 := HX.out.only (Only.of_below (S := fun _ => False) hb3) fun h => h
            obtain ⟨e4, e5, k4, k5, _, _⟩ := hbx3.cells
            have H3 := Lib.hid (And.intro hr3 (And.intro hn3 hb3))
            have hds : (spent d 1).safe = d.safe := rfl
            rw [hds] at e5
            obtain ⟨A3, n3, c3, rfl⟩ : ∃ A n c, u = .slice A n c := by
              obtain ⟨A, c, e⟩ := row_slice hr3
              exact ⟨A, _, c, e⟩
            clear hr3 hn3 hb3 hbx3
            go_wp2_with fail
            go_returns
            rw [HV.out]
            exact ⟨rfl, HT.out w2 w3 _ HON.out HX.out H3.out.2.2 H3.out.1 H3.out.2.1⟩
          · have hq' : m < cap := by omega
            have HCN : Hid (∀ (w2 : World), Only (fun k => k = g) w w2 → Calls Tryd.prog 36 #[.slice (some ⟨k, m, none⟩) (d.b.length - m) (cap - m)] w2 fun e w' => ∃ v, e = .returned v ∧ w'.ownsRow base 5 1 v (d.b.drop m).length ((d.b.drop m).map bv) ∧ (∀ k, v.ownBlock = some k → w2.heap.size ≤ k) ∧ Below w2.heap.size w2 w') := Lib.hid fun w2 ho2 => by
              rw [← hdl]
              refine cloneSome_any ⟨k, m, none⟩ _ (d.b.drop m) w2 base (Nat.le_trans hbase ho2.size) (by rw [hdl]; omega) fun j u hu => ?_
              have h := HC.out w2 ho2 j u hu
              have e : (⟨k, m, none⟩ : Addr).add j = ⟨k, m + j, none⟩ := by
                unfold Addr.add
                split
                · rename_i h0; subst h0; rfl
                · rfl
              rw [e]
              exact h
            clear hbx hrow h1 h1' ho e1 h2 h3
            unfold at_ at *
            go_enter Tryd.func24, Tryd.ntmps24
            go_wp2_with fail
            refine HD.out.mono ?_
            rintro e w1 ⟨rfl, rfl⟩
            go_wp2_with fail
            refine HS.out.mono ?_
            rintro e w2 ⟨rfl, hon, hx⟩
            have HON := Lib.hid hon
            have HX := Lib.hid (hx _ HB.out)
            obtain ⟨d4, d5, g4, g5, _, _⟩ := HX.out.cells
            clear hon hx
            go_wp2_with fail
            refine (HCN.out w2 HON.out).mono ?_
            rintro e w3 ⟨u, rfl, hr3, hn3, hb3⟩
            have hbx3 := HX.out.only (Only.of_below (S := fun _ => False) hb3) fun h => h
            obtain ⟨e4, e5, k4, k5, _, _⟩ := hbx3.cells
            have H3 := Lib.hid (And.intro hr3 (And.intro hn3 hb3))
            have hds : (spent d 1).safe = d.safe := rfl
            rw [hds] at e5
            obtain ⟨A3, n3, c3, rfl⟩ : ∃ A n c, u = .slice A n c := by
              obtain ⟨A, c, e⟩ := row_slice hr3
              exact ⟨A, _, c, e⟩
            clear hr3 hn3 hb3 hbx3
            go_wp2_with fail
            go_returns
            rw [HV.out]
            exact ⟨rfl, HT.out w2 w3 _ HON.out HX.out H3.out.2.2 H3.out.1 H3.out.2.1⟩
end Go.Proofs.YtfdhckfpkhoheaaDoor.Disk
