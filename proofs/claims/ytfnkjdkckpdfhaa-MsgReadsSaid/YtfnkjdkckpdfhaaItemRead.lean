/-
  Layer 6: items and nodes read of bytes. Conditions: none.
-/
import Derived.Test.YtfnkjdkckpdfhaaItemGet
import Derived.Maps.AppendAt
namespace Go.Proofs.Ytfnkjdkckpdfhaa.Item
open Go.RowKit Go.Proofs.Ytfnkjdkckpdfhaa.Mem Go.Proofs.Ytfnkjdkckpdfhaa.Wire

/-- A count up to 16. -/
def fewN (s : ByteArray) : Nat := if 16 < num s 2 then 0 else num s 2
def fewR (s : ByteArray) : ByteArray := if 16 < num s 2 then nil else rest s 2
def fewB (s : ByteArray) (b : Bool) : Bool := if 16 < num s 2 then true else brk s b 2
theorem few_le (s : ByteArray) : fewN s ≤ 16 := by unfold fewN; split <;> omega

theorem few_any (w : World) (p g : Nat) (s : ByteArray) (b : Bool) (h : IRd w p g s b) :
    Calls Try.prog 67 #[.pointer (some ⟨p, 0, none⟩), .int .i64 16] w fun e w' => e = .returned (.int .i64 (fewN s : Nat)) ∧ IRd w' p g (fewR s) (fewB s b) ∧ Wire.Foot (some g) w w' := by
  have hc := h.cell
  have HH := Lib.hid h
  have HR := Lib.hid (rcount_any w (some g) s b h.rd)
  clear h
  by_cases h16 : 16 < num s 2
  · have HN : Hid (fewN s = 0 ∧ fewR s = nil ∧ fewB s b = true) := Lib.hid ⟨if_pos h16, if_pos h16, if_pos h16⟩
    go_enter Try.func67, Try.ntmps67
    go_wp2_with fail
    refine HR.out.mono ?_
    rintro e w2 ⟨rfl, hr2, hf2⟩
    have HI2 := Lib.hid (HH.out.move hr2 hf2)
    have HF2 := Lib.hid hf2
    have hc2 := HI2.out.cell
    clear hr2 hf2
    go_wp2_with fail
    refine (break_any w2 (some g) _ _ HI2.out.rd).mono ?_
    rintro e w3 ⟨rfl, hr3, hf3⟩
    have HI3 := Lib.hid (HI2.out.move hr3 hf3)
    have HF3 := Lib.hid (foot_trans HF2.out hf3)
    clear hr3 hf3
    go_wp2_with fail
    go_returns
    exact ⟨ret_int (by rw [HN.out.1]; rfl), by rw [HN.out.2.1, HN.out.2.2]; exact HI3.out, HF3.out⟩
  · have HN : Hid (fewN s = num s 2 ∧ fewR s = rest s 2 ∧ fewB s b = brk s b 2) := Lib.hid ⟨if_neg h16, if_neg h16, if_neg h16⟩
    go_enter Try.func67, Try.ntmps67
    go_wp2_with fail
    refine HR.out.mono ?_
    rintro e w2 ⟨rfl, hr2, hf2⟩
    have HI2 := Lib.hid (HH.out.move hr2 hf2)
    have HF2 := Lib.hid hf2
    clear hr2 hf2
    go_wp2_with fail
    go_returns
    exact ⟨ret_int (by rw [HN.out.1]), by rw [HN.out.2.1, HN.out.2.2]; exact HI2.out, HF2.out⟩

/-- What is left while an item is read. -/
def r1 (s : ByteArray) : ByteArray := rest s 8
def r2 (s : ByteArray) : ByteArray := rest (r1 s) 8
def r3 (s : ByteArray) : ByteArray := rest (r2 s) 8
def r4 (s : ByteArray) : ByteArray := if 1 < num (r3 s) 1 then nil else rest (r3 s) 1
def r5 (s : ByteArray) : ByteArray := rest (r4 s) 8
def b1 (s : ByteArray) (b : Bool) : Bool := brk s b 8
def b2 (s : ByteArray) (b : Bool) : Bool := brk (r1 s) (b1 s b) 8
def b3 (s : ByteArray) (b : Bool) : Bool := brk (r2 s) (b2 s b) 8
def b4 (s : ByteArray) (b : Bool) : Bool := if 1 < num (r3 s) 1 then true else brk (r3 s) (b3 s b) 1
def b5 (s : ByteArray) (b : Bool) : Bool := brk (r4 s) (b4 s b) 8
/-- The item with which bytes begin. -/
def itOf (s : ByteArray) : It := ⟨IntKind.i64.wrap (num s 8 : Nat), IntKind.i64.wrap (num (r1 s) 8 : Nat), IntKind.i64.wrap (num (r2 s) 8 : Nat), num (r3 s) 1 == 1, IntKind.i64.wrap (num (r4 s) 8 : Nat)⟩
theorem itOf_vals (s : ByteArray) : (itOf s).vals = [.int .i64 (IntKind.i64.wrap (num s 8 : Nat)), .int .i64 (IntKind.i64.wrap (num (r1 s) 8 : Nat)), .int .i64 (IntKind.i64.wrap (num (r2 s) 8 : Nat)), .bool (num (r3 s) 1 == 1), .int .i64 (IntKind.i64.wrap (num (r4 s) 8 : Nat))] := by
  simp only [It.vals, itOf]
def restL : Nat → ByteArray → ByteArray
  | 0, s => s
  | n + 1, s => r5 (restL n s)
def brkL : Nat → ByteArray → Bool → Bool
  | 0, _, b => b
  | n + 1, s, b => b5 (restL n s) (brkL n s b)
def readL : Nat → ByteArray → List It
  | 0, _ => []
  | n + 1, s => readL n s ++ [itOf (restL n s)]
theorem readL_length (n : Nat) (s : ByteArray) : (readL n s).length = n := by
  induction n with
  | zero => rfl
  | succ n ih => rw [readL, List.length_append, ih]; rfl
/-- What is read as items; what is left then; is the reader broken then? -/
def readItems (s : ByteArray) (b : Bool) : List It := if brkL (fewN s) (fewR s) (fewB s b) then [] else readL (fewN s) (fewR s)
def restItems (s : ByteArray) : ByteArray := restL (fewN s) (fewR s)
def brkItems (s : ByteArray) (b : Bool) : Bool := brkL (fewN s) (fewR s) (fewB s b)

theorem append_item {w : World} {base : Nat} {v : Value} {n : Nat} {xs : List Value} {k : Nat} {x : It} (ho : w.ownsRow base 83 5 v n xs) (hc : Cells w k 83 x.vals) (hn : n ≤ 1000000) (hb : base ≤ w.heap.size) :
    ∃ v' w', (Builtin.append_ #[24, 24] 24 #[v, .slice (some ⟨k, 0, none⟩) 1 1]).run Try.prog w = .ok v' w' ∧ w'.ownsRow base 83 5 v' (n + 1) (xs ++ x.vals) ∧ w.grownBy w' v.ownBlock ∧ (v'.ownBlock = v.ownBlock ∨ v'.ownBlock = some w.heap.size) := by
  obtain ⟨i0, hi, hz0, hz1, hz2⟩ := info_parts infoItem
  obtain ⟨v', w', h1, h2, h3, _, h5⟩ := run_append_own_at (P := Try.prog) (w := w) base 24 24 83 i0 _ 5 40 Try.underlying24 hi hz0 hz1 hz2 rfl (by decide) v n xs ho ⟨k, 0, none⟩ 1 1 x.vals rfl
    (fun j u hu => by rw [addr_add]; exact hc.cell hu) (vals_one x) (by unfold maxLen; omega) (by omega) hb
  exact ⟨v', w', h1, h2, h3, h5⟩

/-- While an item is read and put behind a row v0 of k items: what was done. -/
structure itSt (p g : Nat) (s : ByteArray) (b d5 d10 d15 d20 d25 d27 d28 : Bool) (v27 v28 : Value) (d29 : Bool) (v29 : Value) (base0 : Nat) (v0 : Value) (k : Nat) (xs : List Value) (w0 w : World) : Prop where
  it : IRd w p g (cond d25 (r5 s) (cond d20 (r4 s) (cond d15 (r3 s) (cond d10 (r2 s) (cond d5 (r1 s) s))))) (cond d25 (b5 s b) (cond d20 (b4 s b) (cond d15 (b3 s b) (cond d10 (b2 s b) (cond d5 (b1 s b) b)))))
  foot : Only (fun i => i = g ∨ some i = v0.ownBlock) w0 w
  low : p < base0 ∧ g < base0 ∧ base0 ≤ w0.heap.size
  row : d28 = false → w.ownsRow base0 83 5 v0 k xs
  own : ∀ i, v0.ownBlock = some i → base0 ≤ i
  blk : d27 = true → d28 = false → ∃ j, v27 = .slice (some ⟨j, 0, none⟩) 1 1 ∧ w0.heap.size ≤ j ∧ Cells w j 83 (itOf s).vals
  new : d28 = true → w.ownsRow base0 83 5 v28 (k + 1) (xs ++ (itOf s).vals)
  lst : d29 = true → v29 = v28
section
variable {p g : Nat} {s : ByteArray} {b d5 d10 d15 d20 d25 d27 d28 : Bool} {v27 v28 v29 : Value} {d29 : Bool} {base0 : Nat} {v0 : Value} {k : Nat} {xs : List Value} {w0 w w' : World}
theorem itSt.base (h : itSt p g s b d5 d10 d15 d20 d25 d27 d28 v27 v28 d29 v29 base0 v0 k xs w0 w) : base0 ≤ w.heap.size := Nat.le_trans h.low.2.2 h.foot.size
theorem itSt.row' (h : itSt p g s b d5 d10 d15 d20 d25 d27 false v27 v28 d29 v29 base0 v0 k xs w0 w) : w.ownsRow base0 83 5 v0 k xs := h.row rfl
theorem itSt.move {e5 e10 e15 e20 e25 : Bool} (h : itSt p g s b d5 d10 d15 d20 d25 d27 d28 v27 v28 d29 v29 base0 v0 k xs w0 w)
    (hr : Rd w' (some g) (cond e25 (r5 s) (cond e20 (r4 s) (cond e15 (r3 s) (cond e10 (r2 s) (cond e5 (r1 s) s))))) (cond e25 (b5 s b) (cond e20 (b4 s b) (cond e15 (b3 s b) (cond e10 (b2 s b) (cond e5 (b1 s b) b))))))
    (hf : Wire.Foot (some g) w w') : itSt p g s b e5 e10 e15 e20 e25 d27 d28 v27 v28 d29 v29 base0 v0 k xs w0 w' := by
  have hfg : Only (fun i => i = g) w w' := hf.mono fun i _ e => Option.some.inj e
  refine ⟨h.it.move hr hf, h.foot.trans hfg fun _ _ e => Or.inl e, h.low, fun hd => row_only (h.row hd) hfg fun i hi e => ?_, h.own, fun hd hd' => ?_, fun hd => row_only (h.new hd) hfg fun i hi e => ?_, h.lst⟩
  · have := h.own i hi; have := h.low.2.1; omega
  · obtain ⟨j, h1, h2, h3⟩ := h.blk hd hd'
    exact ⟨j, h1, h2, cells_only h3 hfg (by have := h.low; omega)⟩
  · have := ((h.new hd).lt i hi).1; have := h.low.2.1; omega
theorem itSt.alloc (h : itSt p g s b d5 d10 d15 d20 d25 false false v27 v28 d29 v29 base0 v0 k xs w0 w) :
    itSt p g s b d5 d10 d15 d20 d25 true false (.slice (some ⟨w.heap.size, 0, none⟩) 1 1) v28 d29 v29 base0 v0 k xs w0 (w.alloc (.cells (itOf s).vals.toArray 83)) :=
  ⟨h.it.later (below_alloc _ _), h.foot.trans (S' := fun _ => False) (Only.of_below (below_alloc _ _)) fun _ _ e => e.elim, h.low, fun _ => (h.row rfl).alloc _, h.own, fun _ _ => ⟨_, rfl, h.foot.size, cells_new w _ _ _ (by simp)⟩, fun hd => (by cases hd), h.lst⟩
theorem itSt.append {v' : Value} (h : itSt p g s b d5 d10 d15 d20 d25 d27 false v27 v28 false v29 base0 v0 k xs w0 w) (hrow : w'.ownsRow base0 83 5 v' (k + 1) (xs ++ (itOf s).vals)) (hgr : w.grownBy w' v0.ownBlock) (_hat : v'.ownBlock = v0.ownBlock ∨ v'.ownBlock = some w.heap.size) :
    itSt p g s b d5 d10 d15 d20 d25 d27 true v27 v' false v29 base0 v0 k xs w0 w' := by
  have ho := Only.of_grown hgr
  have hlow := h.low
  refine ⟨h.it.only ho ?_ ?_, h.foot.trans ho fun _ _ e => Or.inr e, h.low, fun hd => (by cases hd), h.own, fun _ hd => (by cases hd), fun _ => hrow, fun hd => (by cases hd)⟩
  · intro e; have := h.own p e.symm; omega
  · intro e; have := h.own g e.symm; omega
theorem itSt.last (h : itSt p g s b d5 d10 d15 d20 d25 d27 d28 v27 v28 d29 v29 base0 v0 k xs w0 w) : itSt p g s b d5 d10 d15 d20 d25 d27 d28 v27 v28 true v28 base0 v0 k xs w0 w := ⟨h.it, h.foot, h.low, h.row, h.own, h.blk, h.new, fun _ => rfl⟩
end
set_option maxHeartbeats 4000000 in
theorem rItems_any (w : World) (p g : Nat) (s0 : ByteArray) (c0 : Bool) (h : IRd w p g s0 c0) :
    Calls Try.prog 55 #[.pointer (some ⟨p, 0, none⟩)] w fun e w' => ∃ v, e = .returned v ∧ w'.ownsRow w.heap.size 83 5 v (readItems s0 c0).length (flat (readItems s0 c0)) ∧ IRd w' p g (restItems s0) (brkItems s0 c0) ∧ Wire.Foot (some g) w w' := by
  have HF := Lib.hid (few_any w p g s0 c0 h)
  have HPG : Hid (p < w.heap.size ∧ g < w.heap.size) := Lib.hid h.lt
  have hfl := few_le s0
  clear h
  go_enter Try.func55, Try.ntmps55
  go_wp2_with fail
  refine HF.out.mono ?_
  rintro e w1 ⟨rfl, hi1, hf1⟩
  have HI1 := Lib.hid hi1
  have HF1 := Lib.hid hf1
  obtain ⟨N, hN⟩ : ∃ N, N = fewN s0 := ⟨_, rfl⟩
  obtain ⟨s1, hs1⟩ : ∃ s1, s1 = fewR s0 := ⟨_, rfl⟩
  obtain ⟨c1, hc1⟩ : ∃ c1, c1 = fewB s0 c0 := ⟨_, rfl⟩
  have HRI : Hid (readItems s0 c0 = (if brkL N s1 c1 then [] else readL N s1) ∧ restItems s0 = restL N s1 ∧ brkItems s0 c0 = brkL N s1 c1) := Lib.hid (by subst hN; subst hs1; subst hc1; exact ⟨rfl, rfl, rfl⟩)
  rw [← hN] at hfl ⊢
  rw [← hs1, ← hc1] at HI1
  clear hi1 hf1 HF hN hs1 hc1
  go_wp2_with fail
  go_loopw [3, 8] (fun v i wr => ∃ k : Nat, k ≤ N ∧ i = .int .i64 (k : Int) ∧ wr.ownsRow w.heap.size 83 5 v k (flat (readL k s1)) ∧ IRd wr p g (restL k s1) (brkL k s1 c1) ∧ Wire.Foot (some g) w wr) (fun _ i _ => N - (intOf i).toNat)
  case atStart => exact ⟨0, Nat.zero_le _, rfl, World.ownsRow_nil _ _ _ _, HI1.out, HF1.out⟩
  case round =>
    obtain ⟨k, hk, rfl, hrow, hir, hfr⟩ := hrel
    by_cases hlt : k < N
    · obtain ⟨s, hs⟩ : ∃ s, s = restL k s1 := ⟨_, rfl⟩
      obtain ⟨b, hb⟩ : ∃ b, b = brkL k s1 c1 := ⟨_, rfl⟩
      rw [← hs, ← hb] at hir
      have HS : Hid (restL (k + 1) s1 = r5 s ∧ brkL (k + 1) s1 c1 = b5 s b ∧ flat (readL (k + 1) s1) = flat (readL k s1) ++ (itOf s).vals) := Lib.hid ⟨by rw [hs]; rfl, by rw [hs, hb]; rfl, by rw [hs]; show flat (readL k s1 ++ [itOf (restL k s1)]) = _; unfold flat; rw [List.flatMap_append]; simp⟩
      have HK := Lib.hid (show k ≤ 1000000 by omega)
      have HFR := Lib.hid hfr
      have HI : Hid (∀ V : Nat → Value, itSt p g s b false false false false false false false (V 27) (V 28) false (V 29) w.heap.size u3 k (flat (readL k s1)) wr wr.drew) := Lib.hid fun V =>
        ⟨hir.later (Below.refl _ _).drew, Only.of_below (Below.refl _ _).drew, ⟨HPG.out.1, HPG.out.2, hfr.size⟩, fun _ => hrow.drew, fun i hi => (hrow.lt i hi).1, fun hd => (by cases hd), fun hd => (by cases hd), fun hd => (by cases hd)⟩
      clear hir hrow hs hb hfr
      go_wp2_with fail
      refine Reg.region_inv (by kernel_rfl) (fun i => ([some (u3), some (.pointer (some ⟨p, 0, none⟩)), some (.pointer (some ⟨p, 0, none⟩)), some (.pointer (some ⟨p, 0, none⟩)), some (.pointer (some ⟨g, 0, none⟩)), some (.int .i64 (IntKind.i64.wrap (num s 8 : Nat))), some (.pointer (some ⟨p, 0, none⟩)), some (.pointer (some ⟨p, 0, none⟩)), some (.pointer (some ⟨p, 0, none⟩)), some (.pointer (some ⟨g, 0, none⟩)), some (.int .i64 (IntKind.i64.wrap (num (r1 s) 8 : Nat))), some (.pointer (some ⟨p, 0, none⟩)), some (.pointer (some ⟨p, 0, none⟩)), some (.pointer (some ⟨p, 0, none⟩)), some (.pointer (some ⟨g, 0, none⟩)), some (.int .i64 (IntKind.i64.wrap (num (r2 s) 8 : Nat))), some (.pointer (some ⟨p, 0, none⟩)), some (.pointer (some ⟨p, 0, none⟩)), some (.pointer (some ⟨p, 0, none⟩)), some (.pointer (some ⟨g, 0, none⟩)), some (.bool (num (r3 s) 1 == 1)), some (.pointer (some ⟨p, 0, none⟩)), some (.pointer (some ⟨p, 0, none⟩)), some (.pointer (some ⟨p, 0, none⟩)), some (.pointer (some ⟨g, 0, none⟩)), some (.int .i64 (IntKind.i64.wrap (num (r4 s) 8 : Nat))), some (.agg #[.int .i64 (IntKind.i64.wrap (num s 8 : Nat)), .int .i64 (IntKind.i64.wrap (num (r1 s) 8 : Nat)), .int .i64 (IntKind.i64.wrap (num (r2 s) 8 : Nat)), .bool (num (r3 s) 1 == 1), .int .i64 (IntKind.i64.wrap (num (r4 s) 8 : Nat))]), none, none, none] : List (Option Value)).getD i none) (fun D V W => itSt p g s b (D 5) (D 10) (D 15) (D 20) (D 25) (D 27) (D 28) (V 27) (V 28) (D 29) (V 29) w.heap.size u3 k (flat (readL k s1)) wr W) (fun V => [(some 10, V 0), (some 11, V 1), (some 12, V 2), (some 13, V 3), (some 14, V 4), (some 15, V 5), (some 16, V 6), (some 17, V 7), (some 18, V 8), (some 19, V 9), (some 20, V 10), (some 21, V 11), (some 22, V 12), (some 23, V 13), (some 24, V 14), (some 25, V 15), (some 26, V 16), (some 27, V 17), (some 28, V 18), (some 29, V 19), (some 30, V 20), (some 31, V 21), (some 32, V 22), (some 33, V 23), (some 34, V 24), (some 35, V 25), (some 36, V 26), (some 37, V 27), (some 38, V 28), (some 3, V 29)]) (by kernel_rfl) (by kernel_rfl) (fun V => rfl) ?_ ?_ ?_
      · intro V
        exact HI.out V
      · intro i o ho
        have hi : i < 30 := (Array.getElem?_eq_some_iff.1 ho).1
        rcases i with _ | _ | _ | _ | _ | _ | _ | _ | _ | _ | _ | _ | _ | _ | _ | _ | _ | _ | _ | _ | _ | _ | _ | _ | _ | _ | _ | _ | _ | _ | i
        · obtain rfl := Option.some.inj ho
          intro D V ρ wi hE hI hDi hT hF hs hd hk
          have e3 : ρ (.tmp 3) = u3 := hs 3 (by kernel_rfl)
          clear hT hF hk
          exact Reg.Gives.value (v := u3) (w' := wi) (by go_simp) ⟨fun x h => Option.some.inj h, hI⟩
        · obtain rfl := Option.some.inj ho
          intro D V ρ wi hE hI hDi hT hF hs hd hk
          have e0 : ρ (.tmp 0) = .pointer (some ⟨p, 0, none⟩) := hs 0 (by kernel_rfl)
          clear hT hF hk
          exact Reg.Gives.value (v := .pointer (some ⟨p, 0, none⟩)) (w' := wi) (by go_simp) ⟨fun x h => Option.some.inj h, hI⟩
        · obtain rfl := Option.some.inj ho
          intro D V ρ wi hE hI hDi hT hF hs hd hk
          have e11 : ρ (.tmp 11) = .pointer (some ⟨p, 0, none⟩) := (hd 1 11 (by kernel_rfl) (by kernel_rfl) (by show _ < 43; decide)).trans (hk 1 (by kernel_rfl) _ rfl)
          clear hT hF hk
          exact Reg.Gives.value (v := .pointer (some ⟨p, 0, none⟩)) (w' := wi) (by go_simp) ⟨fun x h => Option.some.inj h, hI⟩
        · obtain rfl := Option.some.inj ho
          intro D V ρ wi hE hI hDi hT hF hs hd hk
          have e12 : ρ (.tmp 12) = .pointer (some ⟨p, 0, none⟩) := (hd 2 12 (by kernel_rfl) (by kernel_rfl) (by show _ < 43; decide)).trans (hk 2 (by kernel_rfl) _ rfl)
          clear hT hF hk
          exact Reg.Gives.value (v := .pointer (some ⟨p, 0, none⟩)) (w' := wi) (by go_simp) ⟨fun x h => Option.some.inj h, hI⟩
        · obtain rfl := Option.some.inj ho
          intro D V ρ wi hE hI hDi hT hF hs hd hk
          have e13 : ρ (.tmp 13) = .pointer (some ⟨p, 0, none⟩) := (hd 3 13 (by kernel_rfl) (by kernel_rfl) (by show _ < 43; decide)).trans (hk 3 (by kernel_rfl) _ rfl)
          clear hT hF hk
          have hx := hI.it.cell
          exact Reg.Gives.value (v := .pointer (some ⟨g, 0, none⟩)) (w' := wi) (by go_simp) ⟨fun x h => Option.some.inj h, hI⟩
        · obtain rfl := Option.some.inj ho
          intro D V ρ wi hE hI hDi hT hF hs hd hk
          have e14 : ρ (.tmp 14) = .pointer (some ⟨g, 0, none⟩) := (hd 4 14 (by kernel_rfl) (by kernel_rfl) (by show _ < 43; decide)).trans (hk 4 (by kernel_rfl) _ rfl)
          have hf := hE.func
          have hD5 : D 5 = false := hDi
          have hD10 : D 10 = false := hF 1 10 (by show _ < 30; decide) (by kernel_rfl)
          have hD15 : D 15 = false := hF 2 15 (by show _ < 30; decide) (by kernel_rfl)
          have hD20 : D 20 = false := hF 3 20 (by show _ < 30; decide) (by kernel_rfl)
          have hD25 : D 25 = false := hF 4 25 (by show _ < 30; decide) (by kernel_rfl)
          have hD27 : D 27 = false := hF 2 27 (by show _ < 30; decide) (by kernel_rfl)
          have hD28 : D 28 = false := hF 3 28 (by show _ < 30; decide) (by kernel_rfl)
          have hD29 : D 29 = false := hF 1 29 (by show _ < 30; decide) (by kernel_rfl)
          clear hT hF
          rw [hD5, hD10, hD15, hD20, hD25] at hI
          have hrd := hI.it.rd
          simp only [cond_false] at hrd
          refine Reg.Gives.call (f := 58) (args := #[.pointer (some ⟨g, 0, none⟩)]) (w' := wi) (by go_simp) ?_
          refine (rnumber_any wi (some g) _ _ hrd).mono ?_
          rintro e w'' ⟨rfl, hr', hf'⟩
          refine ⟨_, rfl, fun x h => Option.some.inj h, ?_⟩
          show itSt p g s b true (D 10) (D 15) (D 20) (D 25) (D 27) (D 28) (V 27) (V 28) (D 29) (V 29) w.heap.size u3 k (flat (readL k s1)) wr w''
          rw [hD10, hD15, hD20, hD25]
          have hr2 : Rd w'' (some g) (r1 s) (b1 s b) := hr'
          refine hI.move ?_ hf'
          simp only [cond_true, cond_false]
          exact hr2
        · obtain rfl := Option.some.inj ho
          intro D V ρ wi hE hI hDi hT hF hs hd hk
          have e0 : ρ (.tmp 0) = .pointer (some ⟨p, 0, none⟩) := hs 0 (by kernel_rfl)
          clear hT hF hk
          exact Reg.Gives.value (v := .pointer (some ⟨p, 0, none⟩)) (w' := wi) (by go_simp) ⟨fun x h => Option.some.inj h, hI⟩
        · obtain rfl := Option.some.inj ho
          intro D V ρ wi hE hI hDi hT hF hs hd hk
          have e16 : ρ (.tmp 16) = .pointer (some ⟨p, 0, none⟩) := (hd 6 16 (by kernel_rfl) (by kernel_rfl) (by show _ < 43; decide)).trans (hk 6 (by kernel_rfl) _ rfl)
          clear hT hF hk
          exact Reg.Gives.value (v := .pointer (some ⟨p, 0, none⟩)) (w' := wi) (by go_simp) ⟨fun x h => Option.some.inj h, hI⟩
        · obtain rfl := Option.some.inj ho
          intro D V ρ wi hE hI hDi hT hF hs hd hk
          have e17 : ρ (.tmp 17) = .pointer (some ⟨p, 0, none⟩) := (hd 7 17 (by kernel_rfl) (by kernel_rfl) (by show _ < 43; decide)).trans (hk 7 (by kernel_rfl) _ rfl)
          clear hT hF hk
          exact Reg.Gives.value (v := .pointer (some ⟨p, 0, none⟩)) (w' := wi) (by go_simp) ⟨fun x h => Option.some.inj h, hI⟩
        · obtain rfl := Option.some.inj ho
          intro D V ρ wi hE hI hDi hT hF hs hd hk
          have e18 : ρ (.tmp 18) = .pointer (some ⟨p, 0, none⟩) := (hd 8 18 (by kernel_rfl) (by kernel_rfl) (by show _ < 43; decide)).trans (hk 8 (by kernel_rfl) _ rfl)
          clear hT hF hk
          have hx := hI.it.cell
          exact Reg.Gives.value (v := .pointer (some ⟨g, 0, none⟩)) (w' := wi) (by go_simp) ⟨fun x h => Option.some.inj h, hI⟩
        · obtain rfl := Option.some.inj ho
          intro D V ρ wi hE hI hDi hT hF hs hd hk
          have e19 : ρ (.tmp 19) = .pointer (some ⟨g, 0, none⟩) := (hd 9 19 (by kernel_rfl) (by kernel_rfl) (by show _ < 43; decide)).trans (hk 9 (by kernel_rfl) _ rfl)
          have hf := hE.func
          have hD5 : D 5 = true := hT 1 5 (by kernel_rfl)
          have hD10 : D 10 = false := hDi
          have hD15 : D 15 = false := hF 1 15 (by show _ < 30; decide) (by kernel_rfl)
          have hD20 : D 20 = false := hF 2 20 (by show _ < 30; decide) (by kernel_rfl)
          have hD25 : D 25 = false := hF 3 25 (by show _ < 30; decide) (by kernel_rfl)
          have hD27 : D 27 = false := hF 2 27 (by show _ < 30; decide) (by kernel_rfl)
          have hD28 : D 28 = false := hF 3 28 (by show _ < 30; decide) (by kernel_rfl)
          have hD29 : D 29 = false := hF 1 29 (by show _ < 30; decide) (by kernel_rfl)
          clear hT hF
          rw [hD5, hD10, hD15, hD20, hD25] at hI
          have hrd := hI.it.rd
          simp only [cond_true, cond_false] at hrd
          refine Reg.Gives.call (f := 58) (args := #[.pointer (some ⟨g, 0, none⟩)]) (w' := wi) (by go_simp) ?_
          refine (rnumber_any wi (some g) _ _ hrd).mono ?_
          rintro e w'' ⟨rfl, hr', hf'⟩
          refine ⟨_, rfl, fun x h => Option.some.inj h, ?_⟩
          show itSt p g s b (D 5) true (D 15) (D 20) (D 25) (D 27) (D 28) (V 27) (V 28) (D 29) (V 29) w.heap.size u3 k (flat (readL k s1)) wr w''
          rw [hD5, hD15, hD20, hD25]
          have hr2 : Rd w'' (some g) (r2 s) (b2 s b) := hr'
          refine hI.move ?_ hf'
          simp only [cond_true, cond_false]
          exact hr2
        · obtain rfl := Option.some.inj ho
          intro D V ρ wi hE hI hDi hT hF hs hd hk
          have e0 : ρ (.tmp 0) = .pointer (some ⟨p, 0, none⟩) := hs 0 (by kernel_rfl)
          clear hT hF hk
          exact Reg.Gives.value (v := .pointer (some ⟨p, 0, none⟩)) (w' := wi) (by go_simp) ⟨fun x h => Option.some.inj h, hI⟩
        · obtain rfl := Option.some.inj ho
          intro D V ρ wi hE hI hDi hT hF hs hd hk
          have e21 : ρ (.tmp 21) = .pointer (some ⟨p, 0, none⟩) := (hd 11 21 (by kernel_rfl) (by kernel_rfl) (by show _ < 43; decide)).trans (hk 11 (by kernel_rfl) _ rfl)
          clear hT hF hk
          exact Reg.Gives.value (v := .pointer (some ⟨p, 0, none⟩)) (w' := wi) (by go_simp) ⟨fun x h => Option.some.inj h, hI⟩
        · obtain rfl := Option.some.inj ho
          intro D V ρ wi hE hI hDi hT hF hs hd hk
          have e22 : ρ (.tmp 22) = .pointer (some ⟨p, 0, none⟩) := (hd 12 22 (by kernel_rfl) (by kernel_rfl) (by show _ < 43; decide)).trans (hk 12 (by kernel_rfl) _ rfl)
          clear hT hF hk
          exact Reg.Gives.value (v := .pointer (some ⟨p, 0, none⟩)) (w' := wi) (by go_simp) ⟨fun x h => Option.some.inj h, hI⟩
        · obtain rfl := Option.some.inj ho
          intro D V ρ wi hE hI hDi hT hF hs hd hk
          have e23 : ρ (.tmp 23) = .pointer (some ⟨p, 0, none⟩) := (hd 13 23 (by kernel_rfl) (by kernel_rfl) (by show _ < 43; decide)).trans (hk 13 (by kernel_rfl) _ rfl)
          clear hT hF hk
          have hx := hI.it.cell
          exact Reg.Gives.value (v := .pointer (some ⟨g, 0, none⟩)) (w' := wi) (by go_simp) ⟨fun x h => Option.some.inj h, hI⟩
        · obtain rfl := Option.some.inj ho
          intro D V ρ wi hE hI hDi hT hF hs hd hk
          have e24 : ρ (.tmp 24) = .pointer (some ⟨g, 0, none⟩) := (hd 14 24 (by kernel_rfl) (by kernel_rfl) (by show _ < 43; decide)).trans (hk 14 (by kernel_rfl) _ rfl)
          have hf := hE.func
          have hD5 : D 5 = true := hT 2 5 (by kernel_rfl)
          have hD10 : D 10 = true := hT 1 10 (by kernel_rfl)
          have hD15 : D 15 = false := hDi
          have hD20 : D 20 = false := hF 1 20 (by show _ < 30; decide) (by kernel_rfl)
          have hD25 : D 25 = false := hF 2 25 (by show _ < 30; decide) (by kernel_rfl)
          have hD27 : D 27 = false := hF 2 27 (by show _ < 30; decide) (by kernel_rfl)
          have hD28 : D 28 = false := hF 3 28 (by show _ < 30; decide) (by kernel_rfl)
          have hD29 : D 29 = false := hF 1 29 (by show _ < 30; decide) (by kernel_rfl)
          clear hT hF
          rw [hD5, hD10, hD15, hD20, hD25] at hI
          have hrd := hI.it.rd
          simp only [cond_true, cond_false] at hrd
          refine Reg.Gives.call (f := 58) (args := #[.pointer (some ⟨g, 0, none⟩)]) (w' := wi) (by go_simp) ?_
          refine (rnumber_any wi (some g) _ _ hrd).mono ?_
          rintro e w'' ⟨rfl, hr', hf'⟩
          refine ⟨_, rfl, fun x h => Option.some.inj h, ?_⟩
          show itSt p g s b (D 5) (D 10) true (D 20) (D 25) (D 27) (D 28) (V 27) (V 28) (D 29) (V 29) w.heap.size u3 k (flat (readL k s1)) wr w''
          rw [hD5, hD10, hD20, hD25]
          have hr2 : Rd w'' (some g) (r3 s) (b3 s b) := hr'
          refine hI.move ?_ hf'
          simp only [cond_true, cond_false]
          exact hr2
        · obtain rfl := Option.some.inj ho
          intro D V ρ wi hE hI hDi hT hF hs hd hk
          have e0 : ρ (.tmp 0) = .pointer (some ⟨p, 0, none⟩) := hs 0 (by kernel_rfl)
          clear hT hF hk
          exact Reg.Gives.value (v := .pointer (some ⟨p, 0, none⟩)) (w' := wi) (by go_simp) ⟨fun x h => Option.some.inj h, hI⟩
        · obtain rfl := Option.some.inj ho
          intro D V ρ wi hE hI hDi hT hF hs hd hk
          have e26 : ρ (.tmp 26) = .pointer (some ⟨p, 0, none⟩) := (hd 16 26 (by kernel_rfl) (by kernel_rfl) (by show _ < 43; decide)).trans (hk 16 (by kernel_rfl) _ rfl)
          clear hT hF hk
          exact Reg.Gives.value (v := .pointer (some ⟨p, 0, none⟩)) (w' := wi) (by go_simp) ⟨fun x h => Option.some.inj h, hI⟩
        · obtain rfl := Option.some.inj ho
          intro D V ρ wi hE hI hDi hT hF hs hd hk
          have e27 : ρ (.tmp 27) = .pointer (some ⟨p, 0, none⟩) := (hd 17 27 (by kernel_rfl) (by kernel_rfl) (by show _ < 43; decide)).trans (hk 17 (by kernel_rfl) _ rfl)
          clear hT hF hk
          exact Reg.Gives.value (v := .pointer (some ⟨p, 0, none⟩)) (w' := wi) (by go_simp) ⟨fun x h => Option.some.inj h, hI⟩
        · obtain rfl := Option.some.inj ho
          intro D V ρ wi hE hI hDi hT hF hs hd hk
          have e28 : ρ (.tmp 28) = .pointer (some ⟨p, 0, none⟩) := (hd 18 28 (by kernel_rfl) (by kernel_rfl) (by show _ < 43; decide)).trans (hk 18 (by kernel_rfl) _ rfl)
          clear hT hF hk
          have hx := hI.it.cell
          exact Reg.Gives.value (v := .pointer (some ⟨g, 0, none⟩)) (w' := wi) (by go_simp) ⟨fun x h => Option.some.inj h, hI⟩
        · obtain rfl := Option.some.inj ho
          intro D V ρ wi hE hI hDi hT hF hs hd hk
          have e29 : ρ (.tmp 29) = .pointer (some ⟨g, 0, none⟩) := (hd 19 29 (by kernel_rfl) (by kernel_rfl) (by show _ < 43; decide)).trans (hk 19 (by kernel_rfl) _ rfl)
          have hf := hE.func
          have hD5 : D 5 = true := hT 3 5 (by kernel_rfl)
          have hD10 : D 10 = true := hT 2 10 (by kernel_rfl)
          have hD15 : D 15 = true := hT 1 15 (by kernel_rfl)
          have hD20 : D 20 = false := hDi
          have hD25 : D 25 = false := hF 1 25 (by show _ < 30; decide) (by kernel_rfl)
          have hD27 : D 27 = false := hF 2 27 (by show _ < 30; decide) (by kernel_rfl)
          have hD28 : D 28 = false := hF 2 28 (by show _ < 30; decide) (by kernel_rfl)
          have hD29 : D 29 = false := hF 1 29 (by show _ < 30; decide) (by kernel_rfl)
          clear hT hF
          rw [hD5, hD10, hD15, hD20, hD25] at hI
          have hrd := hI.it.rd
          simp only [cond_true, cond_false] at hrd
          refine Reg.Gives.call (f := 57) (args := #[.pointer (some ⟨g, 0, none⟩)]) (w' := wi) (by go_simp) ?_
          refine (rbool_any wi (some g) _ _ hrd).mono ?_
          rintro e w'' ⟨rfl, hr', hf'⟩
          refine ⟨_, rfl, fun x h => Option.some.inj h, ?_⟩
          show itSt p g s b (D 5) (D 10) (D 15) true (D 25) (D 27) (D 28) (V 27) (V 28) (D 29) (V 29) w.heap.size u3 k (flat (readL k s1)) wr w''
          rw [hD5, hD10, hD15, hD25]
          have hr2 : Rd w'' (some g) (r4 s) (b4 s b) := hr'
          refine hI.move ?_ hf'
          simp only [cond_true, cond_false]
          exact hr2
        · obtain rfl := Option.some.inj ho
          intro D V ρ wi hE hI hDi hT hF hs hd hk
          have e0 : ρ (.tmp 0) = .pointer (some ⟨p, 0, none⟩) := hs 0 (by kernel_rfl)
          clear hT hF hk
          exact Reg.Gives.value (v := .pointer (some ⟨p, 0, none⟩)) (w' := wi) (by go_simp) ⟨fun x h => Option.some.inj h, hI⟩
        · obtain rfl := Option.some.inj ho
          intro D V ρ wi hE hI hDi hT hF hs hd hk
          have e31 : ρ (.tmp 31) = .pointer (some ⟨p, 0, none⟩) := (hd 21 31 (by kernel_rfl) (by kernel_rfl) (by show _ < 43; decide)).trans (hk 21 (by kernel_rfl) _ rfl)
          clear hT hF hk
          exact Reg.Gives.value (v := .pointer (some ⟨p, 0, none⟩)) (w' := wi) (by go_simp) ⟨fun x h => Option.some.inj h, hI⟩
        · obtain rfl := Option.some.inj ho
          intro D V ρ wi hE hI hDi hT hF hs hd hk
          have e32 : ρ (.tmp 32) = .pointer (some ⟨p, 0, none⟩) := (hd 22 32 (by kernel_rfl) (by kernel_rfl) (by show _ < 43; decide)).trans (hk 22 (by kernel_rfl) _ rfl)
          clear hT hF hk
          exact Reg.Gives.value (v := .pointer (some ⟨p, 0, none⟩)) (w' := wi) (by go_simp) ⟨fun x h => Option.some.inj h, hI⟩
        · obtain rfl := Option.some.inj ho
          intro D V ρ wi hE hI hDi hT hF hs hd hk
          have e33 : ρ (.tmp 33) = .pointer (some ⟨p, 0, none⟩) := (hd 23 33 (by kernel_rfl) (by kernel_rfl) (by show _ < 43; decide)).trans (hk 23 (by kernel_rfl) _ rfl)
          clear hT hF hk
          have hx := hI.it.cell
          exact Reg.Gives.value (v := .pointer (some ⟨g, 0, none⟩)) (w' := wi) (by go_simp) ⟨fun x h => Option.some.inj h, hI⟩
        · obtain rfl := Option.some.inj ho
          intro D V ρ wi hE hI hDi hT hF hs hd hk
          have e34 : ρ (.tmp 34) = .pointer (some ⟨g, 0, none⟩) := (hd 24 34 (by kernel_rfl) (by kernel_rfl) (by show _ < 43; decide)).trans (hk 24 (by kernel_rfl) _ rfl)
          have hf := hE.func
          have hD5 : D 5 = true := hT 4 5 (by kernel_rfl)
          have hD10 : D 10 = true := hT 3 10 (by kernel_rfl)
          have hD15 : D 15 = true := hT 2 15 (by kernel_rfl)
          have hD20 : D 20 = true := hT 1 20 (by kernel_rfl)
          have hD25 : D 25 = false := hDi
          have hD27 : D 27 = false := hF 2 27 (by show _ < 30; decide) (by kernel_rfl)
          have hD28 : D 28 = false := hF 1 28 (by show _ < 30; decide) (by kernel_rfl)
          have hD29 : D 29 = false := hF 1 29 (by show _ < 30; decide) (by kernel_rfl)
          clear hT hF
          rw [hD5, hD10, hD15, hD20, hD25] at hI
          have hrd := hI.it.rd
          simp only [cond_true, cond_false] at hrd
          refine Reg.Gives.call (f := 58) (args := #[.pointer (some ⟨g, 0, none⟩)]) (w' := wi) (by go_simp) ?_
          refine (rnumber_any wi (some g) _ _ hrd).mono ?_
          rintro e w'' ⟨rfl, hr', hf'⟩
          refine ⟨_, rfl, fun x h => Option.some.inj h, ?_⟩
          show itSt p g s b (D 5) (D 10) (D 15) (D 20) true (D 27) (D 28) (V 27) (V 28) (D 29) (V 29) w.heap.size u3 k (flat (readL k s1)) wr w''
          rw [hD5, hD10, hD15, hD20]
          have hr2 : Rd w'' (some g) (r5 s) (b5 s b) := hr'
          refine hI.move ?_ hf'
          simp only [cond_true]
          exact hr2
        · obtain rfl := Option.some.inj ho
          intro D V ρ wi hE hI hDi hT hF hs hd hk
          have e15 : ρ (.tmp 15) = .int .i64 (IntKind.i64.wrap (num s 8 : Nat)) := (hd 5 15 (by kernel_rfl) (by kernel_rfl) (by show _ < 43; decide)).trans (hk 5 (by kernel_rfl) _ rfl)
          have e20 : ρ (.tmp 20) = .int .i64 (IntKind.i64.wrap (num (r1 s) 8 : Nat)) := (hd 10 20 (by kernel_rfl) (by kernel_rfl) (by show _ < 43; decide)).trans (hk 10 (by kernel_rfl) _ rfl)
          have e25 : ρ (.tmp 25) = .int .i64 (IntKind.i64.wrap (num (r2 s) 8 : Nat)) := (hd 15 25 (by kernel_rfl) (by kernel_rfl) (by show _ < 43; decide)).trans (hk 15 (by kernel_rfl) _ rfl)
          have e30 : ρ (.tmp 30) = .bool (num (r3 s) 1 == 1) := (hd 20 30 (by kernel_rfl) (by kernel_rfl) (by show _ < 43; decide)).trans (hk 20 (by kernel_rfl) _ rfl)
          have e35 : ρ (.tmp 35) = .int .i64 (IntKind.i64.wrap (num (r4 s) 8 : Nat)) := (hd 25 35 (by kernel_rfl) (by kernel_rfl) (by show _ < 43; decide)).trans (hk 25 (by kernel_rfl) _ rfl)
          clear hT hF hk
          exact Reg.Gives.value (v := .agg #[.int .i64 (IntKind.i64.wrap (num s 8 : Nat)), .int .i64 (IntKind.i64.wrap (num (r1 s) 8 : Nat)), .int .i64 (IntKind.i64.wrap (num (r2 s) 8 : Nat)), .bool (num (r3 s) 1 == 1), .int .i64 (IntKind.i64.wrap (num (r4 s) 8 : Nat))]) (w' := wi) (by go_simp) ⟨fun x h => Option.some.inj h, hI⟩
        · obtain rfl := Option.some.inj ho
          intro D V ρ wi hE hI hDi hT hF hs hd hk
          have e36 : ρ (.tmp 36) = .agg #[.int .i64 (IntKind.i64.wrap (num s 8 : Nat)), .int .i64 (IntKind.i64.wrap (num (r1 s) 8 : Nat)), .int .i64 (IntKind.i64.wrap (num (r2 s) 8 : Nat)), .bool (num (r3 s) 1 == 1), .int .i64 (IntKind.i64.wrap (num (r4 s) 8 : Nat))] := (hd 26 36 (by kernel_rfl) (by kernel_rfl) (by show _ < 43; decide)).trans (hk 26 (by kernel_rfl) _ rfl)
          have hD5 : D 5 = true := hT 2 5 (by kernel_rfl)
          have hD10 : D 10 = true := hT 2 10 (by kernel_rfl)
          have hD15 : D 15 = true := hT 2 15 (by kernel_rfl)
          have hD20 : D 20 = true := hT 2 20 (by kernel_rfl)
          have hD25 : D 25 = true := hT 2 25 (by kernel_rfl)
          have hD27 : D 27 = false := hDi
          have hD28 : D 28 = false := hF 1 28 (by show _ < 30; decide) (by kernel_rfl)
          have hD29 : D 29 = false := hF 1 29 (by show _ < 30; decide) (by kernel_rfl)
          clear hT hF
          rw [hD27, hD28] at hI
          exact Reg.Gives.value (v := .slice (some ⟨wi.heap.size, 0, none⟩) 1 1) (w' := wi.alloc (.cells (itOf s).vals.toArray 83)) (by rw [itOf_vals]; go_simp) ⟨fun x h => (by cases h), by show itSt p g s b (D 5) (D 10) (D 15) (D 20) (D 25) true (D 28) (.slice (some ⟨wi.heap.size, 0, none⟩) 1 1) (V 28) (D 29) (V 29) w.heap.size u3 k (flat (readL k s1)) wr _; rw [hD28]; exact hI.alloc⟩
        · obtain rfl := Option.some.inj ho
          intro D V ρ wi hE hI hDi hT hF hs hd hk
          have e10 : ρ (.tmp 10) = u3 := (hd 0 10 (by kernel_rfl) (by kernel_rfl) (by show _ < 43; decide)).trans (hk 0 (by kernel_rfl) _ rfl)
          have e37 : ρ (.tmp 37) = V 27 := hd 27 37 (by kernel_rfl) (by kernel_rfl) (by show _ < 43; decide)
          have hD5 : D 5 = true := hT 3 5 (by kernel_rfl)
          have hD10 : D 10 = true := hT 3 10 (by kernel_rfl)
          have hD15 : D 15 = true := hT 3 15 (by kernel_rfl)
          have hD20 : D 20 = true := hT 2 20 (by kernel_rfl)
          have hD25 : D 25 = true := hT 1 25 (by kernel_rfl)
          have hD27 : D 27 = true := hT 1 27 (by kernel_rfl)
          have hD28 : D 28 = false := hDi
          have hD29 : D 29 = false := hF 1 29 (by show _ < 30; decide) (by kernel_rfl)
          clear hT hF
          rw [hD5, hD10, hD15, hD20, hD25, hD27, hD28, hD29] at hI
          obtain ⟨j, hv, hj0, hcj⟩ := hI.blk rfl rfl
          rw [hv] at e37
          obtain ⟨v', w'', hrun, hrow, hgr, hat⟩ := append_item hI.row' hcj HK.out hI.base
          exact Reg.Gives.value (v := v') (w' := w'') (Reg.exec_append rfl e10 e37 hrun) ⟨fun x h => (by cases h), by show itSt p g s b (D 5) (D 10) (D 15) (D 20) (D 25) (D 27) true (V 27) v' (D 29) (V 29) w.heap.size u3 k (flat (readL k s1)) wr w''; rw [hD5, hD10, hD15, hD20, hD25, hD27, hD29]; exact hI.append hrow hgr hat⟩
        · obtain rfl := Option.some.inj ho
          intro D V ρ wi hE hI hDi hT hF hs hd hk
          have e38 : ρ (.tmp 38) = V 28 := hd 28 38 (by kernel_rfl) (by kernel_rfl) (by show _ < 43; decide)
          have hD5 : D 5 = true := hT 1 5 (by kernel_rfl)
          have hD10 : D 10 = true := hT 1 10 (by kernel_rfl)
          have hD15 : D 15 = true := hT 1 15 (by kernel_rfl)
          have hD20 : D 20 = true := hT 1 20 (by kernel_rfl)
          have hD25 : D 25 = true := hT 1 25 (by kernel_rfl)
          have hD27 : D 27 = true := hT 1 27 (by kernel_rfl)
          have hD28 : D 28 = true := hT 1 28 (by kernel_rfl)
          have hD29 : D 29 = false := hDi
          clear hT hF
          exact Reg.Gives.value (v := V 28) (w' := wi) (by go_simp) ⟨fun x h => (by cases h), by show itSt p g s b (D 5) (D 10) (D 15) (D 20) (D 25) (D 27) (D 28) (V 27) (V 28) true (V 28) w.heap.size u3 k (flat (readL k s1)) wr wi; exact hI.last⟩
        · omega
      · intro V w1 hk hI
        simp only [Reg.putsO, List.foldl_cons, List.foldl_nil, Act.put, List.setIfInBounds_toArray, List.set_cons_succ, List.set_cons_zero]
        replace hI : itSt p g s b true true true true true true true (V 27) (V 28) true (V 29) w.heap.size u3 k (flat (readL k s1)) wr w1 := hI
        clear hk
        have hnew := hI.new rfl
        rw [← hI.lst rfl, ← HS.out.2.2] at hnew
        have hir := hI.it
        simp only [cond_true] at hir
        rw [← HS.out.1, ← HS.out.2.1] at hir
        have HNW := Lib.hid hnew
        have HIR := Lib.hid hir
        have HFW : Hid (Wire.Foot (some g) w w1) := Lib.hid (HFR.out.trans hI.foot fun i hi e => by
          rcases e with e | e
          · exact congrArg some e
          · have := hI.own i e.symm; omega)
        clear hI hnew hir
        go_wp2_with fail
        go_roundw
        case rel => exact ⟨k + 1, by omega, by go_num, HNW.out, HIR.out, HFW.out⟩
        case measure => simp [intOf]; omega
    · obtain rfl : k = N := by omega
      have HROW := Lib.hid hrow
      have HIR := Lib.hid hir
      have HFR := Lib.hid hfr
      have HBR := Lib.hid (broken_any wr p g _ _ hir)
      clear hrow hir hfr
      go_wp2_with fail
      refine HBR.out.mono ?_
      rintro e w2 ⟨rfl, rfl⟩
      by_cases hb : brkL k s1 c1 = true
      · rw [hb]
        have HV : Hid (readItems s0 c0 = []) := Lib.hid (by rw [HRI.out.1, if_pos hb])
        have HIQ := HIR.out
        rw [← HRI.out.2.1, ← HRI.out.2.2] at HIQ
        have HIQ := Lib.hid HIQ
        clear hb
        go_wp2_with fail
        go_returns
        exact ⟨.slice none 0 0, rfl, by rw [HV.out]; exact World.ownsRow_nil _ _ _ _, HIQ.out, HFR.out⟩
      · have hbf : brkL k s1 c1 = false := by simpa using hb
        rw [hbf]
        have HV : Hid (readItems s0 c0 = readL k s1) := Lib.hid (by rw [HRI.out.1, if_neg hb])
        have HL := Lib.hid (readL_length k s1)
        have HIQ := HIR.out
        rw [← HRI.out.2.1, ← HRI.out.2.2] at HIQ
        have HIQ := Lib.hid HIQ
        clear hb hbf
        go_wp2_with fail
        go_returns
        exact ⟨u3, rfl, by rw [HV.out, HL.out]; exact HROW.out, HIQ.out, HFR.out⟩
end Go.Proofs.Ytfnkjdkckpdfhaa.Item
