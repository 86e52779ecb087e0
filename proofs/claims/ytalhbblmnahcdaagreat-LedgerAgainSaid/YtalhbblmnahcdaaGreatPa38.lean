/-
  Layer 6: whether names, items and nodes are right: what the code does, and the document's own answers.
  Conditions: none.
-/
import Derived.Test.YtalhbblmnahcdaaGreatPa7
namespace Go.Proofs.YtalhbblmnahcdaaGreat.Item
open Go.RowKit Go.Proofs.YtalhbblmnahcdaaGreat.Mem
def rightTid (t : Tid) : Bool := decide (1 ≤ t.node ∧ t.node ≤ 16 ∧ 1 ≤ t.epoch ∧ t.epoch ≤ 1099511627776 ∧ 1 ≤ t.seq ∧ t.seq ≤ 1099511627776)
def rightIt (x : It) : Bool := decide (0 ≤ x.cell ∧ x.cell ≤ 15 ∧ 0 ≤ x.version ∧ x.version ≤ 1099511627775 ∧ (x.write = true ∨ x.new = 0))
/-- Items that are right, and whose cells rise from one on. -/
def rightFrom (last : Int) : List It → Bool
 | [] => true
 | x :: l => decide (last < x.cell) && rightIt x && rightFrom x.cell l
def rightItems (l : List It) : Bool := rightFrom (-1) l && decide (0 < l.length)
def nodesFrom (last : Int) : List Int → Bool
 | [] => true
 | n :: l => decide (last < n ∧ n ≤ 16) && nodesFrom n l
def rightNodes (l : List Int) : Bool := nodesFrom 0 l
/-- The cell ahead of place k. -/
def lastC (l : List It) (k : Nat) : Int := if k = 0 then -1 else ((l[k - 1]?).map (·.cell)).getD 0
def lastN (l : List Int) (k : Nat) : Int := if k = 0 then 0 else (l[k - 1]?).getD 0
theorem lastC_succ (l : List It) (k : Nat) (h : k < l.length) : lastC l (k + 1) = l[k].cell := by
 unfold lastC
 rw [if_neg (by omega), Nat.add_sub_cancel, List.getElem?_eq_getElem h]
 rfl
theorem lastN_succ (l : List Int) (k : Nat) (h : k < l.length) : lastN l (k + 1) = l[k] := by
 unfold lastN
 rw [if_neg (by omega), Nat.add_sub_cancel, List.getElem?_eq_getElem h]
 rfl
theorem rightFrom_step (l : List It) (k : Nat) (h : k < l.length) : rightFrom (lastC l k) (l.drop k) = (decide (lastC l k < l[k].cell) && rightIt l[k] && rightFrom (lastC l (k + 1)) (l.drop (k + 1))) := by
 rw [lastC_succ l k h, List.drop_eq_getElem_cons h]
 rfl
theorem nodesFrom_step (l : List Int) (k : Nat) (h : k < l.length) : nodesFrom (lastN l k) (l.drop k) = (decide (lastN l k < l[k] ∧ l[k] ≤ 16) && nodesFrom (lastN l (k + 1)) (l.drop (k + 1))) := by
 rw [lastN_succ l k h, List.drop_eq_getElem_cons h]
 rfl
theorem within_any (n a b : Int) (w : World) : Calls Tryz.prog 106 #[.int .i64 n, .int .i64 a, .int .i64 b] w fun e w' => e = .returned (.bool (decide (a ≤ n ∧ n ≤ b))) ∧ w = w' := by
 by_cases h1 : a ≤ n
 ·by_cases h2 : n ≤ b
  ·have HV := Lib.hid (decide_eq_true (And.intro h1 h2))
   go_enter Tryz.func106, Tryz.ntmps106
   go_wp2
   go_returns
   exact ⟨ret_bool HV.out, rfl⟩
  ·rw [decide_eq_false (fun h : a ≤ n ∧ n ≤ b => h2 h.2)]
   go_enter Tryz.func106, Tryz.ntmps106
   go_wp2
   go_returns
   exact ⟨rfl, rfl⟩
 ·rw [decide_eq_false (fun h : a ≤ n ∧ n ≤ b => h1 h.1)]
  go_enter Tryz.func106, Tryz.ntmps106
  go_wp2
  go_returns
  exact ⟨rfl, rfl⟩
theorem rightTid_any (t : Tid) (w : World) : Calls Tryz.prog 90 #[t.val] w fun e w' => e = .returned (.bool (rightTid t)) ∧ Below w.heap.size w w' := by
 obtain ⟨n, p, s⟩ := t
 have HB := Lib.hid (below_alloc w (.cells #[.int .i64 n, .int .i64 p, .int .i64 s] 47))
 unfold Tid.val
 by_cases h1 : 1 ≤ n ∧ n ≤ 16
 ·have H1 := Lib.hid (decide_eq_true h1)
  by_cases h2 : 1 ≤ p ∧ p ≤ 1099511627776
  ·have H2 := Lib.hid (decide_eq_true h2)
   have HV : Hid (rightTid ⟨n, p, s⟩ = decide (1 ≤ s ∧ s ≤ 1099511627776)) := Lib.hid (by
    have a1 := h1.1; have a2 := h1.2; have a3 := h2.1; have a4 := h2.2
    simp [rightTid, a1, a2, a3, a4])
   clear h1 h2
   go_enter Tryz.func90, Tryz.ntmps90
   go_wp2_with fail
   refine (within_any n 1 16 _).mono ?_
   rintro e w1 ⟨rfl, rfl⟩
   rw [H1.out]
   go_wp2_with fail
   refine (within_any p 1 1099511627776 _).mono ?_
   rintro e w1 ⟨rfl, rfl⟩
   rw [H2.out]
   go_wp2_with fail
   refine (within_any s 1 1099511627776 _).mono ?_
   rintro e w1 ⟨rfl, rfl⟩
   rw [← HV.out]
   go_wp2_with fail
   go_returns
   exact ⟨rfl, HB.out⟩
  ·have H2 := Lib.hid (decide_eq_false h2)
   have HV : Hid (rightTid ⟨n, p, s⟩ = false) := Lib.hid (decide_eq_false fun h => h2 ⟨h.2.2.1, h.2.2.2.1⟩)
   clear h1 h2
   go_enter Tryz.func90, Tryz.ntmps90
   go_wp2_with fail
   refine (within_any n 1 16 _).mono ?_
   rintro e w1 ⟨rfl, rfl⟩
   rw [H1.out]
   go_wp2_with fail
   refine (within_any p 1 1099511627776 _).mono ?_
   rintro e w1 ⟨rfl, rfl⟩
   rw [H2.out]
   go_wp2_with fail
   go_returns
   exact ⟨ret_bool HV.out, HB.out⟩
 ·have H1 := Lib.hid (decide_eq_false h1)
  have HV : Hid (rightTid ⟨n, p, s⟩ = false) := Lib.hid (decide_eq_false fun h => h1 ⟨h.1, h.2.1⟩)
  clear h1
  go_enter Tryz.func90, Tryz.ntmps90
  go_wp2_with fail
  refine (within_any n 1 16 _).mono ?_
  rintro e w1 ⟨rfl, rfl⟩
  rw [H1.out]
  go_wp2_with fail
  go_returns
  exact ⟨ret_bool HV.out, HB.out⟩
theorem rightItem_any (x : It) (w : World) : Calls Tryz.prog 107 #[x.val] w fun e w' => e = .returned (.bool (rightIt x)) ∧ Below w.heap.size w w' := by
 obtain ⟨c, v, a, wr, n⟩ := x
 have HB := Lib.hid (below_alloc w (.cells #[.int .i64 c, .int .i64 v, .int .i64 a, .bool wr, .int .i64 n] 72))
 have HV := Lib.hid (show rightIt ⟨c, v, a, wr, n⟩ = decide (0 ≤ c ∧ c ≤ 15 ∧ 0 ≤ v ∧ v ≤ 1099511627775 ∧ (wr = true ∨ n = 0)) from rfl)
 unfold It.val
 by_cases h1 : 0 ≤ c ∧ c ≤ 15
 ·have H1 := Lib.hid (decide_eq_true h1)
  by_cases h2 : 0 ≤ v ∧ v ≤ 1099511627775
  ·have H2 := Lib.hid (decide_eq_true h2)
   cases wr
   ·have HW : Hid (rightIt ⟨c, v, a, false, n⟩ = (n == 0)) := Lib.hid (by
     rw [HV.out]
     have a1 := h1.1; have a2 := h1.2; have a3 := h2.1; have a4 := h2.2
     simp only [a1, a2, a3, a4, true_and]
     by_cases h : n = 0 <;> simp [h])
    clear h1 h2 HV
    go_enter Tryz.func107, Tryz.ntmps107
    go_wp2_with fail
    refine (within_any c 0 15 _).mono ?_
    rintro e w1 ⟨rfl, rfl⟩
    rw [H1.out]
    go_wp2_with fail
    refine (within_any v 0 1099511627775 _).mono ?_
    rintro e w1 ⟨rfl, rfl⟩
    rw [H2.out]
    go_wp2_with fail
    go_returns
    exact ⟨ret_bool HW.out, HB.out⟩
   ·rw [decide_eq_true (by exact ⟨h1.1, h1.2, h2.1, h2.2, Or.inl rfl⟩)] at HV
    clear h1 h2
    go_enter Tryz.func107, Tryz.ntmps107
    go_wp2_with fail
    refine (within_any c 0 15 _).mono ?_
    rintro e w1 ⟨rfl, rfl⟩
    rw [H1.out]
    go_wp2_with fail
    refine (within_any v 0 1099511627775 _).mono ?_
    rintro e w1 ⟨rfl, rfl⟩
    rw [H2.out]
    go_wp2_with fail
    go_returns
    exact ⟨ret_bool HV.out, HB.out⟩
  ·have H2 := Lib.hid (decide_eq_false h2)
   rw [decide_eq_false (fun h => h2 ⟨h.2.2.1, h.2.2.2.1⟩)] at HV
   clear h1 h2
   go_enter Tryz.func107, Tryz.ntmps107
   go_wp2_with fail
   refine (within_any c 0 15 _).mono ?_
   rintro e w1 ⟨rfl, rfl⟩
   rw [H1.out]
   go_wp2_with fail
   refine (within_any v 0 1099511627775 _).mono ?_
   rintro e w1 ⟨rfl, rfl⟩
   rw [H2.out]
   go_wp2_with fail
   go_returns
   exact ⟨ret_bool HV.out, HB.out⟩
 ·have H1 := Lib.hid (decide_eq_false h1)
  rw [decide_eq_false (fun h => h1 ⟨h.1, h.2.1⟩)] at HV
  clear h1
  go_enter Tryz.func107, Tryz.ntmps107
  go_wp2_with fail
  refine (within_any c 0 15 _).mono ?_
  rintro e w1 ⟨rfl, rfl⟩
  rw [H1.out]
  go_wp2_with fail
  go_returns
  exact ⟨ret_bool HV.out, HB.out⟩
set_option maxHeartbeats 1000000 in
theorem rightItems_any (A : Option Addr) (l : List It) (cap : Nat) (w : World) (hs : Items w A l) (hm : l.length ≤ 1000000) :
  Calls Tryz.prog 91 #[.slice A l.length cap] w fun e w' => e = .returned (.bool (rightItems l)) ∧ Below w.heap.size w w' := by
 have HS := Lib.hid hs
 clear hs
 go_enter Tryz.func91, Tryz.ntmps91
 go_wp2_with fail
 go_loopw [3, 5, 8] (fun last _ i wr => ∃ k : Nat, k ≤ l.length ∧ i = .int .i64 (k : Int) ∧ last = .int .i64 (lastC l k) ∧ Hid (rightFrom (-1) l = rightFrom (lastC l k) (l.drop k)) ∧ Below w.heap.size w wr) (fun _ _ i _ => l.length - (intOf i).toNat)
 case atStart => exact ⟨0, Nat.zero_le _, rfl, rfl, Lib.hid rfl, Below.refl _ _⟩
 case round =>
  obtain ⟨k, hk, rfl, rfl, hz, hbr⟩ := hrel
  by_cases hlt : k < l.length
  ·obtain ⟨b, off, rfl, hi⟩ := HS.out k hlt
   have hi1 := hi.below hbr hi.lt
   have c0 := hi1.cell
   have c1 := hi1.version
   have c2 := hi1.value
   have c3 := hi1.write
   have c4 := hi1.new
   have HST := Lib.hid (rightFrom_step l k hlt)
   have HLS := Lib.hid (lastC_succ l k hlt)
   have HBR := Lib.hid hbr
   clear hi hi1 hbr
   generalize l[k] = x at *
   have HR := Lib.hid (rightItem_any x)
   obtain ⟨c, v, a, wt, n⟩ := x
   simp only at c0 c1 c2 c3 c4
   have HBA := Lib.hid (HBR.out.alloc HBR.out.size (.cells #[.int .i64 c, .int .i64 v, .int .i64 a, .bool wt, .int .i64 n] 72))
   have HCN := Lib.hid (cells_new wr 72 [.int .i64 c, .int .i64 v, .int .i64 a, .bool wt, .int .i64 n] #[.int .i64 c, .int .i64 v, .int .i64 a, .bool wt, .int .i64 n] rfl)
   generalize lastC l k = last at *
   unfold It.val at HR
   by_cases h1 : c ≤ last
   ·have HF : Hid (rightItems l = false) := Lib.hid (by
     unfold rightItems
     rw [hz.out, HST.out, decide_eq_false (by show ¬ last < c; omega)]
     rfl)
    go_wp2_with fail
    go_returns
    exact ⟨ret_bool HF.out, HBA.out⟩
   ·go_wp2_with fail
    refine (HR.out _).mono ?_
    rintro e w1 ⟨rfl, hb1⟩
    have HB1 := Lib.hid (HBA.out.trans (hb1.mono HBA.out.size))
    have hcn := HCN.out.later (hb1.mono (by simp))
    have d0 := hcn.cell (j := 0) rfl
    clear hcn hb1
    by_cases hr : rightIt ⟨c, v, a, wt, n⟩ = true
    ·have HZ : Hid (rightFrom (-1) l = rightFrom (lastC l (k + 1)) (l.drop (k + 1))) := Lib.hid (by
      rw [hz.out, HST.out, decide_eq_true (by show last < c; omega), hr]
      rfl)
     rw [hr]
     clear hr c0 c1 c2 c3 c4
     go_wp2_with fail
     go_roundw
     case rel => exact ⟨k + 1, by omega, by go_num, by rw [HLS.out], HZ, HB1.out⟩
     case measure => simp [intOf]; omega
    ·have hrf : rightIt ⟨c, v, a, wt, n⟩ = false := by simpa using hr
     have HF : Hid (rightItems l = false) := Lib.hid (by
      unfold rightItems
      rw [hz.out, HST.out, hrf, Bool.and_false]
      rfl)
     rw [hrf]
     clear hr hrf c0 c1 c2 c3 c4
     go_wp2_with fail
     go_returns
     exact ⟨ret_bool HF.out, HB1.out⟩
  ·have HV : Hid (rightItems l = decide (0 < l.length)) := Lib.hid (by
    unfold rightItems
    rw [hz.out, List.drop_of_length_le (by omega)]
    rfl)
   have HBR := Lib.hid hbr
   clear hbr hz
   by_cases h0 : 0 < l.length
   ·rw [decide_eq_true h0] at HV
    go_wp2_with fail
    go_returns
    exact ⟨ret_bool HV.out, HBR.out⟩
   ·rw [decide_eq_false h0] at HV
    go_wp2_with fail
    go_returns
    exact ⟨ret_bool HV.out, HBR.out⟩
def refItems (k : Nat) : Nat → Value → World → Prop
 | 0, v, _ => v = .int .i64 (k : Int)
 | 1, v, _ => v = .bool false
 | 2, v, _ => v = .bool false
 | 3, v, _ => v = undef
 | 4, v, _ => v = undef
 | 5, v, _ => v = undef
 | 6, v, _ => v = undef
 | 7, v, _ => v = undef
 | 8, v, _ => v = undef
 | 9, v, _ => v = undef
 | 10, v, _ => v = undef
 | 11, v, _ => v = undef
 | 12, v, _ => v = .bool false
 | _, _, _ => True
set_option maxHeartbeats 1000000 in
theorem rightNodes_any (A : Option Addr) (l : List Int) (cap : Nat) (w : World) (hs : Nums w A l) (hm : l.length ≤ 1000000) :
  Calls Tryz.prog 92 #[.slice A l.length cap] w fun e w' => e = .returned (.bool (rightNodes l)) ∧ w = w' := by
 have HS := Lib.hid hs
 clear hs
 go_enter Tryz.func92, Tryz.ntmps92
 go_wp2_with fail
 go_loop [3, 5, 8] (fun last _ i => ∃ k : Nat, k ≤ l.length ∧ i = .int .i64 (k : Int) ∧ last = .int .i64 (lastN l k) ∧ Hid (rightNodes l = nodesFrom (lastN l k) (l.drop k))) (fun _ _ i => l.length - (intOf i).toNat)
 case atStart => exact ⟨0, Nat.zero_le _, rfl, rfl, Lib.hid rfl⟩
 case round =>
  obtain ⟨k, hk, rfl, rfl, hz⟩ := hrel
  by_cases hlt : k < l.length
  ·obtain ⟨b, off, rfl, c0⟩ := HS.out k hlt
   have HST := Lib.hid (nodesFrom_step l k hlt)
   have HLS := Lib.hid (lastN_succ l k hlt)
   generalize l[k] = n at *
   generalize lastN l k = last at *
   by_cases h1 : n ≤ last
   ·have HF : Hid (rightNodes l = false) := Lib.hid (by rw [hz.out, HST.out, decide_eq_false (by omega)]; rfl)
    go_wp2_with fail
    go_returns
    exact ⟨ret_bool HF.out, rfl⟩
   ·by_cases h2 : n ≤ 16
    ·have HZ : Hid (rightNodes l = nodesFrom (lastN l (k + 1)) (l.drop (k + 1))) := Lib.hid (by rw [hz.out, HST.out, decide_eq_true (by omega)]; rfl)
     go_wp2_with fail
     go_round
     case rel => exact ⟨k + 1, by omega, by go_num, by rw [HLS.out], HZ⟩
     case measure => simp [intOf]; omega
    ·have HF : Hid (rightNodes l = false) := Lib.hid (by rw [hz.out, HST.out, decide_eq_false (by omega)]; rfl)
     go_wp2_with fail
     go_returns
     exact ⟨ret_bool HF.out, rfl⟩
  ·have HF : Hid (rightNodes l = true) := Lib.hid (by rw [hz.out, List.drop_of_length_le (by omega)]; rfl)
   go_wp2_with fail
   go_returns
   exact ⟨ret_bool HF.out, rfl⟩
end Go.Proofs.YtalhbblmnahcdaaGreat.Item
