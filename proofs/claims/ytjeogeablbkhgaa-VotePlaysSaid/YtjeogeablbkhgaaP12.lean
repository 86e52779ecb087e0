/-
  Layer 6: whether names, items and nodes are right: what the code does, and the document's own answers.
  Conditions: none.
-/
import Derived.Test.YtjeogeablbkhgaaP11
namespace Go.Proofs.Ytjeogeablbkhgaa.Item
open Go.RowKit Go.Proofs.Ytjeogeablbkhgaa.Mem
def rightTid (t : Tid) : Bool := decide (1 ≤ t.node ∧ t.node ≤ 16 ∧ 1 ≤ t.epoch ∧ t.epoch ≤ 1099511627776 ∧ 1 ≤ t.seq ∧ t.seq ≤ 1099511627776)
def rightIt (x : It) : Bool := decide (0 ≤ x.cell ∧ x.cell ≤ 15 ∧ 0 ≤ x.version ∧ x.version ≤ 1099511627775 ∧ (x.write = true ∨ x.new = 0))
/-- Items that are right, and whose cells rise from one on. -/
def rightFrom (last : Int) : List It → Bool
 | [] => true
 | x :: l => decide (last < x.cell) && rightIt x && rightFrom x.cell l
def rightItems (l : List It) : Bool := rightFrom (-1) l && decide (0 < l.length)
def nodesFrom (last : Int) : List Int → Bool
 | [] => true
 | n :: l => decide (last < n ∧ n ≤ 16) && nodesFrom n l
def rightNodes (l : List Int) : Bool := nodesFrom 0 l
/-- The cell ahead of place k. -/
def lastC (l : List It) (k : Nat) : Int := if k = 0 then -1 else ((l[k - 1]?).map (·.cell)).getD 0
def lastN (l : List Int) (k : Nat) : Int := if k = 0 then 0 else (l[k - 1]?).getD 0
theorem lastC_succ (l : List It) (k : Nat) (h : k < l.length) : lastC l (k + 1) = l[k].cell := by
 unfold lastC
 rw [if_neg (by omega), Nat.add_sub_cancel, List.getElem?_eq_getElem h]
 rfl
theorem lastN_succ (l : List Int) (k : Nat) (h : k < l.length) : lastN l (k + 1) = l[k] := by
 unfold lastN
 rw [if_neg (by omega), Nat.add_sub_cancel, List.getElem?_eq_getElem h]
 rfl
theorem rightFrom_step (l : List It) (k : Nat) (h : k < l.length) : rightFrom (lastC l k) (l.drop k) = (decide (lastC l k < l[k].cell) && rightIt l[k] && rightFrom (lastC l (k + 1)) (l.drop (k + 1))) := by
 rw [lastC_succ l k h, List.drop_eq_getElem_cons h]
 rfl
theorem nodesFrom_step (l : List Int) (k : Nat) (h : k < l.length) : nodesFrom (lastN l k) (l.drop k) = (decide (lastN l k < l[k] ∧ l[k] ≤ 16) && nodesFrom (lastN l (k + 1)) (l.drop (k + 1))) := by
 rw [lastN_succ l k h, List.drop_eq_getElem_cons h]
 rfl
theorem within_any (n a b : Int) (w : World) : Calls Try.prog 38 #[.int .i64 n, .int .i64 a, .int .i64 b] w fun e w' => e = .returned (.bool (decide (a ≤ n ∧ n ≤ b))) ∧ w = w' := by
 by_cases h1 : a ≤ n
 ·by_cases h2 : n ≤ b
  ·have HV := Lib.hid (decide_eq_true (And.intro h1 h2))
   go_enter Try.func38, Try.ntmps38
   go_wp2
   go_returns
   exact ⟨ret_bool HV.out, rfl⟩
  ·rw [decide_eq_false (fun h : a ≤ n ∧ n ≤ b => h2 h.2)]
   go_enter Try.func38, Try.ntmps38
   go_wp2
   go_returns
   exact ⟨rfl, rfl⟩
 ·rw [decide_eq_false (fun h : a ≤ n ∧ n ≤ b => h1 h.1)]
  go_enter Try.func38, Try.ntmps38
  go_wp2
  go_returns
  exact ⟨rfl, rfl⟩
theorem rightTid_any (t : Tid) (w : World) : Calls Try.prog 27 #[t.val] w fun e w' => e = .returned (.bool (rightTid t)) ∧ Below w.heap.size w w' := by
 obtain ⟨n, p, s⟩ := t
 have HB := Lib.hid (below_alloc w (.cells #[.int .i64 n, .int .i64 p, .int .i64 s] 23))
 unfold Tid.val
 by_cases h1 : 1 ≤ n ∧ n ≤ 16
 ·have H1 := Lib.hid (decide_eq_true h1)
  by_cases h2 : 1 ≤ p ∧ p ≤ 1099511627776
  ·have H2 := Lib.hid (decide_eq_true h2)
   have HV : Hid (rightTid ⟨n, p, s⟩ = decide (1 ≤ s ∧ s ≤ 1099511627776)) := Lib.hid (by
    have a1 := h1.1; have a2 := h1.2; have a3 := h2.1; have a4 := h2.2
    simp [rightTid, a1, a2, a3, a4])
   clear h1 h2
   go_enter Try.func27, Try.ntmps27
   go_wp2_with fail
   refine (within_any n 1 16 _).mono ?_
   rintro e w1 ⟨rfl, rfl⟩
   rw [H1.out]
   go_wp2_with fail
   refine (within_any p 1 1099511627776 _).mono ?_
   rintro e w1 ⟨rfl, rfl⟩
   rw [H2.out]
   go_wp2_with fail
   refine (within_any s 1 1099511627776 _).mono ?_
   rintro e w1 ⟨rfl, rfl⟩
   rw [← HV.out]
   go_wp2_with fail
   go_returns
   exact ⟨rfl, HB.out⟩
  ·have H2 := Lib.hid (decide_eq_false h2)
   have HV : Hid (rightTid ⟨n, p, s⟩ = false) := Lib.hid (decide_eq_false fun h => h2 ⟨h.2.2.1, h.2.2.2.1⟩)
   clear h1 h2
   go_enter Try.func27, Try.ntmps27
   go_wp2_with fail
   refine (within_any n 1 16 _).mono ?_
   rintro e w1 ⟨rfl, rfl⟩
   rw [H1.out]
   go_wp2_with fail
   refine (within_any p 1 1099511627776 _).mono ?_
   rintro e w1 ⟨rfl, rfl⟩
   rw [H2.out]
   go_wp2_with fail
   go_returns
   exact ⟨ret_bool HV.out, HB.out⟩
 ·have H1 := Lib.hid (decide_eq_false h1)
  have HV : Hid (rightTid ⟨n, p, s⟩ = false) := Lib.hid (decide_eq_false fun h => h1 ⟨h.1, h.2.1⟩)
  clear h1
  go_enter Try.func27, Try.ntmps27
  go_wp2_with fail
  refine (within_any n 1 16 _).mono ?_
  rintro e w1 ⟨rfl, rfl⟩
  rw [H1.out]
  go_wp2_with fail
  go_returns
  exact ⟨ret_bool HV.out, HB.out⟩
theorem refRightTid_any (t : Tid) (w : World) : Calls Try.prog 30 #[t.val] w fun e w' => e = .returned (.bool (rightTid t)) ∧ Below w.heap.size w w' := by
 obtain ⟨n, p, s⟩ := t
 have HB := Lib.hid (below_alloc w (.cells #[.int .i64 n, .int .i64 p, .int .i64 s] 23))
 have HV := Lib.hid (show rightTid ⟨n, p, s⟩ = decide (1 ≤ n ∧ n ≤ 16 ∧ 1 ≤ p ∧ p ≤ 1099511627776 ∧ 1 ≤ s ∧ s ≤ 1099511627776) from rfl)
 unfold Tid.val
 by_cases h1 : 1 ≤ n
 ·by_cases h2 : n ≤ 16
  ·by_cases h3 : 1 ≤ p
   ·by_cases h4 : p ≤ 1099511627776
    ·by_cases h5 : 1 ≤ s
     ·by_cases h6 : s ≤ 1099511627776
      ·rw [decide_eq_true (by exact ⟨h1, h2, h3, h4, h5, h6⟩)] at HV
       go_enter Try.func30, Try.ntmps30
       go_wp2
       go_returns
       exact ⟨ret_bool HV.out, HB.out⟩
      ·rw [decide_eq_false (by omega)] at HV
       go_enter Try.func30, Try.ntmps30
       go_wp2
       go_returns
       exact ⟨ret_bool HV.out, HB.out⟩
     ·rw [decide_eq_false (by omega)] at HV
      go_enter Try.func30, Try.ntmps30
      go_wp2
      go_returns
      exact ⟨ret_bool HV.out, HB.out⟩
    ·rw [decide_eq_false (by omega)] at HV
     go_enter Try.func30, Try.ntmps30
     go_wp2
     go_returns
     exact ⟨ret_bool HV.out, HB.out⟩
   ·rw [decide_eq_false (by omega)] at HV
    go_enter Try.func30, Try.ntmps30
    go_wp2
    go_returns
    exact ⟨ret_bool HV.out, HB.out⟩
  ·rw [decide_eq_false (by omega)] at HV
   go_enter Try.func30, Try.ntmps30
   go_wp2
   go_returns
   exact ⟨ret_bool HV.out, HB.out⟩
 ·rw [decide_eq_false (by omega)] at HV
  go_enter Try.func30, Try.ntmps30
  go_wp2
  go_returns
  exact ⟨ret_bool HV.out, HB.out⟩
theorem rightItem_any (x : It) (w : World) : Calls Try.prog 48 #[x.val] w fun e w' => e = .returned (.bool (rightIt x)) ∧ Below w.heap.size w w' := by
 obtain ⟨c, v, a, wr, n⟩ := x
 have HB := Lib.hid (below_alloc w (.cells #[.int .i64 c, .int .i64 v, .int .i64 a, .bool wr, .int .i64 n] 60))
 have HV := Lib.hid (show rightIt ⟨c, v, a, wr, n⟩ = decide (0 ≤ c ∧ c ≤ 15 ∧ 0 ≤ v ∧ v ≤ 1099511627775 ∧ (wr = true ∨ n = 0)) from rfl)
 unfold It.val
 by_cases h1 : 0 ≤ c ∧ c ≤ 15
 ·have H1 := Lib.hid (decide_eq_true h1)
  by_cases h2 : 0 ≤ v ∧ v ≤ 1099511627775
  ·have H2 := Lib.hid (decide_eq_true h2)
   cases wr
   ·have HW : Hid (rightIt ⟨c, v, a, false, n⟩ = (n == 0)) := Lib.hid (by
     rw [HV.out]
     have a1 := h1.1; have a2 := h1.2; have a3 := h2.1; have a4 := h2.2
     simp only [a1, a2, a3, a4, true_and]
     by_cases h : n = 0 <;> simp [h])
    clear h1 h2 HV
    go_enter Try.func48, Try.ntmps48
    go_wp2_with fail
    refine (within_any c 0 15 _).mono ?_
    rintro e w1 ⟨rfl, rfl⟩
    rw [H1.out]
    go_wp2_with fail
    refine (within_any v 0 1099511627775 _).mono ?_
    rintro e w1 ⟨rfl, rfl⟩
    rw [H2.out]
    go_wp2_with fail
    go_returns
    exact ⟨ret_bool HW.out, HB.out⟩
   ·rw [decide_eq_true (by exact ⟨h1.1, h1.2, h2.1, h2.2, Or.inl rfl⟩)] at HV
    clear h1 h2
    go_enter Try.func48, Try.ntmps48
    go_wp2_with fail
    refine (within_any c 0 15 _).mono ?_
    rintro e w1 ⟨rfl, rfl⟩
    rw [H1.out]
    go_wp2_with fail
    refine (within_any v 0 1099511627775 _).mono ?_
    rintro e w1 ⟨rfl, rfl⟩
    rw [H2.out]
    go_wp2_with fail
    go_returns
    exact ⟨ret_bool HV.out, HB.out⟩
  ·have H2 := Lib.hid (decide_eq_false h2)
   rw [decide_eq_false (fun h => h2 ⟨h.2.2.1, h.2.2.2.1⟩)] at HV
   clear h1 h2
   go_enter Try.func48, Try.ntmps48
   go_wp2_with fail
   refine (within_any c 0 15 _).mono ?_
   rintro e w1 ⟨rfl, rfl⟩
   rw [H1.out]
   go_wp2_with fail
   refine (within_any v 0 1099511627775 _).mono ?_
   rintro e w1 ⟨rfl, rfl⟩
   rw [H2.out]
   go_wp2_with fail
   go_returns
   exact ⟨ret_bool HV.out, HB.out⟩
 ·have H1 := Lib.hid (decide_eq_false h1)
  rw [decide_eq_false (fun h => h1 ⟨h.1, h.2.1⟩)] at HV
  clear h1
  go_enter Try.func48, Try.ntmps48
  go_wp2_with fail
  refine (within_any c 0 15 _).mono ?_
  rintro e w1 ⟨rfl, rfl⟩
  rw [H1.out]
  go_wp2_with fail
  go_returns
  exact ⟨ret_bool HV.out, HB.out⟩
set_option maxHeartbeats 1000000 in
theorem rightItems_any (A : Option Addr) (l : List It) (cap : Nat) (w : World) (hs : Items w A l) (hm : l.length ≤ 1000000) :
  Calls Try.prog 39 #[.slice A l.length cap] w fun e w' => e = .returned (.bool (rightItems l)) ∧ Below w.heap.size w w' := by
 have HS := Lib.hid hs
 clear hs
 go_enter Try.func39, Try.ntmps39
 go_wp2_with fail
 go_loopw [3, 5, 8] (fun last _ i wr => ∃ k : Nat, k ≤ l.length ∧ i = .int .i64 (k : Int) ∧ last = .int .i64 (lastC l k) ∧ Hid (rightFrom (-1) l = rightFrom (lastC l k) (l.drop k)) ∧ Below w.heap.size w wr) (fun _ _ i _ => l.length - (intOf i).toNat)
 case atStart => exact ⟨0, Nat.zero_le _, rfl, rfl, Lib.hid rfl, Below.refl _ _⟩
 case round =>
  obtain ⟨k, hk, rfl, rfl, hz, hbr⟩ := hrel
  by_cases hlt : k < l.length
  ·obtain ⟨b, off, rfl, hi⟩ := HS.out k hlt
   have hi1 := hi.below hbr hi.lt
   have c0 := hi1.cell
   have c1 := hi1.version
   have c2 := hi1.value
   have c3 := hi1.write
   have c4 := hi1.new
   have HST := Lib.hid (rightFrom_step l k hlt)
   have HLS := Lib.hid (lastC_succ l k hlt)
   have HBR := Lib.hid hbr
   clear hi hi1 hbr
   generalize l[k] = x at *
   have HR := Lib.hid (rightItem_any x)
   obtain ⟨c, v, a, wt, n⟩ := x
   simp only at c0 c1 c2 c3 c4
   have HBA := Lib.hid (HBR.out.alloc HBR.out.size (.cells #[.int .i64 c, .int .i64 v, .int .i64 a, .bool wt, .int .i64 n] 60))
   have HCN := Lib.hid (cells_new wr 60 [.int .i64 c, .int .i64 v, .int .i64 a, .bool wt, .int .i64 n] #[.int .i64 c, .int .i64 v, .int .i64 a, .bool wt, .int .i64 n] rfl)
   generalize lastC l k = last at *
   unfold It.val at HR
   by_cases h1 : c ≤ last
   ·have HF : Hid (rightItems l = false) := Lib.hid (by
     unfold rightItems
     rw [hz.out, HST.out, decide_eq_false (by show ¬ last < c; omega)]
     rfl)
    go_wp2_with fail
    go_returns
    exact ⟨ret_bool HF.out, HBA.out⟩
   ·go_wp2_with fail
    refine (HR.out _).mono ?_
    rintro e w1 ⟨rfl, hb1⟩
    have HB1 := Lib.hid (HBA.out.trans (hb1.mono HBA.out.size))
    have hcn := HCN.out.later (hb1.mono (by simp))
    have d0 := hcn.cell (j := 0) rfl
    clear hcn hb1
    by_cases hr : rightIt ⟨c, v, a, wt, n⟩ = true
    ·have HZ : Hid (rightFrom (-1) l = rightFrom (lastC l (k + 1)) (l.drop (k + 1))) := Lib.hid (by
      rw [hz.out, HST.out, decide_eq_true (by show last < c; omega), hr]
      rfl)
     rw [hr]
     clear hr c0 c1 c2 c3 c4
     go_wp2_with fail
     go_roundw
     case rel => exact ⟨k + 1, by omega, by go_num, by rw [HLS.out], HZ, HB1.out⟩
     case measure => simp [intOf]; omega
    ·have hrf : rightIt ⟨c, v, a, wt, n⟩ = false := by simpa using hr
     have HF : Hid (rightItems l = false) := Lib.hid (by
      unfold rightItems
      rw [hz.out, HST.out, hrf, Bool.and_false]
      rfl)
     rw [hrf]
     clear hr hrf c0 c1 c2 c3 c4
     go_wp2_with fail
     go_returns
     exact ⟨ret_bool HF.out, HB1.out⟩
  ·have HV : Hid (rightItems l = decide (0 < l.length)) := Lib.hid (by
    unfold rightItems
    rw [hz.out, List.drop_of_length_le (by omega)]
    rfl)
   have HBR := Lib.hid hbr
   clear hbr hz
   by_cases h0 : 0 < l.length
   ·rw [decide_eq_true h0] at HV
    go_wp2_with fail
    go_returns
    exact ⟨ret_bool HV.out, HBR.out⟩
   ·rw [decide_eq_false h0] at HV
    go_wp2_with fail
    go_returns
    exact ⟨ret_bool HV.out, HBR.out⟩
theorem lastC_at (l : List It) (k : Nat) (h : k - 1 < l.length) (h0 : 0 < k) : lastC l k = l[k - 1].cell := by
 unfold lastC
 rw [if_neg (by omega), List.getElem?_eq_getElem h]
 rfl
def refItems (k : Nat) : Nat → Value → World → Prop
 | 0, v, _ => v = .int .i64 (k : Int)
 | 1, v, _ => v = .bool false
 | 2, v, _ => v = .bool false
 | 3, v, _ => v = undef
 | 4, v, _ => v = undef
 | 5, v, _ => v = undef
 | 6, v, _ => v = undef
 | 7, v, _ => v = undef
 | 8, v, _ => v = undef
 | 9, v, _ => v = undef
 | 10, v, _ => v = undef
 | 11, v, _ => v = undef
 | 12, v, _ => v = .bool false
 | _, _, _ => True
set_option maxHeartbeats 1000000 in
theorem refRightItems_any (A : Option Addr) (l : List It) (cap : Nat) (w : World) (hs : Items w A l) (hm : l.length ≤ 1000000) :
  Calls Try.prog 31 #[.slice A l.length cap] w fun e w' => e = .returned (.bool (rightItems l)) ∧ Below w.heap.size w w' := by
 have HS := Lib.hid hs
 clear hs
 go_enter Try.func31, Try.ntmps31
 go_wp2_with fail
 go_loopw [3, 4] (fun i _ wr => ∃ k : Nat, k ≤ l.length ∧ i = .int .i64 (k : Int) ∧ Hid (rightFrom (-1) l = rightFrom (lastC l k) (l.drop k)) ∧ Below w.heap.size w wr) (fun i _ _ => l.length - (intOf i).toNat)
 case atStart => exact ⟨0, Nat.zero_le _, rfl, Lib.hid rfl, Below.refl _ _⟩
 case round =>
  obtain ⟨k, hk, rfl, hz, hbr⟩ := hrel
  by_cases hlt : k < l.length
  ·obtain ⟨b, off, rfl, hi⟩ := HS.out k hlt
   have hi1 := hi.below hbr hi.lt
   have c0 := hi1.cell
   have c1 := hi1.version
   have c2 := hi1.value
   have c3 := hi1.write
   have c4 := hi1.new
   have HST := Lib.hid (rightFrom_step l k hlt)
   have HBR := Lib.hid hbr
   have HPR : Hid (0 < k → ∃ p : Int, lastC l k = p ∧ ∀ wi, Below wr.heap.size wr wi → wi.cell? ⟨b, off + (k - 1) * 5, none⟩ = some (.int .i64 p)) := Lib.hid fun h0 => by
    obtain ⟨b', off', he, hp⟩ := HS.out (k - 1) (by omega)
    obtain ⟨rfl, rfl⟩ : b' = b ∧ off' = off := by simpa [eq_comm] using he
    refine ⟨_, lastC_at l k (by omega) h0, fun wi hb => ?_⟩
    have hp1 := (hp.below hbr hp.lt).later hb
    exact hp1.cell
   clear hi hi1 hbr
   generalize l[k] = x at *
   obtain ⟨c, v, a, wt, n⟩ := x
   simp only at c0 c1 c2 c3 c4
   have HBA := Lib.hid (HBR.out.alloc HBR.out.size (.cells #[.int .i64 c, .int .i64 v, .int .i64 a, .bool wt, .int .i64 n] 60))
   have HBB := Lib.hid (below_alloc wr (.cells #[.int .i64 c, .int .i64 v, .int .i64 a, .bool wt, .int .i64 n] 60))
   by_cases hr : rightIt ⟨c, v, a, wt, n⟩ = true
   ·have hr' := of_decide_eq_true hr
    obtain ⟨r1, r2, r3, r4, r5⟩ := hr'
    simp only at r1 r2 r3 r4 r5
    by_cases h0 : 0 < k
    ·obtain ⟨p, hp, hcp⟩ := HPR.out h0
     have cp := hcp _ HBB.out.drew
     have cp2 := hcp _ HBB.out
     have HZ : Hid (rightFrom (-1) l = (decide (p < c) && rightFrom (lastC l (k + 1)) (l.drop (k + 1)))) := Lib.hid (by
      rw [hz.out, HST.out, hr, hp, Bool.and_true])
     have hw1 : IntKind.i64.wrap ((k : Int) - 1) = (k : Int) - 1 := IntWalk.i64_in _ (by omega)
     have hn1 : 0 ≤ (k : Int) - 1 := by omega
     have hn2 : (k : Int) - 1 < (l.length : Int) := by omega
     have hn3 : ((k : Int) - 1).toNat = k - 1 := by omega
     have hn4 : 0 < (k : Int) := by omega
     clear hr hp hcp
     by_cases hpc : p < c
     ·rw [decide_eq_true hpc, Bool.true_and] at HZ
      cases wt
      ·obtain rfl : n = 0 := by simpa using r5
       clear r5
       go_wp2_with fail
       go_region
       clear cp cp2 hw1 hn1 hn2 hn3
       go_wp2_with fail
       go_roundw
       case rel => exact ⟨k + 1, by omega, by go_num, HZ, HBA.out.drew⟩
       case measure => simp [intOf]; omega
      ·clear r5
       go_wp2_with fail
       go_region
       clear cp cp2 hw1 hn1 hn2 hn3
       go_wp2_with fail
       go_roundw
       case rel => exact ⟨k + 1, by omega, by go_num, HZ, HBA.out.drew⟩
       case measure => simp [intOf]; omega
     ·rw [decide_eq_false hpc, Bool.false_and] at HZ
      have HF : Hid (rightItems l = false) := Lib.hid (by unfold rightItems; rw [HZ.out]; rfl)
      cases wt
      ·obtain rfl : n = 0 := by simpa using r5
       clear r5
       go_wp2_with fail
       go_region
       clear cp cp2 hw1 hn1 hn2 hn3
       go_wp2_with fail
       go_returns
       exact ⟨ret_bool HF.out, HBA.out.drew⟩
      ·clear r5
       go_wp2_with fail
       go_region
       clear cp cp2 hw1 hn1 hn2 hn3
       go_wp2_with fail
       go_returns
       exact ⟨ret_bool HF.out, HBA.out.drew⟩
    ·have hk0 : k = 0 := by omega
     have HZ : Hid (rightFrom (-1) l = rightFrom (lastC l (k + 1)) (l.drop (k + 1))) := Lib.hid (by
      rw [hz.out, HST.out, hr, decide_eq_true (by rw [hk0]; show (-1 : Int) < c; omega)]
      rfl)
     have hkn : ¬ 0 < (k : Int) := by omega
     have HK0 := Lib.hid hk0
     clear hr h0 HPR hk0 hkn
     cases wt
     ·obtain rfl : n = 0 := by simpa using r5
      clear r5
      go_wp2_with fail
      refine Reg.region_heavy (by kernel_rfl) 12 [12] (refItems k) (fun a => Below wr.heap.size wr a) (fun a => Below wr.heap.size wr a) (fun V => [(some 43, V 0), (some 44, V 1), (some 45, V 2), (some 46, V 3), (some 47, V 4), (some 48, V 5), (some 49, V 6), (some 50, V 7), (some 51, V 8), (some 52, V 9), (some 53, V 10), (some 54, V 11), (some 55, V 12)]) (by kernel_rfl) (by kernel_rfl) (by kernel_rfl) (fun V => rfl) ?_ ?_ ?_
      ·exact HBB.out.drew
      ·intro i o ho
       have hi : i < 13 := (Array.getElem?_eq_some_iff.1 ho).1
       rcases i with _ | _ | _ | _ | _ | _ | _ | _ | _ | _ | _ | _ | _ | i
       rotate_right
       ·omega
       all_goals obtain rfl := Option.some.inj ho
       all_goals intro ρ wi hE hI hs hd
       all_goals try dsimp only at hI
       ·have e3 : ρ (.tmp 3) = .int .i64 (k : Int) := hs 3; exact Reg.gw hI
       ·obtain ⟨_, rfl, e43⟩ := hd 0 43; have hc := hE.const; have hx := HK0.out; exact Reg.gw hI
       ·obtain ⟨_, rfl, e44⟩ := hd 1 44; exact Reg.gw hI
       ·exact Reg.no hI
       ·exact Reg.no hI
       ·exact Reg.no hI
       ·exact Reg.no hI
       ·exact Reg.no hI
       ·exact Reg.no hI
       ·exact Reg.no hI
       ·exact Reg.no hI
       ·exact Reg.no hI
       ·obtain ⟨_, rfl, e45⟩ := hd 2 45; obtain ⟨_, rfl, e54⟩ := hd 11 54; have hc := hE.const; exact Reg.gw hI
      ·intro V w1 hV hI
       have hV12 : V 12 = .bool false := hV 12 (by decide) rfl
       simp only [Reg.putsO, List.foldl_cons, List.foldl_nil, Act.put, List.setIfInBounds_toArray, List.set_cons_succ, List.set_cons_zero, hV12]
       replace hI : (fun a => Below wr.heap.size wr a) w1 := hI
       clear hV hV12
       go_wp2_with fail
       go_roundw
       case rel => exact ⟨k + 1, by omega, by go_num, HZ, HBR.out.trans (hI.mono HBR.out.size)⟩
       case measure => simp [intOf]; omega
     ·clear r5
      go_wp2_with fail
      refine Reg.region_heavy (by kernel_rfl) 12 [12] (refItems k) (fun a => Below wr.heap.size wr a) (fun a => Below wr.heap.size wr a) (fun V => [(some 43, V 0), (some 44, V 1), (some 45, V 2), (some 46, V 3), (some 47, V 4), (some 48, V 5), (some 49, V 6), (some 50, V 7), (some 51, V 8), (some 52, V 9), (some 53, V 10), (some 54, V 11), (some 55, V 12)]) (by kernel_rfl) (by kernel_rfl) (by kernel_rfl) (fun V => rfl) ?_ ?_ ?_
      ·exact HBB.out.drew
      ·intro i o ho
       have hi : i < 13 := (Array.getElem?_eq_some_iff.1 ho).1
       rcases i with _ | _ | _ | _ | _ | _ | _ | _ | _ | _ | _ | _ | _ | i
       rotate_right
       ·omega
       all_goals obtain rfl := Option.some.inj ho
       all_goals intro ρ wi hE hI hs hd
       all_goals try dsimp only at hI
       ·have e3 : ρ (.tmp 3) = .int .i64 (k : Int) := hs 3; exact Reg.gw hI
       ·obtain ⟨_, rfl, e43⟩ := hd 0 43; have hc := hE.const; have hx := HK0.out; exact Reg.gw hI
       ·obtain ⟨_, rfl, e44⟩ := hd 1 44; exact Reg.gw hI
       ·exact Reg.no hI
       ·exact Reg.no hI
       ·exact Reg.no hI
       ·exact Reg.no hI
       ·exact Reg.no hI
       ·exact Reg.no hI
       ·exact Reg.no hI
       ·exact Reg.no hI
       ·exact Reg.no hI
       ·obtain ⟨_, rfl, e45⟩ := hd 2 45; obtain ⟨_, rfl, e54⟩ := hd 11 54; have hc := hE.const; exact Reg.gw hI
      ·intro V w1 hV hI
       have hV12 : V 12 = .bool false := hV 12 (by decide) rfl
       simp only [Reg.putsO, List.foldl_cons, List.foldl_nil, Act.put, List.setIfInBounds_toArray, List.set_cons_succ, List.set_cons_zero, hV12]
       replace hI : (fun a => Below wr.heap.size wr a) w1 := hI
       clear hV hV12
       go_wp2_with fail
       go_roundw
       case rel => exact ⟨k + 1, by omega, by go_num, HZ, HBR.out.trans (hI.mono HBR.out.size)⟩
       case measure => simp [intOf]; omega
   ·have hrf : rightIt ⟨c, v, a, wt, n⟩ = false := by simpa using hr
    have HF : Hid (rightItems l = false) := Lib.hid (by
     unfold rightItems
     rw [hz.out, HST.out, hrf, Bool.and_false]
     rfl)
    have hd := of_decide_eq_false hrf
    simp only at hd
    clear hr hrf HPR
    by_cases r1 : 0 ≤ c
    ·by_cases r2 : c ≤ 15
     ·by_cases r3 : 0 ≤ v
      ·by_cases r4 : v ≤ 1099511627775
       ·cases wt
        ·have r5 : ¬ n = 0 := fun h => hd ⟨r1, r2, r3, r4, Or.inr h⟩
         have r6 : (n != 0) = true := by simpa using r5
         clear hd
         go_wp2_with fail
         go_returns
         exact ⟨ret_bool HF.out, HBA.out⟩
        ·exact absurd (And.intro r1 (And.intro r2 (And.intro r3 (And.intro r4 (Or.inl rfl))))) hd
       ·clear hd
        go_wp2_with fail
        go_returns
        exact ⟨ret_bool HF.out, HBA.out⟩
      ·clear hd
       go_wp2_with fail
       go_returns
       exact ⟨ret_bool HF.out, HBA.out⟩
     ·clear hd
      go_wp2_with fail
      go_returns
      exact ⟨ret_bool HF.out, HBA.out⟩
    ·clear hd
     go_wp2_with fail
     go_returns
     exact ⟨ret_bool HF.out, HBA.out⟩
  ·have HV : Hid (rightItems l = decide (0 < l.length)) := Lib.hid (by
    unfold rightItems
    rw [hz.out, List.drop_of_length_le (by omega)]
    rfl)
   have HBR := Lib.hid hbr
   clear hbr hz
   by_cases h0 : 0 < l.length
   ·rw [decide_eq_true h0] at HV
    go_wp2_with fail
    go_returns
    exact ⟨ret_bool HV.out, HBR.out⟩
   ·rw [decide_eq_false h0] at HV
    go_wp2_with fail
    go_returns
    exact ⟨ret_bool HV.out, HBR.out⟩
set_option maxHeartbeats 1000000 in
theorem rightNodes_any (A : Option Addr) (l : List Int) (cap : Nat) (w : World) (hs : Nums w A l) (hm : l.length ≤ 1000000) :
  Calls Try.prog 40 #[.slice A l.length cap] w fun e w' => e = .returned (.bool (rightNodes l)) ∧ w = w' := by
 have HS := Lib.hid hs
 clear hs
 go_enter Try.func40, Try.ntmps40
 go_wp2_with fail
 go_loop [3, 5, 8] (fun last _ i => ∃ k : Nat, k ≤ l.length ∧ i = .int .i64 (k : Int) ∧ last = .int .i64 (lastN l k) ∧ Hid (rightNodes l = nodesFrom (lastN l k) (l.drop k))) (fun _ _ i => l.length - (intOf i).toNat)
 case atStart => exact ⟨0, Nat.zero_le _, rfl, rfl, Lib.hid rfl⟩
 case round =>
  obtain ⟨k, hk, rfl, rfl, hz⟩ := hrel
  by_cases hlt : k < l.length
  ·obtain ⟨b, off, rfl, c0⟩ := HS.out k hlt
   have HST := Lib.hid (nodesFrom_step l k hlt)
   have HLS := Lib.hid (lastN_succ l k hlt)
   generalize l[k] = n at *
   generalize lastN l k = last at *
   by_cases h1 : n ≤ last
   ·have HF : Hid (rightNodes l = false) := Lib.hid (by rw [hz.out, HST.out, decide_eq_false (by omega)]; rfl)
    go_wp2_with fail
    go_returns
    exact ⟨ret_bool HF.out, rfl⟩
   ·by_cases h2 : n ≤ 16
    ·have HZ : Hid (rightNodes l = nodesFrom (lastN l (k + 1)) (l.drop (k + 1))) := Lib.hid (by rw [hz.out, HST.out, decide_eq_true (by omega)]; rfl)
     go_wp2_with fail
     go_round
     case rel => exact ⟨k + 1, by omega, by go_num, by rw [HLS.out], HZ⟩
     case measure => simp [intOf]; omega
    ·have HF : Hid (rightNodes l = false) := Lib.hid (by rw [hz.out, HST.out, decide_eq_false (by omega)]; rfl)
     go_wp2_with fail
     go_returns
     exact ⟨ret_bool HF.out, rfl⟩
  ·have HF : Hid (rightNodes l = true) := Lib.hid (by rw [hz.out, List.drop_of_length_le (by omega)]; rfl)
   go_wp2_with fail
   go_returns
   exact ⟨ret_bool HF.out, rfl⟩
end Go.Proofs.Ytjeogeablbkhgaa.Item
