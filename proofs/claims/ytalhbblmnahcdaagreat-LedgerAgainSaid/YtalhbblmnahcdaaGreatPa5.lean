/-
  Layer 6: how names of transactions stand, and whether they are right: what the code does, and the document's own answers.
  Conditions: none.
-/
import Derived.Test.YtalhbblmnahcdaaGreatPa1
import Derived.Test.YtalhbblmnahcdaaGreatPa4
import Derived.BigRegion
namespace Go.Proofs.YtalhbblmnahcdaaGreat.Item
open Go.RowKit Go.Proofs.YtalhbblmnahcdaaGreat.Mem
/-- A name. -/
structure Tid where
 node : Int
 epoch : Int
 seq : Int
def Tid.vals (t : Tid) : List Value := [.int .i64 t.node, .int .i64 t.epoch, .int .i64 t.seq]
def Tid.val (t : Tid) : Value := .agg #[.int .i64 t.node, .int .i64 t.epoch, .int .i64 t.seq]
/-- How two numbers stand. -/
def cmpI (a b : Int) : Int := if a < b then -1 else if b < a then 1 else 0
/-- The first one that isn't 0. -/
def firstNZ : List Int → Int
 | [] => 0
 | x :: l => if x = 0 then firstNZ l else x
/-- How two names stand. -/
def ord (a b : Tid) : Int := firstNZ [cmpI a.node b.node, cmpI a.epoch b.epoch, cmpI a.seq b.seq]
theorem firstNZ_take (l : List Int) (k : Nat) (h : k < l.length) (hz : ∀ j (hj : j < k), l[j] = 0) (hn : l[k] ≠ 0) : firstNZ l = l[k] := by
 induction l generalizing k with
 | nil => simp at h
 | cons x l ih =>
  cases k with
  | zero => simp only [List.getElem_cons_zero] at hn ⊢; simp [firstNZ, hn]
  | succ k =>
   have h0 := hz 0 (by omega)
   simp only [List.getElem_cons_zero] at h0
   simp only [List.getElem_cons_succ] at hn ⊢
   rw [firstNZ, if_pos h0]
   exact ih k (by simpa using h) (fun j hj => by have := hz (j + 1) (by omega); simpa using this) hn
theorem firstNZ_all (l : List Int) (hz : ∀ j (hj : j < l.length), l[j] = 0) : firstNZ l = 0 := by
 induction l with
 | nil => rfl
 | cons x l ih =>
  have h0 := hz 0 (by simp)
  simp only [List.getElem_cons_zero] at h0
  rw [firstNZ, if_pos h0]
  exact ih fun j hj => by have := hz (j + 1) (by simpa using hj); simpa using this
theorem cells_nums {w : World} {k : Nat} {t : TypeId} {l : List Int} (h : Cells w k t (l.map (Value.int .i64))) : ∀ j (hj : j < l.length), w.cell? ⟨k, 0 + j, none⟩ = some (.int .i64 l[j]) := fun j hj => by
 rw [Nat.zero_add]
 exact h.cell (by simp [hj])
theorem isNaN_any (n : Int) (w : World) : Calls Tryz.prog 128 #[.int .i64 n] w fun e w' => e = .returned (.bool false) ∧ w = w' := by
 go_enter Tryz.func128, Tryz.ntmps128
 go_wp2
 go_returns
 exact ⟨ret_val (by simp), rfl⟩
theorem compare_any (a b : Int) (w : World) : Calls Tryz.prog 122 #[.int .i64 a, .int .i64 b] w fun e w' => e = .returned (.int .i64 (cmpI a b)) ∧ w = w' := by
 have h1 := isNaN_any a
 have h2 := isNaN_any b
 have HV := Lib.hid (show cmpI a b = if a < b then -1 else if b < a then 1 else 0 from rfl)
 go_enter Tryz.func122, Tryz.ntmps122
 go_wp2_with fail
 refine (h1 _).mono ?_
 rintro e w1 ⟨rfl, rfl⟩
 go_wp2_with fail
 refine (h2 _).mono ?_
 rintro e w1 ⟨rfl, rfl⟩
 clear h1 h2
 by_cases c1 : a < b
 ·rw [if_pos c1] at HV
  go_wp2
  go_returns
  exact ⟨ret_int HV.out.symm, rfl⟩
 ·rw [if_neg c1] at HV
  by_cases c2 : b < a
  ·rw [if_pos c2] at HV
   go_wp2
   go_returns
   exact ⟨ret_int HV.out.symm, rfl⟩
  ·rw [if_neg c2] at HV
   go_wp2
   go_returns
   exact ⟨ret_int HV.out.symm, rfl⟩
theorem or_any (l : List Int) (b off c : Nat) (w : World) (hc : ∀ j (hj : j < l.length), w.cell? ⟨b, off + j, none⟩ = some (.int .i64 l[j])) (hl : l.length ≤ 1000000) :
  Calls Tryz.prog 121 #[.slice (some ⟨b, off, none⟩) l.length c] w fun e w' => e = .returned (.int .i64 (firstNZ l)) ∧ w = w' := by
 have HC := Lib.hid hc
 clear hc
 go_enter Tryz.func121, Tryz.ntmps121
 go_wp2
 go_loop [5, 8] (fun _ i => ∃ k : Nat, k ≤ l.length ∧ i = .int .i64 k ∧ Hid (∀ j (hj : j < k) (hk : j < l.length), l[j] = 0)) (fun _ i => l.length - (intOf i).toNat)
 case atStart => exact ⟨0, Nat.zero_le _, rfl, Lib.hid fun j hj => absurd hj (Nat.not_lt_zero _)⟩
 case round =>
  obtain ⟨k, hk, rfl, hz⟩ := hrel
  by_cases hlt : k < l.length
  ·have hcell := HC.out k hlt
   by_cases h0 : l[k] = 0
   ·have HZ : Hid (∀ j (hj : j < k + 1) (hk : j < l.length), l[j] = 0) := Lib.hid fun j hj hjl => by
     by_cases e : j = k
     ·subst e; exact h0
     ·exact hz.out j (by omega) hjl
    rw [h0] at hcell
    clear h0
    go_wp2
    go_round
    case rel => exact ⟨k + 1, by omega, by go_num, HZ⟩
    case measure => simp [intOf]; omega
   ·have HV := Lib.hid (firstNZ_take l k hlt (fun j hj => hz.out j hj (by omega)) h0)
    generalize l[k] = x at *
    have hx : (x == 0) = false := by simpa using h0
    go_wp2
    go_returns
    exact ⟨ret_int HV.out.symm, rfl⟩
  ·have HV := Lib.hid (firstNZ_all l fun j hj => hz.out j (by omega) hj)
   go_wp2
   go_returns
   exact ⟨ret_int HV.out.symm, rfl⟩
def orderGood (a b : Tid) (g : Nat) : Nat → Value → World → Prop
 | 0, v, _ => v = .pointer (some ⟨g, 0, none⟩)
 | 1, v, _ => v = .int .i64 a.node
 | 2, v, _ => v = .pointer (some ⟨g + 1, 0, none⟩)
 | 3, v, _ => v = .int .i64 b.node
 | 4, v, _ => v = .int .i64 (cmpI a.node b.node)
 | 5, v, _ => v = .pointer (some ⟨g, 1, none⟩)
 | 6, v, _ => v = .int .i64 a.epoch
 | 7, v, _ => v = .pointer (some ⟨g + 1, 1, none⟩)
 | 8, v, _ => v = .int .i64 b.epoch
 | 9, v, _ => v = .int .i64 (cmpI a.epoch b.epoch)
 | 10, v, _ => v = .pointer (some ⟨g, 2, none⟩)
 | 11, v, _ => v = .int .i64 a.seq
 | 12, v, _ => v = .pointer (some ⟨g + 1, 2, none⟩)
 | 13, v, _ => v = .int .i64 b.seq
 | 14, v, _ => v = .int .i64 (cmpI a.seq b.seq)
 | 15, v, w => ∃ k, v = .slice (some ⟨k, 0, none⟩) 3 3 ∧ Cells w k 3 ([cmpI a.node b.node, cmpI a.epoch b.epoch, cmpI a.seq b.seq].map (Value.int .i64))
 | 16, v, _ => v = .int .i64 (ord a b)
 | 17, v, _ => v = .int .i64 (ord a b)
 | _, _, _ => True
theorem orderGood_later {a b : Tid} {g : Nat} {j : Nat} {v : Value} {w w' : World} (hb : Below w.heap.size w w') (h : orderGood a b g j v w) : orderGood a b g j v w' := by
 match j, h with
 | 0, h | 1, h | 2, h | 3, h | 4, h | 5, h | 6, h | 7, h | 8, h | 9, h | 10, h | 11, h | 12, h | 13, h | 14, h | 16, h | 17, h => exact h
 | 15, h =>
  obtain ⟨k, h1, h2⟩ := h
  exact ⟨k, h1, h2.later hb⟩
 | _ + 18, _ => exact trivial
set_option maxHeartbeats 1000000 in
theorem order_any (a b : Tid) (w : World) : Calls Tryz.prog 116 #[a.val, b.val] w fun e w' => e = .returned (.int .i64 (ord a b)) ∧ Below w.heap.size w w' := by
 have hca := cells_new w 47 a.vals #[.int .i64 a.node, .int .i64 a.epoch, .int .i64 a.seq] rfl
 have hcb := cells_new (w.alloc (.cells #[.int .i64 a.node, .int .i64 a.epoch, .int .i64 a.seq] 47)) 47 b.vals #[.int .i64 b.node, .int .i64 b.epoch, .int .i64 b.seq] rfl
 have hb1 := below_alloc w (.cells #[.int .i64 a.node, .int .i64 a.epoch, .int .i64 a.seq] 47)
 have hb2 := hb1.alloc hb1.size (.cells #[.int .i64 b.node, .int .i64 b.epoch, .int .i64 b.seq] 47)
 have hca2 := hca.later (below_alloc _ (.cells #[.int .i64 b.node, .int .i64 b.epoch, .int .i64 b.seq] 47))
 rw [World.size_alloc] at hcb
 have HW : ∃ w2, w2 = (w.alloc (.cells #[.int .i64 a.node, .int .i64 a.epoch, .int .i64 a.seq] 47)).alloc (.cells #[.int .i64 b.node, .int .i64 b.epoch, .int .i64 b.seq] 47) := ⟨_, rfl⟩
 unfold Tid.val
 go_enter Tryz.func116, Tryz.ntmps116
 clear hca
 have HCA := Lib.hid hca2
 have HCB := Lib.hid hcb
 have HB2 := Lib.hid hb2
 clear hca2 hcb hb1 hb2
 go_wp2_with fail
 obtain ⟨w2, hw2⟩ := HW
 rw [← hw2] at HCA HCB HB2 ⊢
 have HG := Lib.hid (show w.heap.size ≤ w2.heap.size from HB2.out.size)
 generalize hg : w.heap.size = g at *
 have HGE := Lib.hid hg
 clear hg
 have HA : Hid (∀ wi, Below w2.heap.size w2 wi → ∀ j u, a.vals[j]? = some u → wi.cell? ⟨g, j, none⟩ = some u) := Lib.hid fun wi hb j u hu => (HCA.out.later hb).cell hu
 have HB : Hid (∀ wi, Below w2.heap.size w2 wi → ∀ j u, b.vals[j]? = some u → wi.cell? ⟨g + 1, j, none⟩ = some u) := Lib.hid fun wi hb j u hu => (HCB.out.later hb).cell hu
 clear hw2
 refine Reg.region_heavy (by kernel_rfl) 17 [17] (orderGood a b g) (fun a => Below w2.heap.size w2 a) (fun a => Below w2.heap.size w2 a) (fun V => [(some 5, V 0), (some 6, V 1), (some 7, V 2), (some 8, V 3), (some 9, V 4), (some 10, V 5), (some 11, V 6), (some 12, V 7), (some 13, V 8), (some 14, V 9), (some 15, V 10), (some 16, V 11), (some 17, V 12), (some 18, V 13), (some 19, V 14), (some 20, V 15), (some 21, V 16), (some 4, V 17)]) (by kernel_rfl) (by kernel_rfl) (by kernel_rfl) (fun V => rfl) ?_ ?_ ?_
 ·exact (Below.refl _ _).drew
 ·intro i o ho
  have hi : i < 18 := (Array.getElem?_eq_some_iff.1 ho).1
  rcases i with _ | _ | _ | _ | _ | _ | _ | _ | _ | _ | _ | _ | _ | _ | _ | _ | _ | _ | i
  rotate_right
  ·omega
  all_goals obtain rfl := Option.some.inj ho
  all_goals intro ρ wi hE hI hs hd
  all_goals try dsimp only at hI
  ·have e2 : ρ (.tmp 2) = .pointer (some ⟨g, 0, none⟩) := hs 2; exact Reg.gw hI
  ·obtain ⟨_, rfl, e5⟩ := hd 0 5; have hx := HA.out wi hI 0 _ rfl; exact Reg.gw hI
  ·have e3 : ρ (.tmp 3) = .pointer (some ⟨g + 1, 0, none⟩) := hs 3; exact Reg.gw hI
  ·obtain ⟨_, rfl, e7⟩ := hd 2 7; have hx := HB.out wi hI 0 _ rfl; exact Reg.gw hI
  ·obtain ⟨_, rfl, e6⟩ := hd 1 6; obtain ⟨_, rfl, e8⟩ := hd 3 8; have hf := hE.func
   refine Reg.Gives.call (f := 122) (args := #[.int .i64 a.node, .int .i64 b.node]) (w' := wi) (by go_simp) ?_
   refine (compare_any _ _ wi).mono ?_
   rintro e w'' ⟨rfl, rfl⟩
   exact ⟨_, rfl, Reg.OwedH.same hI rfl⟩
  ·have e2 : ρ (.tmp 2) = .pointer (some ⟨g, 0, none⟩) := hs 2; exact Reg.gw hI
  ·obtain ⟨_, rfl, e10⟩ := hd 5 10; have hx := HA.out wi hI 1 _ rfl; exact Reg.gw hI
  ·have e3 : ρ (.tmp 3) = .pointer (some ⟨g + 1, 0, none⟩) := hs 3; exact Reg.gw hI
  ·obtain ⟨_, rfl, e12⟩ := hd 7 12; have hx := HB.out wi hI 1 _ rfl; exact Reg.gw hI
  ·obtain ⟨_, rfl, e11⟩ := hd 6 11; obtain ⟨_, rfl, e13⟩ := hd 8 13; have hf := hE.func
   refine Reg.Gives.call (f := 122) (args := #[.int .i64 a.epoch, .int .i64 b.epoch]) (w' := wi) (by go_simp) ?_
   refine (compare_any _ _ wi).mono ?_
   rintro e w'' ⟨rfl, rfl⟩
   exact ⟨_, rfl, Reg.OwedH.same hI rfl⟩
  ·have e2 : ρ (.tmp 2) = .pointer (some ⟨g, 0, none⟩) := hs 2; exact Reg.gw hI
  ·obtain ⟨_, rfl, e15⟩ := hd 10 15; have hx := HA.out wi hI 2 _ rfl; exact Reg.gw hI
  ·have e3 : ρ (.tmp 3) = .pointer (some ⟨g + 1, 0, none⟩) := hs 3; exact Reg.gw hI
  ·obtain ⟨_, rfl, e17⟩ := hd 12 17; have hx := HB.out wi hI 2 _ rfl; exact Reg.gw hI
  ·obtain ⟨_, rfl, e16⟩ := hd 11 16; obtain ⟨_, rfl, e18⟩ := hd 13 18; have hf := hE.func
   refine Reg.Gives.call (f := 122) (args := #[.int .i64 a.seq, .int .i64 b.seq]) (w' := wi) (by go_simp) ?_
   refine (compare_any _ _ wi).mono ?_
   rintro e w'' ⟨rfl, rfl⟩
   exact ⟨_, rfl, Reg.OwedH.same hI rfl⟩
  ·obtain ⟨_, rfl, e9⟩ := hd 4 9; obtain ⟨_, rfl, e14⟩ := hd 9 14; obtain ⟨_, rfl, e19⟩ := hd 14 19; have hal := below_alloc wi (.cells #[.int .i64 (cmpI a.node b.node), .int .i64 (cmpI a.epoch b.epoch), .int .i64 (cmpI a.seq b.seq)] 3)
   exact Reg.Gives.value (v := .slice (some ⟨wi.heap.size, 0, none⟩) 3 3) (w' := wi.alloc (.cells #[.int .i64 (cmpI a.node b.node), .int .i64 (cmpI a.epoch b.epoch), .int .i64 (cmpI a.seq b.seq)] 3)) (by go_simp) ⟨⟨_, rfl, cells_new wi _ _ _ rfl⟩, hI.trans (hal.mono hI.size), fun j u _ _ h => orderGood_later hal h⟩
  ·obtain ⟨u20, g20, e20⟩ := hd 15 20; have hf := hE.func; obtain ⟨k, rfl, hck⟩ := g20
   refine Reg.Gives.call (f := 121) (args := #[.slice (some ⟨k, 0, none⟩) 3 3]) (w' := wi) (by go_simp) ?_
   refine (or_any [cmpI a.node b.node, cmpI a.epoch b.epoch, cmpI a.seq b.seq] k 0 3 wi (cells_nums hck) (by simp)).mono ?_
   rintro e w'' ⟨rfl, rfl⟩
   exact ⟨_, rfl, Reg.OwedH.same hI rfl⟩
  ·obtain ⟨_, rfl, e21⟩ := hd 16 21; exact Reg.gw hI
 ·intro V w1 hV hI
  have hV17 : V 17 = .int .i64 (ord a b) := hV 17 (by decide) rfl
  simp only [Reg.putsO, List.foldl_cons, List.foldl_nil, Act.put, List.setIfInBounds_toArray, List.set_cons_succ, List.set_cons_zero, hV17]
  replace hI : (fun a => Below w2.heap.size w2 a) w1 := hI
  clear hV hV17
  go_wp2_with fail
  go_returns
  exact ⟨rfl, by rw [HGE.out]; exact HB2.out.trans (hI.mono HG.out)⟩
end Go.Proofs.YtalhbblmnahcdaaGreat.Item
