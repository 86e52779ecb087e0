/-
  Layer 7: is a record right? The code.
  Conditions: none.
-/
import Derived.Test.YtalhbblmnahcdaaGreatPa37
import Derived.Test.YtalhbblmnahcdaaGreatPa38
namespace Go.Proofs.YtalhbblmnahcdaaGreat.Rec
set_option maxRecDepth 100000
open Go.RowKit Go.Proofs.YtalhbblmnahcdaaGreat.Mem Go.Proofs.YtalhbblmnahcdaaGreat.Item
/-- What is left of the fields that aren't zero, once k of a list are struck out. -/
def left (r : Rc) (l : List Int) (k : Nat) : List Bool := (hasB r).mapIdx fun j b => b && !decide ((j : Int) ∈ l.take k)
theorem left_length (r : Rc) (l : List Int) (k : Nat) : (left r l k).length = 12 := by simp [left, hasB]
theorem left_zero (r : Rc) (l : List Int) : left r l 0 = hasB r := by simp [left, hasB]
theorem left_set (r : Rc) (l : List Int) (k : Nat) (hk : k < l.length) (f : Nat) (hf : l[k] = (f : Int)) : ((left r l k).map Value.bool).set f (.bool false) = (left r l (k + 1)).map Value.bool := by
 apply List.ext_getElem
 ·simp [left]
 ·intro j h1 h2
  rw [List.getElem_set]
  have ht : l.take (k + 1) = l.take k ++ [(f : Int)] := by rw [List.take_succ_eq_append_getElem hk, hf]
  by_cases e : f = j
  ·subst e
   simp [left, ht]
  ·rw [if_neg e]
   have : ¬ (j : Int) = (f : Int) := by omega
   simp [left, ht, this]
def othersB (r : Rc) (l : List Int) : Bool := (left r l l.length).any id
set_option maxHeartbeats 1000000 in
theorem others_any (r : Rc) (y : Lay) (A0 : Option Addr) (l : List Int) (c0 : Nat) (w : World) (hl : Nums w A0 l) (hr : ∀ k (h : k < l.length), ∃ f : Nat, f < 12 ∧ l[k] = (f : Int)) (hm : l.length ≤ 1000) :
  Calls Tryz.prog 57 #[r.val y, .slice A0 l.length c0] w fun e w' => e = .returned (.bool (othersB r l)) ∧ Below w.heap.size w w' := by
 have HN := Lib.hid (fun w => has_any r y w)
 have HS := Lib.hid (left_set r l)
 have HLL := Lib.hid (left_length r l)
 have H0 := Lib.hid (left_zero r l)
 have HO := Lib.hid (show (left r l l.length).any id = othersB r l from rfl)
 have HNU := Lib.hid hl
 have HRR := Lib.hid hr
 obtain ⟨K, hK⟩ : ∃ K, left r l = K := ⟨_, rfl⟩
 obtain ⟨Z, hZ⟩ : ∃ Z, othersB r l = Z := ⟨_, rfl⟩
 obtain ⟨X, hX⟩ : ∃ X, hasB r = X := ⟨_, rfl⟩
 have HXL := Lib.hid (hasB_length r)
 rw [hK] at HS HLL H0 HO
 rw [hZ] at HO ⊢
 rw [hX] at HN H0 HXL
 clear hK hZ hX hl hr
 obtain ⟨k, ⟨t1, t2, t3⟩, its, nds, a0, a1, a2, a3, a4, a5, a6, a7, yes⟩ := r
 obtain ⟨A, c, B, d⟩ := y
 generalize hL : its.length = L at HN
 generalize hM : nds.length = M at HN
 unfold Rc.val at HN ⊢
 simp only [hL, hM] at HN ⊢
 clear hL hM
 obtain ⟨b0, b1, b2, b3, b4, b5, b6, b7, b8, b9, b10, b11, hX⟩ := list12 X HXL.out
 rw [hX] at HN H0
 clear hX HXL
 simp only [List.map_cons, List.map_nil] at HN
 go_enter Tryz.func57, Tryz.ntmps57
 go_wp2_with fail
 refine (HN.out _).mono ?_
 rintro e w1 ⟨rfl, hb1⟩
 have hb := Below.trans (below_alloc w _) (Below.mono hb1 (by simp))
 have HB := Lib.hid hb
 have hcn := cells_new w1 134 ((K 0).map Value.bool) #[.bool b0, .bool b1, .bool b2, .bool b3, .bool b4, .bool b5, .bool b6, .bool b7, .bool b8, .bool b9, .bool b10, .bool b11] (by rw [H0.out]; rfl)
 have HCN := Lib.hid hcn
 clear hcn hb hb1 H0 HN
 go_wp2_with fail
 go_loopw [7, 12] (fun _ i wr => ∃ k : Nat, k ≤ l.length ∧ i = .int .i64 (k : Int) ∧ Cells wr w1.heap.size 134 ((K k).map Value.bool) ∧ Below w.heap.size w wr) (fun _ i _ => l.length - (intOf i).toNat)
 case atStart => exact ⟨0, by omega, rfl, HCN.out, HB.out.alloc HB.out.size _⟩
 case round =>
  obtain ⟨k, hk, rfl, hck, hbk⟩ := hrel
  have HCK := Lib.hid hck
  have HBK := Lib.hid hbk
  by_cases hlt : k < l.length
  ·obtain ⟨f, hf, hlf⟩ := HRR.out k hlt
   have HSK := Lib.hid (HS.out k hlt f hlf)
   obtain ⟨bl, off, rfl, hcl⟩ := HNU.out k hlt
   have hcl2 := (hbk.cell (block_of_cell hcl)).trans hcl
   rw [hlf] at hcl2
   have hkl := HLL.out k
   obtain ⟨u, hu⟩ : ∃ u, ((K k).map Value.bool)[f]? = some u := ⟨_, List.getElem?_eq_getElem (by rw [List.length_map, hkl]; exact hf)⟩
   have ck := hck.cell (j := f) hu
   have fk := hck.frozen (j := f) (by simp; omega)
   clear hck hbk hcl hlf hu
   go_wp2_with fail
   go_roundw
   case rel =>
    refine ⟨k + 1, by omega, by go_num, ?_, ?_⟩
    ·rw [← HSK.out]
     exact HCK.out.set_ f (.bool false)
    ·exact HBK.out.setCell HB.out.size _
   case measure => simp [intOf]; omega
  ·obtain rfl : k = l.length := by omega
   obtain ⟨b0, b1, b2, b3, b4, b5, b6, b7, b8, b9, b10, b11, hZ⟩ := list12 (K l.length) (HLL.out _)
   rw [hZ] at hck HO
   have hne := arr_neq b0 b1 b2 b3 b4 b5 b6 b7 b8 b9 b10 b11
   rw [HO.out] at hne
   have c0 := hck.cell (j := 0) rfl
   have c1 := hck.cell (j := 1) rfl
   have c2 := hck.cell (j := 2) rfl
   have c3 := hck.cell (j := 3) rfl
   have c4 := hck.cell (j := 4) rfl
   have c5 := hck.cell (j := 5) rfl
   have c6 := hck.cell (j := 6) rfl
   have c7 := hck.cell (j := 7) rfl
   have c8 := hck.cell (j := 8) rfl
   have c9 := hck.cell (j := 9) rfl
   have c10 := hck.cell (j := 10) rfl
   have c11 := hck.cell (j := 11) rfl
   clear hck hbk HO hZ
   go_wp2_with fail
   go_returns
   exact ⟨rfl, HBK.out⟩
/-- Is field f of a record right? -/
def rf (r : Rc) (f : Nat) : Bool :=
 if f = 8 then rightTid r.tid else if f = 9 then (decide (r.kind = 5) && decide (r.items.length = 0)) || rightItems r.items else if f = 10 then rightNodes r.nodes else if f = 11 then true
 else decide ((lims r f).1 ≤ r.get f) && decide (r.get f ≤ (lims r f).2)
set_option maxHeartbeats 1000000 in
theorem rightField_any (r : Rc) (y : Lay) (f : Nat) (w : World) (hf : f < 12) (h : Has w r y) (h1 : r.items.length ≤ 1000) (h2 : r.nodes.length ≤ 1000) :
  Calls Tryz.prog 58 #[r.val y, .int .i64 (f : Int)] w fun e w' => e = .returned (.bool (rf r f)) ∧ Below w.heap.size w w' := by
 have HI := Lib.hid (fun w' (hb : Below w.heap.size w w') => rightItems_any y.A r.items y.c w' (h.items.later hb) (by omega))
 have HM := Lib.hid (fun w' (hb : Below w.heap.size w w') => rightNodes_any y.B r.nodes y.d w' (h.nodes.later hb) (by omega))
 have HT := Lib.hid (fun w' => rightTid_any r.tid w')
 have HN := Lib.hid (fun w' => numbers_any r y w')
 have HL := Lib.hid (fun hf w' => limits_any r y f w' hf)
 have HX := Lib.hid (fun hf w' => index_get r f hf w')
 obtain ⟨Z, hZ⟩ : ∃ Z, Z = rf r f := ⟨_, rfl⟩
 have HZ := Lib.hid hZ
 rw [← hZ]
 clear hZ h
 obtain ⟨p, hp⟩ : ∃ p, lims r f = p := ⟨_, rfl⟩
 obtain ⟨G, hG⟩ : ∃ G, r.get f = G := ⟨_, rfl⟩
 obtain ⟨RI, hRI⟩ : ∃ RI, rightItems r.items = RI := ⟨_, rfl⟩
 obtain ⟨RN, hRN⟩ : ∃ RN, rightNodes r.nodes = RN := ⟨_, rfl⟩
 obtain ⟨RT, hRT⟩ : ∃ RT, rightTid r.tid = RT := ⟨_, rfl⟩
 unfold rf at HZ
 rw [hp] at HL HZ
 rw [hG] at HX HZ
 rw [hRI] at HI HZ
 rw [hRN] at HM HZ
 rw [hRT] at HT HZ
 clear hp hG hRI hRN hRT
 obtain ⟨p1, p2⟩ := p
 obtain ⟨k, ⟨t1, t2, t3⟩, its, nds, a0, a1, a2, a3, a4, a5, a6, a7, yes⟩ := r
 obtain ⟨A, c, B, d⟩ := y
 simp only at HI HM HT h1 h2 HL HX HN HZ
 generalize hL : its.length = L at *
 generalize hM : nds.length = M at *
 unfold Rc.val at HN HL ⊢
 unfold Tid.val at HT
 simp only [hL, hM] at HN HL HT ⊢
 clear hL hM
 have HB := Lib.hid (below_alloc w (.cells #[.int .i64 k, .int .i64 t1, .int .i64 t2, .int .i64 t3, .slice A L c, .slice B M d, .int .i64 a0, .int .i64 a1, .int .i64 a2, .int .i64 a3, .int .i64 a4, .int .i64 a5, .int .i64 a6, .int .i64 a7, .bool yes] 51))
 by_cases e8 : f = 8
 ·subst e8
  rw [if_pos rfl] at HZ
  go_enter Tryz.func58, Tryz.ntmps58
  go_wp2_with fail
  refine (HT.out _).mono ?_
  rintro e w1 ⟨rfl, hb1⟩
  have HB1 := Lib.hid (HB.out.trans (hb1.mono HB.out.size))
  clear hb1
  go_wp2_with fail
  go_returns
  exact ⟨ret_bool HZ.out, HB1.out⟩
 rw [if_neg e8] at HZ
 by_cases e9 : f = 9
 ·subst e9
  rw [if_pos rfl] at HZ
  by_cases h5 : k = 5
  ·subst h5
   by_cases h0 : L = 0
   ·subst h0
    have HZ2 : Hid (Z = true) := Lib.hid (by rw [HZ.out]; simp)
    clear e8
    go_enter Tryz.func58, Tryz.ntmps58
    go_wp2_with fail
    go_returns
    exact ⟨ret_bool HZ2.out, HB.out⟩
   ·have HZ2 : Hid (Z = ((L : Int) == 0 || RI)) := Lib.hid (by rw [HZ.out]; simp [h0])
    clear e8
    go_enter Tryz.func58, Tryz.ntmps58
    go_wp2_with fail
    refine (HI.out _ HB.out).mono ?_
    rintro e w1 ⟨rfl, hb1⟩
    have HB1 := Lib.hid (HB.out.trans (hb1.mono HB.out.size))
    clear hb1
    go_wp2_with fail
    go_returns
    exact ⟨ret_bool HZ2.out, HB1.out⟩
  ·have HZ2 : Hid (Z = RI) := Lib.hid (by rw [HZ.out]; simp [h5])
   clear e8
   go_enter Tryz.func58, Tryz.ntmps58
   go_wp2_with fail
   refine (HI.out _ HB.out).mono ?_
   rintro e w1 ⟨rfl, hb1⟩
   have HB1 := Lib.hid (HB.out.trans (hb1.mono HB.out.size))
   clear hb1
   go_wp2_with fail
   go_returns
   exact ⟨ret_bool HZ2.out, HB1.out⟩
 rw [if_neg e9] at HZ
 by_cases e10 : f = 10
 ·subst e10
  rw [if_pos rfl] at HZ
  clear e8 e9
  go_enter Tryz.func58, Tryz.ntmps58
  go_wp2_with fail
  refine (HM.out _ HB.out).mono ?_
  rintro e w1 ⟨rfl, rfl⟩
  go_wp2_with fail
  go_returns
  exact ⟨ret_bool HZ.out, HB.out⟩
 rw [if_neg e10] at HZ
 by_cases e11 : f = 11
 ·subst e11
  rw [if_pos rfl] at HZ
  clear e8 e9 e10
  go_enter Tryz.func58, Tryz.ntmps58
  go_wp2_with fail
  go_returns
  exact ⟨ret_bool HZ.out, HB.out⟩
 rw [if_neg e11] at HZ
 have hf8 : f < 8 := by omega
 have hx := HX.out hf8
 have n8 : ¬ (f : Int) = 8 := by omega
 have n9 : ¬ (f : Int) = 9 := by omega
 have n10 : ¬ (f : Int) = 10 := by omega
 have n11 : ¬ (f : Int) = 11 := by omega
 clear e8 e9 e10 e11
 have HC15 := Lib.hid (cells_new w 51 _ #[.int .i64 k, .int .i64 t1, .int .i64 t2, .int .i64 t3, .slice A L c, .slice B M d, .int .i64 a0, .int .i64 a1, .int .i64 a2, .int .i64 a3, .int .i64 a4, .int .i64 a5, .int .i64 a6, .int .i64 a7, .bool yes] rfl)
 go_enter Tryz.func58, Tryz.ntmps58
 go_wp2_with fail
 refine (HN.out _).mono ?_
 rintro e w1 ⟨rfl, hb1⟩
 have HB1 := Lib.hid (HB.out.trans (hb1.mono HB.out.size))
 have hc := HC15.out.later hb1
 have q0 := hc.cell (j := 0) rfl
 have q1 := hc.cell (j := 1) rfl
 have q2 := hc.cell (j := 2) rfl
 have q3 := hc.cell (j := 3) rfl
 have q4 := hc.cell (j := 4) rfl
 have q5 := hc.cell (j := 5) rfl
 have q6 := hc.cell (j := 6) rfl
 have q7 := hc.cell (j := 7) rfl
 have q8 := hc.cell (j := 8) rfl
 have q9 := hc.cell (j := 9) rfl
 have q10 := hc.cell (j := 10) rfl
 have q11 := hc.cell (j := 11) rfl
 have q12 := hc.cell (j := 12) rfl
 have q13 := hc.cell (j := 13) rfl
 have q14 := hc.cell (j := 14) rfl
 clear hb1 hc
 go_wp2_with fail
 refine (HL.out hf8 _).mono ?_
 rintro e w2 ⟨rfl, hb2⟩
 have HB2 := Lib.hid (HB1.out.trans (hb2.mono HB1.out.size))
 clear hb2 q0 q1 q2 q3 q4 q5 q6 q7 q8 q9 q10 q11 q12 q13 q14 hx
 by_cases g1 : p1 ≤ G
 ·by_cases g2 : G ≤ p2
  ·rw [decide_eq_true g1, decide_eq_true g2] at HZ
   go_wp2_with fail
   go_returns
   exact ⟨ret_bool HZ.out, HB2.out⟩
  ·rw [decide_eq_false g2, Bool.and_false] at HZ
   go_wp2_with fail
   go_returns
   exact ⟨ret_bool (HZ.out.trans (decide_eq_false (by omega)).symm), HB2.out⟩
 ·rw [decide_eq_false g1, Bool.false_and] at HZ
  go_wp2_with fail
  go_returns
  exact ⟨ret_bool HZ.out, HB2.out⟩
end Go.Proofs.YtalhbblmnahcdaaGreat.Rec
