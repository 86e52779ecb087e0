/-
  Layer 11: the code's net and the document's, side by side. Conditions: none.
-/
import Derived.Test.YtfhcfiebhagbeaaNetSame
import Derived.Test.YtfhcfiebhagbeaaNetLaw
import Derived.Test.YtfhcfiebhagbeaaNetRefS
namespace Go.Proofs.Ytfhcfiebhagbeaa.Net
set_option maxRecDepth 100000
open Go.RowKit Go.Deep Go.Proofs.Ytfhcfiebhagbeaa.Mem

theorem hit_spec {a b : Int} {c : Int × Int} : hitC a b c = true ↔ (c.1 = a ∧ c.2 = b) ∨ (c.1 = b ∧ c.2 = a) := by
  unfold hitC
  simp
theorem cutL_set (cs : List (Int × Int)) (a b x y : Int) (v : Bool) : cutL (cs.filter (fun c => !hitC x y c) ++ (if v then [(x, y)] else [])) a b = if (a = x ∧ b = y) ∨ (a = y ∧ b = x) then v else cutL cs a b := by
  unfold cutL
  rw [List.any_append, List.any_filter]
  by_cases hs : (a = x ∧ b = y) ∨ (a = y ∧ b = x)
  · have hh : ∀ c, hitC a b c = hitC x y c := fun c => by
      rcases hs with ⟨rfl, rfl⟩ | ⟨rfl, rfl⟩
      · rfl
      · unfold hitC
        rw [Bool.or_comm]
    have h1 : (fun c => !hitC x y c && hitC a b c) = fun _ => false := by funext c; rw [hh]; cases hitC x y c <;> rfl
    have h2 : hitC a b (x, y) = true := by rw [hh]; exact hit_spec.2 (Or.inl ⟨rfl, rfl⟩)
    rw [if_pos hs, h1]
    have h3 : ∀ l : List (Int × Int), l.any (fun _ => false) = false := fun l => by induction l with
      | nil => rfl
      | cons c l ih => simp
    rw [h3, Bool.false_or]
    cases v
    · rfl
    · simp [h2]
  · have h1 : (fun c => !hitC x y c && hitC a b c) = hitC a b := by
      funext c
      cases h2 : hitC a b c with
      | false => simp
      | true =>
        cases h3 : hitC x y c with
        | false => rfl
        | true =>
          refine absurd ?_ hs
          have h4 := hit_spec.1 h2
          have h5 := hit_spec.1 h3
          omega
    have h2 : hitC a b (x, y) = false := by
      cases h3 : hitC a b (x, y) with
      | false => rfl
      | true =>
        refine absurd ?_ hs
        have h4 := hit_spec.1 h3
        dsimp only at h4
        omega
    rw [if_neg hs, h1]
    cases v
    · simp
    · simp [h2]
/-- The two say the same. -/
structure Alike (N : Nt) (R : Rf) : Prop where
  nodes : N.nodes = R.nodes
  fl : N.fl = R.fl
  cut : ∀ a b, betw N.nodes a b = true → N.cut (min a b) (max a b) = cutL R.cs a b
section
variable {N : Nt} {R : Rf}
theorem Alike.whole (h : Alike N R) (a b : Int) : wholeN N a b = wholeR R a b := by
  unfold wholeN wholeR
  rw [← h.nodes]
  cases hb : betw N.nodes a b with
  | false => rfl
  | true => rw [h.cut a b hb]
theorem Alike.send1 (h : Alike N R) (p : Pk) : Alike (send1 N p).1 (sendR1 R p).1 ∧ (Net.send1 N p).2 = (sendR1 R p).2 := by
  unfold Net.send1 sendR1
  rw [h.whole, h.fl]
  cases wholeR R p.src p.dst && decide (R.fl.length < 256) with
  | false => exact ⟨h, rfl⟩
  | true => exact ⟨⟨h.nodes, rfl, h.cut⟩, rfl⟩
theorem Alike.send : ∀ (l : List Pk) {N : Nt} {R : Rf}, Alike N R → Alike (sendL N l).1 (sendR R l).1 ∧ (sendL N l).2 = (sendR R l).2
  | [], _, _, h => ⟨h, rfl⟩
  | p :: l, N, R, h => by
    obtain ⟨h1, h2⟩ := h.send1 p
    obtain ⟨h3, h4⟩ := Alike.send l h1
    unfold sendL sendR
    exact ⟨h3, by rw [h2, h4]⟩
theorem Alike.has (h : Alike N R) (i : Int) : hasN N i = hasR R i := by unfold hasN hasR; rw [h.fl]
theorem Alike.take (h : Alike N R) (i : Int) : (takeN N i).1 = (takeR R i).1 ∧ (takeN N i).2.1 = (takeR R i).2.1 ∧ Alike (takeN N i).2.2 (takeR R i).2.2 := by
  unfold takeN takeR
  rw [h.has, h.fl]
  cases hasR R i with
  | false => exact ⟨rfl, rfl, h⟩
  | true => exact ⟨rfl, rfl, ⟨h.nodes, rfl, h.cut⟩⟩
theorem Alike.double (h : Alike N R) (i : Int) : (doubleN N i).1 = (doubleR R i).1 ∧ Alike (doubleN N i).2 (doubleR R i).2 := by
  unfold doubleN doubleR
  rw [h.has, h.fl]
  cases hasR R i with
  | false => exact ⟨rfl, h⟩
  | true =>
    by_cases hf : R.fl.length < 256
    · rw [if_pos hf, if_pos hf]
      exact ⟨rfl, ⟨h.nodes, rfl, h.cut⟩⟩
    · rw [if_neg hf, if_neg hf]
      exact ⟨rfl, h⟩
theorem Alike.spoil (h : Alike N R) (i a y : Int) : (spoilN N i a y).1 = (spoilR R i a y).1 ∧ Alike (spoilN N i a y).2 (spoilR R i a y).2 := by
  unfold spoilN spoilR
  rw [h.has, h.fl]
  cases hasR R i with
  | false => exact ⟨rfl, h⟩
  | true =>
    simp only [if_true]
    split
    · exact ⟨rfl, h⟩
    · split
      · exact ⟨rfl, h⟩
      · exact ⟨rfl, ⟨h.nodes, rfl, h.cut⟩⟩
theorem Alike.set (h : Alike N R) (x y : Int) (v : Bool) : Alike (if betw N.nodes x y then setCut N x y v else N) (if betw R.nodes x y then setR R x y v else R) := by
  rw [← h.nodes]
  cases hb : betw N.nodes x y with
  | false => exact h
  | true =>
    simp only [if_true]
    refine ⟨h.nodes, h.fl, fun a b hab => ?_⟩
    show (if min a b = min x y ∧ max a b = max x y then v else N.cut (min a b) (max a b)) = cutL (R.cs.filter (fun c => !hitC x y c) ++ (if v then [(x, y)] else [])) a b
    rw [cutL_set]
    by_cases hs : (a = x ∧ b = y) ∨ (a = y ∧ b = x)
    · rw [if_pos hs, if_pos (by omega)]
    · rw [if_neg hs, if_neg (by omega)]
      exact h.cut a b hab
theorem Alike.heal (h : Alike N R) : Alike { N with cut := fun _ _ => false } { R with cs := [] } := ⟨h.nodes, h.fl, fun _ _ _ => rfl⟩
end
theorem set_few (R : Rf) (x y : Int) (v : Bool) : (if betw R.nodes x y then setR R x y v else R).cs.length ≤ R.cs.length + 1 := by
  cases betw R.nodes x y with
  | false => exact Nat.le_succ _
  | true =>
    show (R.cs.filter (fun c => !hitC x y c) ++ (if v then [(x, y)] else [])).length ≤ _
    have := List.length_filter_le (fun c => !hitC x y c) R.cs
    rw [List.length_append]
    cases v <;> simp <;> omega
theorem sendR_cs (l : List Pk) : ∀ R, (sendR R l).1.cs = R.cs := by
  induction l with
  | nil => exact fun _ => rfl
  | cons p l ih =>
    intro R
    show (sendR (sendR1 R p).1 l).1.cs = R.cs
    rw [ih]
    unfold sendR1
    split <;> rfl
theorem takeR_cs (R : Rf) (i : Int) : (takeR R i).2.2.cs = R.cs := by unfold takeR; split <;> rfl
theorem doubleR_cs (R : Rf) (i : Int) : (doubleR R i).2.cs = R.cs := by unfold doubleR; split <;> (try split) <;> rfl
theorem spoilR_cs (R : Rf) (i a y : Int) : (spoilR R i a y).2.cs = R.cs := by unfold spoilR; dsimp only; split <;> (try split) <;> (try split) <;> rfl
/-- Both nets are there, far from each other and from the blocks F (among them the box gb of the call's own). -/
structure Two (base : Nat) (w1 w : World) (b m rb gb : Nat) (vs : List Value) (F : Nat → Prop) (N : Nt) (R : Rf) (u : Nat) : Prop where
  ex : ∃ A c A2 ac C cc, NetAt base w b m N A c ∧ RefAt base w rb R A2 ac C cc ∧ (∀ k, foot b m A k → ¬ rfoot rb A2 C k) ∧ ∀ k, foot b m A k ∨ rfoot rb A2 C k → ¬ F k
  box : Cells w gb 33 vs
  low : Below base w1 w
  big : base ≤ w.heap.size
  few : R.cs.length ≤ u
  fgb : F gb
  fl : ∀ k, F k → k < w.heap.size
section
variable {base : Nat} {w1 w w' : World} {b m rb gb : Nat} {vs : List Value} {F : Nat → Prop} {N N' : Nt} {R R' : Rf} {u u' : Nat}
theorem Two.later (h : Two base w1 w b m rb gb vs F N R u) (hb : Below w.heap.size w w') : Two base w1 w' b m rb gb vs F N R u := by
  obtain ⟨A, c, A2, ac, C, cc, h1, h2, h3, h4⟩ := h.ex
  exact ⟨⟨A, c, A2, ac, C, cc, h1.later hb, h2.later hb, h3, h4⟩, h.box.later hb, h.low.trans (hb.mono h.big), Nat.le_trans h.big hb.size, h.few, h.fgb, fun k e => Nat.lt_of_lt_of_le (h.fl k e) hb.size⟩
/-- A thing of the call's own is made. -/
theorem Two.add (h : Two base w1 w b m rb gb vs F N R u) (hb : Below w.heap.size w w') {G : Nat → Prop} (hG : ∀ k, G k → w.heap.size ≤ k ∧ k < w'.heap.size) : Two base w1 w' b m rb gb vs (fun k => F k ∨ G k) N R u := by
  obtain ⟨A, c, A2, ac, C, cc, h1, h2, h3, h4⟩ := h.ex
  refine ⟨⟨A, c, A2, ac, C, cc, h1.later hb, h2.later hb, h3, fun k e e2 => ?_⟩, h.box.later hb, h.low.trans (hb.mono h.big), Nat.le_trans h.big hb.size, h.few, Or.inl h.fgb, fun k e => ?_⟩
  · rcases e2 with e2 | e2
    · exact h4 k e e2
    · have := (hG k e2).1
      rcases e with e | e
      · have := (h1.lt e).2; omega
      · have := (h2.lt e).2; omega
  · rcases e with e | e
    · exact Nat.lt_of_lt_of_le (h.fl k e) hb.size
    · exact (hG k e).2
theorem Two.fewer (h : Two base w1 w b m rb gb vs F N R u) {G : Nat → Prop} (hG : ∀ k, G k → F k) (hg : G gb) (hu : u ≤ u') : Two base w1 w b m rb gb vs G N R u' := by
  obtain ⟨A, c, A2, ac, C, cc, h1, h2, h3, h4⟩ := h.ex
  exact ⟨⟨A, c, A2, ac, C, cc, h1, h2, h3, fun k e e2 => h4 k e (hG k e2)⟩, h.box, h.low, h.big, Nat.le_trans h.few hu, hg, fun k e => h.fl k (hG k e)⟩
/-- The box of the next round. -/
theorem Two.next (h : Two base w1 w b m rb gb vs F N R u) {vs2 : List Value} (cells : Array Value) (hc : cells.toList = vs2) : Two base w1 (w.alloc (.cells cells 33)) b m rb w.heap.size vs2 (fun k => k = w.heap.size) N R u := by
  have hb := below_alloc w (.cells cells 33)
  obtain ⟨A, c, A2, ac, C, cc, h1, h2, h3, h4⟩ := h.ex
  refine ⟨⟨A, c, A2, ac, C, cc, h1.later hb, h2.later hb, h3, fun k e e2 => ?_⟩, cells_new _ _ _ _ hc, h.low.trans (hb.mono h.big), Nat.le_trans h.big hb.size, h.few, rfl, fun k e => by rw [e]; exact (cells_new w _ _ cells hc).lt⟩
  rcases e with e | e
  · have := (h1.lt e).2; omega
  · have := (h2.lt e).2; omega
theorem Two.callN (h : Two base w1 w b m rb gb vs F N R u) {f : Nat} {args : Array Value} {Q : Ending → Prop} (hc : ∀ A c, NetAt base w b m N A c → Calls Try.prog f args w fun e w' => Q e ∧ NStep base b m A w N' w') :
    Calls Try.prog f args w fun e w' => Q e ∧ Two base w1 w' b m rb gb vs F N' R u ∧ Only (fun k => ¬ F k) w w' := by
  obtain ⟨A, c, A2, ac, C, cc, h1, h2, h3, h4⟩ := h.ex
  refine (hc A c h1).mono ?_
  rintro e w' ⟨hq, hst⟩
  have hlow := hst.below h1 h.big
  obtain ⟨A', c', k1, k2, k3⟩ := hst
  have hft : ∀ k, foot b m A' k → foot b m A k ∨ w.heap.size ≤ k := by
    rintro k (e | e | e)
    · exact Or.inl (Or.inl e)
    · exact Or.inl (Or.inr (Or.inl e))
    · exact (k3 k e).imp_left fun e => Or.inr (Or.inr e)
  refine ⟨hq, ⟨⟨A', c', A2, ac, C, cc, k1, h2.only k2 fun k e e2 => h3 k e2 e, fun k e e2 => ?_, fun k e e2 => ?_⟩, cells_only h.box k2 fun e => h4 _ (Or.inl e) h.fgb, h.low.trans hlow, Nat.le_trans h.big k2.size, h.few, h.fgb, fun k e => Nat.lt_of_lt_of_le (h.fl k e) k2.size⟩, k2.mono fun k _ e => h4 k (Or.inl e)⟩
  · rcases hft k e with e | e
    · exact h3 k e e2
    · have := (h2.lt e2).2; omega
  · have := h.fl k e2
    rcases e with e | e
    · rcases hft k e with e | e
      · exact h4 k (Or.inl e) e2
      · omega
    · exact h4 k (Or.inr e) e2
theorem Two.stepR {A2 C : Option Addr} {A : Option Addr} {c ac cc : Nat} (h : Two base w1 w b m rb gb vs F N R u) (h1 : NetAt base w b m N A c) (h2 : RefAt base w rb R A2 ac C cc) (h3 : ∀ k, foot b m A k → ¬ rfoot rb A2 C k) (h4 : ∀ k, foot b m A k ∨ rfoot rb A2 C k → ¬ F k) (hst : RStep base rb A2 C w R' w') (hf : R'.cs.length ≤ u') :
    Two base w1 w' b m rb gb vs F N R' u' ∧ Only (fun k => ¬ F k) w w' := by
  have hlow := hst.below h2 h.big
  obtain ⟨A', ac', C', cc', k1, k2, k3⟩ := hst
  have hr : ¬ F rb := h4 rb (Or.inr (Or.inl rfl))
  refine ⟨⟨⟨A, c, A', ac', C', cc', h1.only k2 fun k e e2 => h3 k e (Or.inl e2), k1, fun k e e2 => ?_, fun k e e2 => ?_⟩, cells_only h.box k2 fun e => hr (by have e2 : gb = rb := e; rw [← e2]; exact h.fgb), h.low.trans hlow, Nat.le_trans h.big k2.size, hf, h.fgb, fun k e => Nat.lt_of_lt_of_le (h.fl k e) k2.size⟩, k2.mono fun k _ e => by have e2 : k = rb := e; rw [e2]; exact hr⟩
  · rcases k3 k e2 with e2 | e2
    · exact h3 k e e2
    · have := (h1.lt e).2; omega
  · have := h.fl k e2
    rcases e with e | e
    · exact h4 k (Or.inl e) e2
    · rcases k3 k e with e | e
      · exact h4 k (Or.inr e) e2
      · omega
theorem Two.callR (h : Two base w1 w b m rb gb vs F N R u) {f : Nat} {args : Array Value} {Q : Ending → Prop} (hf : R'.cs.length ≤ u') (hc : ∀ A2 ac C cc, RefAt base w rb R A2 ac C cc → Calls Try.prog f args w fun e w' => Q e ∧ RStep base rb A2 C w R' w') :
    Calls Try.prog f args w fun e w' => Q e ∧ Two base w1 w' b m rb gb vs F N R' u' ∧ Only (fun k => ¬ F k) w w' := by
  obtain ⟨A, c, A2, ac, C, cc, h1, h2, h3, h4⟩ := h.ex
  refine (hc A2 ac C cc h2).mono ?_
  rintro e w' ⟨hq, hst⟩
  exact ⟨hq, h.stepR h1 h2 h3 h4 hst hf⟩
/-- All ways are whole again in the document's. -/
theorem Two.heal (h : Two base w1 w b m rb gb vs F N R u) : Two base w1 (w.setCell ⟨rb, 2, none⟩ (.slice none 0 0)) b m rb gb vs F N { R with cs := [] } u ∧ w.frozen? ⟨rb, 2, none⟩ = false ∧ ∃ v, w.cell? ⟨rb, 2, none⟩ = some v := by
  obtain ⟨A, c, A2, ac, C, cc, h1, h2, h3, h4⟩ := h.ex
  refine ⟨(h.stepR (R' := { R with cs := [] }) h1 h2 h3 h4 ⟨A2, ac, none, 0, ⟨h2.cel.set_ 2 _, row_only h2.rowL (Only.of_set w ⟨rb, 2, none⟩ _) fun k hk e => ?_, ⟨rfl, Or.inl ⟨rfl, rfl⟩⟩, h2.low, h2.nA, fun e => (by cases e), h2.len, Nat.zero_le _⟩, Only.of_set w ⟨rb, 2, none⟩ _, fun k e => ?_⟩ (Nat.zero_le _)).1, h2.cel.frozen (j := 2) (by simp), _, h2.cel.cell (j := 2) rfl⟩
  · rw [own_blk] at hk
    have e2 : k = rb := e
    exact h2.nA (by rw [hk, e2])
  · rcases e with e | e | e
    · exact Or.inl (Or.inl e)
    · exact Or.inl (Or.inr (Or.inl e))
    · cases e
theorem Two.net (h : Two base w1 w b m rb gb vs F N R u) : ∃ A c, NetAt base w b m N A c := by
  obtain ⟨A, c, A2, ac, C, cc, h1, h2, h3, h4⟩ := h.ex
  exact ⟨A, c, h1⟩
theorem Two.ref (h : Two base w1 w b m rb gb vs F N R u) : ∃ A2 ac C cc, RefAt base w rb R A2 ac C cc := by
  obtain ⟨A, c, A2, ac, C, cc, h1, h2, h3, h4⟩ := h.ex
  exact ⟨A2, ac, C, cc, h2⟩
/-- Both nets are made. -/
theorem two_new {wa : World} (hb : base = w1.heap.size) (h1 : NetAt base wa b m N none 0) (hba : Below base w1 wa) (h2 : RefAt wa.heap.size w rb R none 0 none 0) (hbb : Below wa.heap.size wa w) (hf : R.cs.length ≤ u) (cells : Array Value) :
    Two base w1 (w.alloc (.cells cells 33)) b m rb w.heap.size cells.toList (fun k => k = w.heap.size) N R u := by
  have hbc := below_alloc w (.cells cells 33)
  have hs := hba.size
  have hB : base ≤ wa.heap.size := by rw [hb]; exact hs
  have h2' : RefAt base w rb R none 0 none 0 := ⟨h2.cel, own_up hB h2.rowL, own_up hB h2.rowC, Nat.le_trans hB h2.low, h2.nA, h2.nC, h2.len, h2.few⟩
  refine ⟨⟨none, 0, none, 0, none, 0, (h1.later hbb).later hbc, h2'.later hbc, fun k e e2 => ?_, fun k e e2 => ?_⟩, cells_new _ _ _ _ rfl, (hba.trans (hbb.mono hB)).trans (hbc.mono (Nat.le_trans hB hbb.size)), Nat.le_trans (Nat.le_trans hB hbb.size) hbc.size, hf, rfl, fun k e => by rw [e]; exact (cells_new w _ _ cells rfl).lt⟩
  · have := (h1.lt e).2
    have := (h2.lt e2).1
    omega
  · have e3 : k = w.heap.size := e2
    rcases e with e | e
    · have := ((h1.later hbb).lt e).2; omega
    · have := (h2'.lt e).2; omega
theorem RkRow.kept {B : Nat} {V : Option Addr} {n c : Nat} {l : List Pk} (hr : RkRow B w (.slice V n c) l) (ho : Only (fun k => ¬ F k) w w') (hg : ∀ j, blk V = some j → F j) : RkRow B w' (.slice V n c) l :=
  row_only hr ho fun k hk e => e (hg k (by rw [own_blk] at hk; exact hk))
theorem Two.sendR (h : Two base w1 w b m rb gb vs F N R u) {V : Option Addr} {n c : Nat} {l : List Pk} (hr : RkRow base w (.slice V n c) l) (hg : ∀ j, blk V = some j → F j) (hl : l.length ≤ 1000) :
    Calls Try.prog 12 #[.pointer (some ⟨rb, 0, none⟩), .slice V n c] w fun e w' => e = .returned (.int .i64 (sendR R l).2) ∧ Two base w1 w' b m rb gb vs F N (sendR R l).1 u ∧ Only (fun k => ¬ F k) w w' := by
  obtain ⟨A, cA, A2, ac, C, cc, h1, h2, h3, h4⟩ := h.ex
  obtain rfl := hr.sl.1
  have hrb : ¬ F rb := h4 rb (Or.inr (Or.inl rfl))
  refine (RSend_any h2 V l c (by omega) h.big fun w2 ho => ?_).mono ?_
  · have h5 : RkRow base w2 (.slice V l.length c) l := row_only hr ho fun k hk e => by
      rw [own_blk] at hk
      have e2 : k = rb := e
      rw [e2] at hk
      exact hrb (hg rb hk)
    exact h5.sl.2
  · rintro e w' ⟨rfl, hst⟩
    exact ⟨rfl, h.stepR h1 h2 h3 h4 hst (by rw [sendR_cs]; exact h.few)⟩
theorem Two.plain (h : Two base w1 w b m rb gb vs F N R u) {A : Option Addr} {l : List Pk} (cap : Nat) (hp : Pks w A l) (hl : l.length ≤ 1000) :
    Calls Try.prog 13 #[.slice A l.length cap] w fun e w' => ∃ V c, e = .returned (.slice V l.length c) ∧ Two base w1 w' b m rb gb vs (fun k => F k ∨ blk V = some k) N R u ∧ RkRow base w' (.slice V l.length c) l := by
  refine (Plain_any A l cap w hp hl).mono ?_
  rintro e w' ⟨v, rfl, hrow, hb⟩
  obtain ⟨V, c, rfl⟩ := row_slice hrow
  exact ⟨V, c, rfl, h.add hb fun k e => hrow.lt k (by rw [own_blk]; exact e), own_up h.big hrow⟩
end
end Go.Proofs.Ytfhcfiebhagbeaa.Net
