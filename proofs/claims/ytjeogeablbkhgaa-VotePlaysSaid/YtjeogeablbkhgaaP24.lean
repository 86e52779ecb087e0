/-
  slices' stable sort of items, whole: what it leaves rises, and the items of each cell stand as they stood.
  Conditions: none.
-/
import Derived.Test.YtjeogeablbkhgaaP22
import Derived.Test.YtjeogeablbkhgaaP23
namespace Go.Proofs.Ytjeogeablbkhgaa.Item
set_option maxRecDepth 100000
open Go.RowKit Go.Proofs.Ytjeogeablbkhgaa.Mem Go.Proofs.Ytjeogeablbkhgaa.Wire
/-- Each piece of k items rises. -/
def Blocks (k : Nat) (l : List It) : Prop := ∀ i, Asc ((l.drop (i * k)).take k)
theorem asc_sub {l m : List It} (h : Asc l) (hs : m.Sublist l) : Asc m := h.sublist hs
theorem blocks_asc (k : Nat) {l : List It} (h : Asc l) : Blocks k l := fun _ => asc_sub h ((List.take_sublist _ _).trans (List.drop_sublist _ _))
theorem blocks_nil (k : Nat) : Blocks k [] := blocks_asc k List.Pairwise.nil
theorem blocks_append {k i : Nat} {P R : List It} (hp : P.length = i * k) (h : Blocks k P) (h2 : Blocks k R) : Blocks k (P ++ R) := by
 intro j
 by_cases hj : j < i
 ·have hle : (j + 1) * k ≤ i * k := Nat.mul_le_mul_right k hj
  rw [Nat.succ_mul] at hle
  rw [List.drop_append_of_le_length (by omega), List.take_append_of_le_length (by rw [List.length_drop]; omega)]
  exact h j
 ·have e : j * k = P.length + (j - i) * k := by
   rw [hp, ← Nat.add_mul]
   congr 1
   omega
  rw [e, List.drop_append, List.drop_of_length_le (by omega), List.nil_append]
  have e2 : P.length + (j - i) * k - P.length = (j - i) * k := by omega
  rw [e2]
  exact h2 (j - i)
theorem blocks_head {k : Nat} {R : List It} (h : Blocks k R) : Asc (R.take k) := by
 have := h 0
 rwa [Nat.zero_mul, List.drop_zero] at this
theorem blocks_next {k : Nat} {R : List It} (h : Blocks k R) : Asc ((R.drop k).take k) := by
 have := h 1
 rwa [Nat.one_mul] at this
theorem blocks_drop {k : Nat} {R : List It} (h : Blocks k R) (m : Nat) : Blocks k (R.drop (m * k)) := fun i => by
 rw [List.drop_drop, ← Nat.add_mul]
 exact h (m + i)
theorem blocks_all {k : Nat} {l : List It} (h : Blocks k l) (hk : l.length ≤ k) : Asc l := by
 have := blocks_head h
 rwa [List.take_of_length_le hk] at this
theorem insertion_zero (v : Value) (a : Nat) (f : Value) (w : World) (ha : a ≤ 1000000) :
  Calls Try.prog 52 #[v, .int .i64 (a : Int), .int .i64 (a : Int), f] w fun e w' => e = .returned (.tuple #[]) ∧ w = w' := by
 go_enter Try.func52, Try.ntmps52
 go_wp2_with fail
 go_loop [8] (fun i => i = .int .i64 ((a : Int) + 1)) (fun _ => 0)
 case atStart => rfl
 case round =>
  subst hrel
  go_wp2_with fail
  go_returns
  exact ⟨rfl, rfl⟩
theorem stable_nil (f : Value) (w : World) : Calls Try.prog 50 #[.slice none 0 0, .int .i64 0, f] w fun e w' => e = .returned (.tuple #[]) ∧ w = w' := by
 go_enter Try.func50, Try.ntmps50
 go_wp2_with fail
 go_loopw [7, 8] (fun i j wr => i = .int .i64 0 ∧ j = .int .i64 20 ∧ w = wr) (fun _ _ _ => 0)
 case atStart => exact ⟨rfl, rfl, rfl⟩
 case round =>
  obtain ⟨rfl, rfl, rfl⟩ := hrel
  go_wp2_with fail
  refine (insertion_zero (.slice none 0 0) 0 f w (by decide)).mono ?_
  rintro e w' ⟨rfl, rfl⟩
  go_wp2_with fail
  go_loopw [6, 7, 8, 9] (fun k _ _ _ wr => k = .int .i64 20 ∧ w = wr) (fun _ _ _ _ _ => 0)
  case atStart => exact ⟨rfl, rfl⟩
  case round =>
   obtain ⟨rfl, rfl⟩ := hrel
   go_wp2_with fail
   go_returns
   exact ⟨rfl, rfl⟩
set_option maxHeartbeats 2000000 in
theorem stable_any (l : List It) (b cap : Nat) (w : World) (h : Row w b l) (hl : l.length ≤ 100000) :
  Calls Try.prog 50 #[.slice (some ⟨b, 0, none⟩) l.length cap, .int .i64 (l.length : Int), .func (.func 44) #[] #[]] w fun e w' => e = .returned (.tuple #[]) ∧ ∃ l', l'.length = l.length ∧ Asc l' ∧ Same l l' ∧ Row w' b l' ∧ Only (fun j => j = b) w w' := by
 obtain ⟨N, hN⟩ : ∃ N, l.length = N := ⟨_, rfl⟩
 have HN := Lib.hid hN
 have HR := Lib.hid h
 rw [hN] at hl ⊢
 clear hN h
 go_enter Try.func50, Try.ntmps50
 go_wp2_with fail
 go_loopw [7, 8] (fun va vb wr => ∃ (p q : Nat) (P R : List It), va = .int .i64 (p : Int) ∧ vb = .int .i64 (q : Int) ∧ Hid (q = p + 20 ∧ P.length = p ∧ (∃ i, p = i * 20) ∧ p + R.length = N ∧ Blocks 20 P ∧ Same l (P ++ R) ∧ Row wr b (P ++ R) ∧ Only (fun j => j = b) w wr)) (fun va _ _ => N - (intOf va).toNat)
 case atStart => exact ⟨0, 20, [], l, rfl, rfl, Lib.hid ⟨rfl, rfl, ⟨0, rfl⟩, by rw [HN.out]; omega, blocks_nil _, Same.refl _, HR.out, Only.refl _ _⟩⟩
 case round =>
  obtain ⟨p, q, P, R, rfl, rfl, HX⟩ := hrel
  have b1 : q ≤ p + 20 := by have := HX.out.1; omega
  have b2 : p + 20 ≤ q := by have := HX.out.1; omega
  have b3 : p ≤ N := by have := HX.out.2.2.2.1; omega
  by_cases hlt : q ≤ N
  ·have HC := Lib.hid (insertion_any P (R.take 20) (R.drop 20) b N cap p q wr
    (by rw [List.append_assoc, List.take_append_drop]; exact HX.out.2.2.2.2.2.2.1)
    (by rw [List.append_assoc, List.take_append_drop, List.length_append]; have := HX.out; omega) HX.out.2.1.symm (by rw [List.length_take]; have := HX.out; omega) (by rw [List.length_take]; have := HX.out; omega) (by omega))
   go_wp2_with fail
   refine HC.out.mono ?_
   rintro e w2 ⟨rfl, X', hx1, hx2, hx3, hx4, hx5⟩
   have HY : Hid ((P ++ X').length = q ∧ (∃ i, q = i * 20) ∧ q + (R.drop 20).length = N ∧ Blocks 20 (P ++ X') ∧ Same l (P ++ X' ++ R.drop 20) ∧ Row w2 b (P ++ X' ++ R.drop 20) ∧ Only (fun j => j = b) w w2) := Lib.hid (by
    obtain ⟨h1, h2, ⟨i, h3⟩, h4, h5, h6, h7, h8⟩ := HX.out
    have hlen : X'.length = 20 := by rw [hx1, List.length_take]; omega
    refine ⟨by rw [List.length_append]; omega, ⟨i + 1, by omega⟩, by rw [List.length_drop]; omega, blocks_append (by rw [h2, h3]) h5 (blocks_asc _ hx2), ?_, hx4, h8.trans hx5 fun _ _ e => e⟩
    refine h6.trans ?_
    rw [List.append_assoc]
    refine (Same.refl P).append ?_
    have e : R = R.take 20 ++ R.drop 20 := (List.take_append_drop 20 R).symm
    rw [show Same R (X' ++ R.drop 20) ↔ Same (R.take 20 ++ R.drop 20) (X' ++ R.drop 20) by rw [List.take_append_drop]]
    exact hx3.append (Same.refl _))
   clear hx1 hx2 hx3 hx4 hx5 HX HC
   go_wp2_with fail
   go_roundw
   case rel => exact ⟨q, q + 20, P ++ X', R.drop 20, rfl, by go_num, Lib.hid ⟨rfl, HY.out⟩⟩
   case measure => simp [intOf]; omega
  ·-- the rest
   have HA : Hid (∃ L : List It, True ∧ ∃ Q : List It, Q = L) := Lib.hid ⟨[], trivial, [], rfl⟩
   have HI : Hid (Calls Try.prog 52 #[.slice (some ⟨b, 0, none⟩) N cap, .int .i64 (p : Int), .int .i64 (N : Int), .func (.func 44) #[] #[]] wr fun e w' => e = .returned (.tuple #[]) ∧ ∃ L, Hid (L.length = N ∧ Blocks 20 L ∧ Same l L ∧ Row w' b L ∧ Only (fun j => j = b) w w')) := Lib.hid (by
    obtain ⟨h1, h2, ⟨i, h3⟩, h4, h5, h6, h7, h8⟩ := HX.out
    by_cases hz : R.length = 0
    ·have e : p = N := by omega
     rw [e]
     refine (insertion_zero _ N _ wr (by omega)).mono ?_
     rintro e w' ⟨rfl, rfl⟩
     obtain rfl := List.eq_nil_of_length_eq_zero hz
     rw [List.append_nil] at h6 h7
     exact ⟨rfl, P, Lib.hid ⟨by omega, h5, h6, h7, h8⟩⟩
    ·refine (insertion_any P R [] b N cap p N wr (by rw [List.append_nil]; exact h7) (by rw [List.append_nil, List.length_append]; omega) h2.symm (by omega) (by omega) (by omega)).mono ?_
     rintro e w' ⟨rfl, X', hx1, hx2, hx3, hx4, hx5⟩
     rw [List.append_nil] at hx4
     exact ⟨rfl, P ++ X', Lib.hid ⟨by rw [List.length_append]; omega, blocks_append (by rw [h2, h3]) h5 (blocks_asc _ hx2), h6.trans ((Same.refl P).append hx3), hx4, h8.trans hx5 fun _ _ e => e⟩⟩)
   clear HX HA
   go_wp2_with fail
   refine HI.out.mono ?_
   rintro e w2 ⟨rfl, L0, HL0⟩
   clear HI
   go_wp2_with fail
   go_loopw [6, 7, 8, 9] (fun vk _ _ _ wr => ∃ (k : Nat) (L : List It), vk = .int .i64 (k : Int) ∧ 20 ≤ k ∧ k ≤ 2 * N + 20 ∧ Hid (L.length = N ∧ Blocks k L ∧ Same l L ∧ Row wr b L ∧ Only (fun j => j = b) w wr)) (fun vk _ _ _ _ => N - (intOf vk).toNat)
   case atStart => exact ⟨20, L0, rfl, by omega, by omega, HL0⟩
   case round =>
    obtain ⟨k, L, rfl, hk1, hk2, HL⟩ := hrel
    by_cases hlt2 : k < N
    ·go_wp2_with fail
     go_loopw [7, 8] (fun va vb wr => ∃ (p q : Nat) (P R : List It), va = .int .i64 (p : Int) ∧ vb = .int .i64 (q : Int) ∧ Hid (q = p + 2 * k ∧ P.length = p ∧ (∃ i, p = i * (2 * k)) ∧ p + R.length = N ∧ Blocks (2 * k) P ∧ Blocks k R ∧ Same l (P ++ R) ∧ Row wr b (P ++ R) ∧ Only (fun j => j = b) w wr)) (fun va _ _ => N - (intOf va).toNat)
     case atStart => exact ⟨0, 2 * k, [], L, rfl, by go_num, Lib.hid ⟨by omega, rfl, ⟨0, by omega⟩, by have := HL.out.1; omega, blocks_nil _, HL.out.2.1, HL.out.2.2.1, HL.out.2.2.2.1, HL.out.2.2.2.2⟩⟩
     case round =>
      obtain ⟨p, q, P, R, rfl, rfl, HX⟩ := hrel
      have d1 : q ≤ p + 2 * k := by have := HX.out.1; omega
      have d2 : p + 2 * k ≤ q := by have := HX.out.1; omega
      have d3 : p ≤ N := by have := HX.out.2.2.2.1; omega
      by_cases hlt3 : q ≤ N
      ·have HC := merged (k + k) P (R.take k) ((R.drop k).take k) (R.drop (2 * k)) b N cap p (p + k) q wr
        (by simp only [List.length_take, List.length_drop]; omega) (by simp only [List.length_take]; have := HX.out; omega) (by simp only [List.length_take, List.length_drop]; have := HX.out; omega)
        (by
         have e : P ++ R.take k ++ (R.drop k).take k ++ R.drop (2 * k) = P ++ R := by
          rw [show R.drop (2 * k) = (R.drop k).drop k by rw [List.drop_drop]; congr 1; omega, List.append_assoc, List.append_assoc, List.take_append_drop, List.take_append_drop]
         rw [e]
         exact HX.out.2.2.2.2.2.2.2.1)
        (by simp only [List.length_append, List.length_take, List.length_drop]; have := HX.out; omega) HX.out.2.1.symm (by simp only [List.length_take]; have := HX.out; omega) (by simp only [List.length_take, List.length_drop]; have := HX.out; omega)
        (blocks_head HX.out.2.2.2.2.2.1) (blocks_next HX.out.2.2.2.2.2.1) (by omega)
       rw [show ((p + k : Nat) : Int) = (p : Int) + (k : Int) by omega] at HC
       have HC2 := Lib.hid HC
       clear HC
       go_wp2_with fail
       refine HC2.out.mono ?_
       rintro e w3 ⟨rfl, Z, hz1, hz2, hz3, hz4, hz5⟩
       have HY : Hid ((P ++ Z).length = q ∧ (∃ i, q = i * (2 * k)) ∧ q + (R.drop (2 * k)).length = N ∧ Blocks (2 * k) (P ++ Z) ∧ Blocks k (R.drop (2 * k)) ∧ Same l (P ++ Z ++ R.drop (2 * k)) ∧ Row w3 b (P ++ Z ++ R.drop (2 * k)) ∧ Only (fun j => j = b) w w3) := Lib.hid (by
        obtain ⟨h1, h2, ⟨i, h3⟩, h4, h5, h6, h7, h8, h9⟩ := HX.out
        have hlen : Z.length = 2 * k := by rw [hz1]; simp only [List.length_take, List.length_drop]; omega
        refine ⟨by rw [List.length_append]; omega, ⟨i + 1, by rw [Nat.succ_mul]; omega⟩, by rw [List.length_drop]; omega, blocks_append (by rw [h2, h3]) h5 (blocks_asc _ hz2), blocks_drop h6 2, ?_, hz4, h9.trans hz5 fun _ _ e => e⟩
        refine h7.trans ?_
        rw [List.append_assoc]
        refine (Same.refl P).append ?_
        have e : R.take k ++ (R.drop k).take k ++ R.drop (2 * k) = R := by
         rw [show R.drop (2 * k) = (R.drop k).drop k by rw [List.drop_drop]; congr 1; omega, List.append_assoc, List.take_append_drop, List.take_append_drop]
        have h10 := hz3.append (Same.refl (R.drop (2 * k)))
        rw [e] at h10
        exact h10)
       clear hz1 hz2 hz3 hz4 hz5 HX HC2
       go_wp2_with fail
       go_roundw
       case rel => exact ⟨q, q + 2 * k, P ++ Z, R.drop (2 * k), rfl, by go_num, Lib.hid ⟨rfl, HY.out⟩⟩
       case measure => simp [intOf]; omega
      ·by_cases hlt4 : p + k < N
       ·have HC := merged (k + k) P (R.take k) (R.drop k) [] b N cap p (p + k) N wr
         (by simp only [List.length_take, List.length_drop]; have := HX.out; omega) (by simp only [List.length_take]; have := HX.out; omega) (by simp only [List.length_drop]; have := HX.out; omega)
         (by
          rw [List.append_nil, List.append_assoc, List.take_append_drop]
          exact HX.out.2.2.2.2.2.2.2.1)
         (by simp only [List.length_append, List.length_take, List.length_drop, List.length_nil]; have := HX.out; omega) HX.out.2.1.symm (by simp only [List.length_take]; have := HX.out; omega) (by simp only [List.length_take, List.length_drop]; have := HX.out; omega)
         (blocks_head HX.out.2.2.2.2.2.1) (by have h1 := blocks_next HX.out.2.2.2.2.2.1; rwa [List.take_of_length_le (by rw [List.length_drop]; have := HX.out; omega)] at h1) (by omega)
        rw [show ((p + k : Nat) : Int) = (p : Int) + (k : Int) by omega] at HC
        have HC2 := Lib.hid HC
        clear HC
        go_wp2_with fail
        refine HC2.out.mono ?_
        rintro e w3 ⟨rfl, Z, hz1, hz2, hz3, hz4, hz5⟩
        have HY : Hid ((P ++ Z).length = N ∧ Blocks (2 * k) (P ++ Z) ∧ Same l (P ++ Z) ∧ Row w3 b (P ++ Z) ∧ Only (fun j => j = b) w w3) := Lib.hid (by
         obtain ⟨h1, h2, ⟨i, h3⟩, h4, h5, h6, h7, h8, h9⟩ := HX.out
         have hlen : Z.length = R.length := by rw [hz1]; simp only [List.length_take, List.length_drop]; omega
         rw [List.append_nil] at hz4
         rw [List.take_append_drop] at hz3
         exact ⟨by rw [List.length_append]; omega, blocks_append (by rw [h2, h3]) h5 (blocks_asc _ hz2), h7.trans ((Same.refl P).append hz3), hz4, h9.trans hz5 fun _ _ e => e⟩)
        clear hz1 hz2 hz3 hz4 hz5 HX HC2
        go_wp2_with fail
        go_roundw
        case rel => exact ⟨k * 2, P ++ Z, by go_num, by omega, by omega, Lib.hid (by rw [Nat.mul_comm k 2]; exact HY.out)⟩
        case measure => simp [intOf]; omega
       ·have HY : Hid ((P ++ R).length = N ∧ Blocks (2 * k) (P ++ R) ∧ Same l (P ++ R) ∧ Row wr b (P ++ R) ∧ Only (fun j => j = b) w wr) := Lib.hid (by
         obtain ⟨h1, h2, ⟨i, h3⟩, h4, h5, h6, h7, h8, h9⟩ := HX.out
         exact ⟨by rw [List.length_append]; omega, blocks_append (by rw [h2, h3]) h5 (blocks_asc _ (blocks_all h6 (by omega))), h7, h8, h9⟩)
        clear HX
        go_wp2_with fail
        go_roundw
        case rel => exact ⟨k * 2, P ++ R, by go_num, by omega, by omega, Lib.hid (by rw [Nat.mul_comm k 2]; exact HY.out)⟩
        case measure => simp [intOf]; omega
    ·have HF : Hid (L.length = N ∧ Asc L ∧ Same l L ∧ Row wr b L ∧ Only (fun j => j = b) w wr) := Lib.hid (by
      obtain ⟨h1, h2, h3⟩ := HL.out
      exact ⟨h1, blocks_all h2 (by omega), h3⟩)
     clear HL
     go_wp2_with fail
     go_returns
     exact ⟨rfl, L, HF.out⟩
theorem sort_any (l : List It) (b cap : Nat) (w : World) (h : Row w b l) (hl : l.length ≤ 100000) :
  Calls Try.prog 43 #[.slice (some ⟨b, 0, none⟩) l.length cap, .func (.func 44) #[] #[]] w fun e w' => e = .returned (.tuple #[]) ∧ ∃ l', l'.length = l.length ∧ Asc l' ∧ Same l l' ∧ Row w' b l' ∧ Only (fun j => j = b) w w' := by
 have HC := Lib.hid (stable_any l b cap w h hl)
 obtain ⟨N, hN⟩ : ∃ N, l.length = N := ⟨_, rfl⟩
 rw [hN] at hl HC ⊢
 clear hN h
 go_enter Try.func43, Try.ntmps43
 go_wp2_with fail
 refine HC.out.mono ?_
 rintro e w2 ⟨rfl, l', hx⟩
 have HX := Lib.hid hx
 clear hx
 go_wp2_with fail
 go_returns
 exact ⟨rfl, l', HX.out⟩
theorem sort_nil (f : Value) (w : World) :
  Calls Try.prog 43 #[.slice none 0 0, f] w fun e w' => e = .returned (.tuple #[]) ∧ w = w' := by
 go_enter Try.func43, Try.ntmps43
 go_wp2_with fail
 refine (stable_nil f w).mono ?_
 rintro e w2 ⟨rfl, rfl⟩
 go_wp2_with fail
 go_returns
 exact ⟨rfl, rfl⟩
end Go.Proofs.Ytjeogeablbkhgaa.Item
