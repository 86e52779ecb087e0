/-
  Layer 6: names that are put are read again; the document's example (awake); the order of names is one. Conditions: none.
-/
import Derived.Test.YtdmncoemgaighaaItemPut
import Derived.Test.YtdmncoemgaighaaItemGet
namespace Go.Proofs.Ytdmncoemgaighaa.Item
open Go.RowKit Go.Proofs.Ytdmncoemgaighaa.Mem Go.Proofs.Ytdmncoemgaighaa.Wire

theorem bs_left (l m : List UInt8) : (bs (l ++ m)).extract 0 l.length = bs l := ba_ext (by rw [ext_list, bs_list, bs_list]; simp)
theorem bs_right (l m : List UInt8) : (bs (l ++ m)).extract l.length (bs (l ++ m)).size = bs m := ba_ext (by rw [ext_list, bs_list, bs_list, bs_size, List.take_of_length_le (Nat.le_refl _)]; simp)
theorem tk_bs {n : Nat} (l m : List UInt8) (h : l.length = n) : tk (bs (l ++ m)) n = bs l := by
  subst h
  unfold tk
  rw [if_neg (by rw [bs_size, List.length_append]; omega), bs_left]
theorem rest_bs {n : Nat} (l m : List UInt8) (h : l.length = n) : rest (bs (l ++ m)) n = bs m := by
  subst h
  unfold rest
  rw [if_neg (by rw [bs_size, List.length_append]; omega), bs_right]
theorem brk_bs {n : Nat} (l m : List UInt8) (b : Bool) (h : l.length = n) : brk (bs (l ++ m)) b n = b := by
  subst h
  unfold brk
  rw [if_neg (by rw [bs_size, List.length_append]; omega)]
theorem num_bs {n : Nat} (l m : List UInt8) (h : l.length = n) : num (bs (l ++ m)) n = valN l := by unfold num; rw [tk_bs l m h, bs_list]
theorem num_big (k n : Nat) (m : List UInt8) (h : k < 256 ^ n) : num (bs (big k n ++ m)) n = k := by rw [num_bs _ _ (big_length k n), valN_big k n h]
theorem wrap_u64 {n : Int} (h : I64 n) : IntKind.i64.wrap (u64 n : Nat) = n := by
  rw [u64_cast, IntKind.wrap_i64]
  unfold I64 at h
  omega
theorem num_u64 {n : Int} (h : I64 n) (m : List UInt8) : IntKind.i64.wrap (num (bs (big (u64 n) 8 ++ m)) 8 : Nat) = n := by
  rw [num_big _ _ _ (Nat.lt_of_lt_of_eq (u64_lt n) (by decide)), wrap_u64 h]
theorem tidB_eq (t : Tid) (m : List UInt8) : tidB t ++ m = big (u64 t.node) 8 ++ (big (u64 t.epoch) 8 ++ (big (u64 t.seq) 8 ++ m)) := by
  unfold tidB nums
  simp
theorem read_tidB {t : Tid} (h : t.ok) (m : List UInt8) : readTid (bs (tidB t ++ m)) false = t ∧ restTid (bs (tidB t ++ m)) = bs m ∧ brkTid (bs (tidB t ++ m)) false = false := by
  obtain ⟨h1, h2, h3⟩ := h
  have l1 := big_length (u64 t.node) 8
  have l2 := big_length (u64 t.epoch) 8
  have l3 := big_length (u64 t.seq) 8
  have e2 : restTid (bs (tidB t ++ m)) = bs m := by
    unfold restTid
    rw [tidB_eq, rest_bs _ _ l1, rest_bs _ _ l2, rest_bs _ _ l3]
  have e3 : brkTid (bs (tidB t ++ m)) false = false := by
    unfold brkTid
    rw [tidB_eq, rest_bs _ _ l1, rest_bs _ _ l2, brk_bs _ _ _ l1, brk_bs _ _ _ l2, brk_bs _ _ _ l3]
  refine ⟨?_, e2, e3⟩
  unfold readTid
  rw [e3, if_neg (by decide)]
  unfold n1 n2 n3
  rw [tidB_eq, rest_bs _ _ l1, rest_bs _ _ l2, num_u64 h1, num_u64 h2, num_u64 h3]

/-- One name stands ahead of another. -/
def tlt (a b : Tid) : Prop := a.node < b.node ∨ a.node = b.node ∧ (a.epoch < b.epoch ∨ a.epoch = b.epoch ∧ a.seq < b.seq)
theorem ord_cases (a b : Tid) : (ord a b = -1 ∧ tlt a b) ∨ (ord a b = 0 ∧ a = b) ∨ (ord a b = 1 ∧ tlt b a) := by
  obtain ⟨a1, a2, a3⟩ := a
  obtain ⟨b1, b2, b3⟩ := b
  simp only [ord, firstNZ, cmpI, tlt, Tid.mk.injEq]
  by_cases x1 : a1 < b1
  · exact Or.inl ⟨by rw [if_pos x1]; rfl, Or.inl x1⟩
  · by_cases y1 : b1 < a1
    · exact Or.inr (Or.inr ⟨by rw [if_neg x1, if_pos y1]; rfl, Or.inl y1⟩)
    · have e1 : a1 = b1 := by omega
      rw [if_neg x1, if_neg y1, if_pos rfl]
      by_cases x2 : a2 < b2
      · exact Or.inl ⟨by rw [if_pos x2]; rfl, Or.inr ⟨e1, Or.inl x2⟩⟩
      · by_cases y2 : b2 < a2
        · exact Or.inr (Or.inr ⟨by rw [if_neg x2, if_pos y2]; rfl, Or.inr ⟨e1.symm, Or.inl y2⟩⟩)
        · have e2 : a2 = b2 := by omega
          rw [if_neg x2, if_neg y2, if_pos rfl]
          by_cases x3 : a3 < b3
          · exact Or.inl ⟨by rw [if_pos x3]; rfl, Or.inr ⟨e1, Or.inr ⟨e2, x3⟩⟩⟩
          · by_cases y3 : b3 < a3
            · exact Or.inr (Or.inr ⟨by rw [if_neg x3, if_pos y3]; rfl, Or.inr ⟨e1.symm, Or.inr ⟨e2.symm, y3⟩⟩⟩)
            · have e3 : a3 = b3 := by omega
              rw [if_neg x3, if_neg y3, if_pos rfl]
              exact Or.inr (Or.inl ⟨rfl, e1, e2, e3⟩)
theorem tlt_irrefl (a : Tid) : ¬ tlt a a := by unfold tlt; omega
theorem tlt_asymm {a b : Tid} (h : tlt a b) : ¬ tlt b a := by unfold tlt at *; omega
theorem tlt_trans {a b c : Tid} (h : tlt a b) (k : tlt b c) : tlt a c := by unfold tlt at *; omega
theorem ord_neg (a b : Tid) : ord a b = -ord b a := by
  rcases ord_cases a b with ⟨h, k⟩ | ⟨h, k⟩ | ⟨h, k⟩ <;> rcases ord_cases b a with ⟨h', k'⟩ | ⟨h', k'⟩ | ⟨h', k'⟩
  · exact absurd k' (tlt_asymm k)
  · subst k'; exact absurd k (tlt_irrefl _)
  · omega
  · subst k; exact absurd k' (tlt_irrefl _)
  · omega
  · subst k; exact absurd k' (tlt_irrefl _)
  · omega
  · subst k'; exact absurd k (tlt_irrefl _)
  · exact absurd k' (tlt_asymm k)
theorem ord_zero (a b : Tid) : ord a b = 0 ↔ a = b := by
  rcases ord_cases a b with ⟨h, k⟩ | ⟨h, k⟩ | ⟨h, k⟩
  · refine ⟨fun e => by omega, fun e => ?_⟩
    subst e; exact absurd k (tlt_irrefl _)
  · exact ⟨fun _ => k, fun _ => h⟩
  · refine ⟨fun e => by omega, fun e => ?_⟩
    subst e; exact absurd k (tlt_irrefl _)
theorem ord_trans {a b c : Tid} (h : ord a b ≤ 0) (k : ord b c ≤ 0) : ord a c ≤ 0 := by
  rcases ord_cases a b with ⟨h1, h2⟩ | ⟨h1, h2⟩ | ⟨h1, h2⟩ <;> rcases ord_cases b c with ⟨k1, k2⟩ | ⟨k1, k2⟩ | ⟨k1, k2⟩ <;> rcases ord_cases a c with ⟨l1, l2⟩ | ⟨l1, l2⟩ | ⟨l1, l2⟩ <;> first | omega | skip
  · exact absurd l2 (tlt_asymm (tlt_trans h2 k2))
  · subst k2; omega
  · subst h2; omega
  · subst h2; subst k2; omega

set_option maxHeartbeats 1000000 in
theorem awake_any (w : World) : Calls Try.prog 5 #[] w fun e w' => e = .returned (.bool true) ∧ Below w.heap.size w w' := by
  have HW := Lib.hid (wr_new' w w.heap.size 40 (Nat.le_refl _))
  have HB := Lib.hid (below_alloc w (.cells #[.slice none 0 0, .bool false] 40))
  have hok : (⟨1, 2, 3⟩ : Tid).ok := by unfold Tid.ok I64; simp
  have hr := read_tidB hok []
  rw [List.append_nil] at hr
  have HR := Lib.hid hr
  have HL := Lib.hid (tidB_length ⟨1, 2, 3⟩)
  have HO : Hid (ord ⟨1, 0, 0⟩ ⟨2, 0, 0⟩ = -1) := Lib.hid (by decide)
  clear hr hok
  go_enter Try.func5, Try.ntmps5
  go_wp2_with fail
  refine (wTid_any ⟨1, 2, 3⟩ _ w.heap.size w.heap.size none _ HW.out (by simp)).mono ?_
  rintro e w2 ⟨rfl, r2, hw2, ht2⟩
  have HT2 := Lib.hid (Turn.before HB.out ht2)
  have hw2' : Wr w2 w.heap.size w.heap.size r2 (some (tidB ⟨1, 2, 3⟩)) := by simpa using hw2
  have HW2 := Lib.hid hw2'
  have hsz : (bs (tidB ⟨1, 2, 3⟩)).size = 24 := by rw [bs_size, HL.out]
  have HSZ := Lib.hid hsz
  clear hw2 ht2 hw2' hsz
  go_wp2_with fail
  refine (string_any _ _ _ _ _ HW2.out).mono ?_
  rintro e w3 ⟨rfl, rfl⟩
  rw [show (ByteArray.mk ((some (tidB ⟨1, 2, 3⟩)).getD []).toArray) = bs (tidB ⟨1, 2, 3⟩) from rfl]
  go_wp2_with fail
  refine (inew_any w2 (bs (tidB ⟨1, 2, 3⟩)) (by rw [HSZ.out]; decide)).mono ?_
  rintro e w3 ⟨p, g, rfl, hi, hp, hg, hb3⟩
  have HI := Lib.hid hi
  have HW3 := Lib.hid (HW2.out.later hb3)
  have HT3 := Lib.hid (HT2.out.after hb3)
  have HPG : Hid (w.heap.size ≤ p ∧ w.heap.size ≤ g) := Lib.hid ⟨Nat.le_trans HT2.out.1.size hp, Nat.le_trans HT2.out.1.size hg⟩
  clear hi hp hg hb3
  go_wp2_with fail
  refine (string_any _ _ _ _ _ HW3.out).mono ?_
  rintro e w4 ⟨rfl, rfl⟩
  rw [show (ByteArray.mk ((some (tidB ⟨1, 2, 3⟩)).getD []).toArray) = bs (tidB ⟨1, 2, 3⟩) from rfl]
  have hsz := HSZ.out
  go_wp2_with fail
  refine (rTid_any w3 p g _ _ HI.out).mono ?_
  rintro e w4 ⟨rfl, hi4, hf4⟩
  rw [HR.out.1]
  rw [HR.out.2.1, HR.out.2.2] at hi4
  have hcp := hi4.cell
  have HE := Lib.hid (end_any w4 (some g) _ _ hi4.rd)
  have HB4 : Hid (Below w.heap.size w w4) := Lib.hid ((HT3.out.1.below (Nat.le_refl _) (by
    rintro k (rfl | h)
    · exact Nat.le_refl _
    · cases h)).trans (hf4.below (Nat.le_trans HT3.out.1.size (Nat.le_refl _)) (by
      intro k hk
      obtain rfl := Option.some.inj hk
      exact HPG.out.2)))
  unfold Tid.val
  clear hi4 hf4 hsz
  go_wp2_with fail
  refine HE.out.mono ?_
  rintro e w5 ⟨rfl, rfl⟩
  go_wp2_with fail
  refine (order_any ⟨1, 0, 0⟩ ⟨2, 0, 0⟩ w4).mono ?_
  rintro e w5 ⟨rfl, hb5⟩
  rw [HO.out]
  have HB5 := Lib.hid (HB4.out.trans (hb5.mono HB4.out.size))
  clear hb5
  go_wp2_with fail
  go_returns
  exact ⟨rfl, HB5.out⟩
end Go.Proofs.Ytdmncoemgaighaa.Item
