/-
  The plain mathematics of layer 3 (frame): what a frame is, when a text begins with one, frames one behind the other, and that the sum over a whole frame is one number for all frames. Conditions: none.
-/
import Derived.Test.YtfdhckfpkhoheaaDoorBig
import Derived.Test.YtfdhckfpkhoheaaDoorCrcTellMath
namespace Go.Proofs.YtfdhckfpkhoheaaDoor.Frame
open Go.Proofs.YtfdhckfpkhoheaaDoor.Crc Go.Proofs.YtfdhckfpkhoheaaDoor.Wire

/-- A sum's four bytes, the lowest first. -/
def le4 (c : BitVec 32) : List UInt8 := [UInt8.ofNat c.toNat, UInt8.ofNat (c.toNat / 256), UInt8.ofNat (c.toNat / 65536), UInt8.ofNat (c.toNat / 16777216)]
theorem le4_length (c : BitVec 32) : (le4 c).length = 4 := rfl

theorem byte_bit (n k i : Nat) : (by32 (UInt8.ofNat (n / 2 ^ k))).getLsbD i = (decide (i < 8) && n.testBit (k + i)) := by
  unfold by32
  have e : (UInt8.ofNat (n / 2 ^ k)).toNat = n / 2 ^ k % 2 ^ 8 := by rw [UInt8.toNat_ofNat']
  rw [e, BitVec.getLsbD_ofNat]
  rw [Nat.testBit_mod_two_pow, ← Nat.shiftRight_eq_div_pow, Nat.testBit_shiftRight]
  by_cases h : i < 8
  · simp [h, show i < 32 by omega]
  · simp [h]
theorem pk_le4 (c : BitVec 32) : pk (le4 c) = c := by
  apply BitVec.eq_of_getLsbD_eq
  intro i hi
  have h0 := byte_bit c.toNat 0
  have h1 := byte_bit c.toNat 8
  have h2 := byte_bit c.toNat 16
  have h3 := byte_bit c.toNat 24
  simp only [Nat.pow_zero, Nat.div_one, show (2 : Nat) ^ 8 = 256 from rfl, show (2 : Nat) ^ 16 = 65536 from rfl, show (2 : Nat) ^ 24 = 16777216 from rfl, Nat.zero_add] at h0 h1 h2 h3
  simp only [le4, pk, BitVec.getLsbD_xor, BitVec.getLsbD_shiftLeft, h0, h1, h2, h3, BitVec.getLsbD_zero]
  have e : c.getLsbD i = c.toNat.testBit i := rfl
  rw [e]
  rcases (show i < 8 ∨ (8 ≤ i ∧ i < 16) ∨ (16 ≤ i ∧ i < 24) ∨ (24 ≤ i ∧ i < 32) by omega) with h | ⟨h, h'⟩ | ⟨h, h'⟩ | ⟨h, h'⟩
  · simp [h]
  · have e1 : 8 + (i - 8) = i := by omega
    simp [e1, show ¬ i < 8 by omega, show i < 32 by omega, show i - 8 < 32 by omega, show i - 8 < 8 by omega]
  · have e1 : 16 + (i - 8 - 8) = i := by omega
    simp [e1, show ¬ i < 8 by omega, show i < 32 by omega, show i - 8 < 32 by omega, show ¬ i - 8 < 8 by omega, show i - 8 - 8 < 32 by omega, show i - 8 - 8 < 8 by omega]
  · have e1 : 24 + (i - 8 - 8 - 8) = i := by omega
    simp [e1, show ¬ i < 8 by omega, show i < 32 by omega, show i - 8 < 32 by omega, show ¬ i - 8 < 8 by omega, show i - 8 - 8 < 32 by omega, show ¬ i - 8 - 8 < 8 by omega, show i - 8 - 8 - 8 < 32 by omega, show i - 8 - 8 - 8 < 8 by omega]

/-- The sum over a text with its own sum behind it is one number. -/
theorem residue (l : List UInt8) : more 0#32 (l ++ le4 (more 0#32 l)) = ~~~ sts 32 (BitVec.allOnes 32) := by
  have h := sl_pk (le4 (more 0#32 l)) (~~~ more 0#32 l) (by simp [le4])
  rw [more_append]
  show ~~~ sl (~~~ more 0#32 l) (le4 (more 0#32 l)) = _
  rw [h, pk_le4, le4_length]
  have e : ~~~ more 0#32 l ^^^ more 0#32 l = BitVec.allOnes 32 := by
    rw [← BitVec.xor_allOnes, BitVec.xor_comm (more 0#32 l), BitVec.xor_assoc, BitVec.xor_self, BitVec.xor_zero]
  rw [e]

/-- A payload's frame. -/
def frm (p : List UInt8) : List UInt8 := (big p.length 2 ++ p) ++ le4 (more 0#32 (big p.length 2 ++ p))
theorem frm_length (p : List UInt8) : (frm p).length = 6 + p.length := by
  unfold frm
  rw [List.length_append, List.length_append, big_length, le4_length]
  omega
theorem frm_more (p : List UInt8) : more 0#32 (frm p) = ~~~ sts 32 (BitVec.allOnes 32) := residue _

/-- The length that a text's first two bytes say. -/
def flen (l : List UInt8) : Nat := valN (l.take 2)
/-- Which error says that a text begins with no frame; 0: it does. -/
def err (l : List UInt8) : Int :=
  if l.length < 6 then 4 else if 4096 < flen l then 5 else if l.length < 6 + flen l then 4
  else if ((l.drop (2 + flen l)).take 4) ≠ le4 (more 0#32 (l.take (2 + flen l))) then 3 else 0
/-- The payload of the frame with which it begins. -/
def payload (l : List UInt8) : List UInt8 := (l.drop 2).take (flen l)

theorem flen_frm (p m : List UInt8) (h : p.length ≤ 4096) : flen (frm p ++ m) = p.length := by
  unfold flen frm
  rw [List.append_assoc, List.append_assoc, List.take_append_of_le_length (by rw [big_length]; omega), List.take_of_length_le (by rw [big_length]; omega)]
  exact valN_big _ 2 (by omega)
theorem err_frm (p m : List UInt8) (h : p.length ≤ 4096) : err (frm p ++ m) = 0 ∧ payload (frm p ++ m) = p ∧ (frm p ++ m).drop (6 + flen (frm p ++ m)) = m := by
  have hf := flen_frm p m h
  have hl : (frm p ++ m).length = 6 + p.length + m.length := by rw [List.length_append, frm_length]
  have h2 : (big p.length 2 ++ p).length = 2 + p.length := by rw [List.length_append, big_length]
  have ht : (frm p ++ m).take (2 + p.length) = big p.length 2 ++ p := by
    unfold frm
    rw [List.append_assoc, List.take_append_of_le_length (by rw [h2]; exact Nat.le_refl _), List.take_of_length_le (by rw [h2]; exact Nat.le_refl _)]
  have hd : (frm p ++ m).drop (2 + p.length) = le4 (more 0#32 (big p.length 2 ++ p)) ++ m := by
    unfold frm
    rw [List.append_assoc, ← h2, List.drop_left]
  refine ⟨?_, ?_, ?_⟩
  · unfold err
    rw [hf, if_neg (by omega), if_neg (by omega), if_neg (by omega), ht, hd, if_neg]
    intro hn
    apply hn
    rw [List.take_append_of_le_length (by rw [le4_length]; omega), List.take_of_length_le (by rw [le4_length]; omega)]
  · unfold payload
    rw [hf]
    unfold frm
    have e : (big p.length 2 ++ p ++ le4 (more 0#32 (big p.length 2 ++ p)) ++ m).drop 2 = p ++ (le4 (more 0#32 (big p.length 2 ++ p)) ++ m) := by
      rw [List.append_assoc, List.append_assoc]
      have hb := List.drop_left (l₁ := big p.length 2) (l₂ := p ++ (le4 (more 0#32 (big p.length 2 ++ p)) ++ m))
      rw [big_length] at hb
      exact hb
    rw [e, List.take_left]
  · rw [hf, ← frm_length, List.drop_left]
/-- What begins with a frame is that frame, and the rest. -/
theorem frm_of_err (l : List UInt8) (h : err l = 0) : l = frm (payload l) ++ l.drop (6 + flen l) ∧ (payload l).length = flen l ∧ flen l ≤ 4096 ∧ 6 + flen l ≤ l.length := by
  unfold err at h
  split at h
  · cases h
  rename_i h1
  split at h
  · cases h
  rename_i h2
  split at h
  · cases h
  rename_i h3
  split at h
  · cases h
  rename_i h4
  have h4' : (l.drop (2 + flen l)).take 4 = le4 (more 0#32 (l.take (2 + flen l))) := Decidable.of_not_not h4
  have hp : (payload l).length = flen l := by
    unfold payload
    rw [List.length_take, List.length_drop]
    omega
  have hb : big (flen l) 2 = l.take 2 := by
    have h := big_valN (l.take 2)
    rw [List.length_take, Nat.min_eq_left (by omega)] at h
    exact h
  have ht : l.take (2 + flen l) = big (payload l).length 2 ++ payload l := by
    rw [hp, hb]
    unfold payload
    rw [List.take_add]
  refine ⟨?_, hp, by omega, by omega⟩
  unfold frm
  rw [← ht, ← h4']
  have e1 : l.drop (6 + flen l) = (l.drop (2 + flen l)).drop 4 := by rw [List.drop_drop]; congr 1; omega
  rw [e1, List.append_assoc, List.take_append_drop, List.take_append_drop]

/-- Frames one behind the other. -/
def fr (l : List UInt8) : List (List UInt8) × Nat := if err l = 0 then (payload l :: (fr (l.drop (6 + flen l))).1, 6 + flen l + (fr (l.drop (6 + flen l))).2) else ([], 0)
termination_by l.length
decreasing_by
  all_goals
    rename_i h
    have := (frm_of_err l h).2.2.2
    rw [List.length_drop]
    omega
theorem fr_yes {l : List UInt8} (h : err l = 0) : fr l = (payload l :: (fr (l.drop (6 + flen l))).1, 6 + flen l + (fr (l.drop (6 + flen l))).2) := by
  rw [fr, if_pos h]
theorem fr_no {l : List UInt8} (h : err l ≠ 0) : fr l = ([], 0) := by rw [fr, if_neg h]
theorem fr_frm : ∀ (ps : List (List UInt8)) (m : List UInt8), (∀ p ∈ ps, p.length ≤ 4096) → fr ((ps.map frm).flatten ++ m) = (ps ++ (fr m).1, ((ps.map frm).flatten).length + (fr m).2)
  | [], m, _ => by simp
  | p :: ps, m, h => by
    have hp := h p (List.mem_cons_self ..)
    have ih := fr_frm ps m fun q hq => h q (List.mem_cons_of_mem _ hq)
    rw [List.map_cons, List.flatten_cons, List.append_assoc]
    obtain ⟨e1, e2, e3⟩ := err_frm p ((ps.map frm).flatten ++ m) hp
    rw [fr_yes e1, e2, e3, ih, flen_frm p _ hp, List.length_append, frm_length]
    simp only [List.cons_append, Prod.mk.injEq, true_and]
    omega
theorem fr_small : ∀ (n : Nat) (l : List UInt8), l.length ≤ n → (∀ p ∈ (fr l).1, p.length ≤ 4096) ∧ (fr l).1.length ≤ l.length ∧ (fr l).2 ≤ l.length
  | 0, l, h => by
    have e : l = [] := List.eq_nil_of_length_eq_zero (by omega)
    subst e
    rw [fr_no (by decide)]
    exact ⟨fun p hp => (by cases hp), Nat.le_refl _, Nat.le_refl _⟩
  | n + 1, l, h => by
    by_cases he : err l = 0
    · obtain ⟨_, h2, h3, h4⟩ := frm_of_err l he
      have ih := fr_small n (l.drop (6 + flen l)) (by rw [List.length_drop]; omega)
      rw [List.length_drop] at ih
      rw [fr_yes he]
      refine ⟨fun p hp => ?_, ?_, ?_⟩
      · rcases List.mem_cons.1 hp with rfl | hp
        · omega
        · exact ih.1 p hp
      · rw [List.length_cons]; omega
      · show 6 + flen l + _ ≤ _; omega
    · rw [fr_no he]
      exact ⟨fun p hp => (by cases hp), Nat.zero_le _, Nat.zero_le _⟩
/-- What is shorter than a frame is none. -/
theorem err_cut (p : List UInt8) (n : Nat) (h : p.length ≤ 4096) (hn : n < (frm p).length) : err ((frm p).take n) ≠ 0 := by
  intro he
  obtain ⟨_, _, _, h4⟩ := frm_of_err _ he
  have hl : ((frm p).take n).length = n := by rw [List.length_take]; omega
  rw [hl] at h4
  have hf : flen ((frm p).take n) = p.length := by
    have h1 := flen_frm p [] h
    rw [List.append_nil] at h1
    rw [← h1]
    unfold flen
    rw [List.take_take, Nat.min_eq_left (by omega)]
  rw [hf] at h4
  rw [frm_length] at hn
  omega
/-- A frame of which up to four bytes side by side are turned is none that ends where it ended. -/
theorem err_turned (p : List UInt8) (at_ : Nat) (xs : List UInt8) (hl : at_ + xs.length ≤ (frm p).length) (h4 : xs.length ≤ 4) (hx : ¬ ∀ x ∈ xs, x = 0) (he : err (turned (frm p) at_ xs) = 0) : (turned (frm p) at_ xs).drop (6 + flen (turned (frm p) at_ xs)) ≠ [] := by
  intro hd
  obtain ⟨h1, _⟩ := frm_of_err _ he
  rw [hd, List.append_nil] at h1
  have h2 := turned_more 0#32 (frm p) at_ xs hl h4
  apply hx
  apply h2.1
  rw [h1, frm_more, frm_more]
end Go.Proofs.YtfdhckfpkhoheaaDoor.Frame
