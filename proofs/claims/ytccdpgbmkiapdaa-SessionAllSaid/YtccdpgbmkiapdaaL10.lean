/-
  Layer 13, window: the code's window, wherever it lies in a block, against all numbers that were seen.
  Conditions: none.
-/
import Derived.Test.YtccdpgbmkiapdaaL4
import Derived.Test.YtccdpgbmkiapdaaL5
import Derived.Test.YtccdpgbmkiapdaaL9
import Derived.Lib.Hide
import Derived.Deep.CutBlock
import Derived.OpenShut
import Derived.WalkLawsBesides
import Derived.WalkSpells
import Derived.Handy
import Derived.BigRegion
import Derived.Laws.ShiftsVarLaws
namespace Go.Proofs.Ytccdpgbmkiapdaa.Win
set_option maxRecDepth 100000
open Go.RowKit Go.Deep Go.Proofs.Ytccdpgbmkiapdaa.Mem
/-- The greatest of the numbers that were seen. -/
def maxL (L : List Int) : Int := L.foldl (fun g x => if g < x then x else g) 0
theorem maxL_snoc (L : List Int) (x : Int) : maxL (L ++ [x]) = if maxL L < x then x else maxL L := by
 unfold maxL
 rw [List.foldl_append]
 rfl
theorem maxL_spec (L : List Int) : 0 ≤ maxL L ∧ (∀ x ∈ L, x ≤ maxL L) ∧ (maxL L = 0 ∨ maxL L ∈ L) := by
 suffices h : ∀ n (L : List Int), L.length = n → 0 ≤ maxL L ∧ (∀ x ∈ L, x ≤ maxL L) ∧ (maxL L = 0 ∨ maxL L ∈ L) from h _ L rfl
 intro n
 induction n with
 | zero =>
  intro L hL
  obtain rfl := List.eq_nil_of_length_eq_zero hL
  exact ⟨Int.le_refl _, (fun x hx => by cases hx), Or.inl rfl⟩
 | succ n ih =>
  intro L hL
  have hne : L ≠ [] := fun e => by rw [e] at hL; cases hL
  obtain ⟨K, x, rfl⟩ : ∃ K x, L = K ++ [x] := ⟨L.dropLast, L.getLast hne, (List.dropLast_concat_getLast hne).symm⟩
  obtain ⟨h1, h2, h3⟩ := ih K (by simpa using hL)
  rw [maxL_snoc]
  split
  ·rename_i hlt
   refine ⟨by omega, fun y hy => ?_, Or.inr (by simp)⟩
   rcases List.mem_append.1 hy with hy | hy
   ·have := h2 y hy
    omega
   ·have : y = x := by simpa using hy
    omega
  ·rename_i hlt
   refine ⟨h1, fun y hy => ?_, h3.imp_right fun h => List.mem_append_left _ h⟩
   rcases List.mem_append.1 hy with hy | hy
   ·exact h2 y hy
   ·have : y = x := by simpa using hy
    omega
/-- Does a number count as seen? -/
def seenL (L : List Int) (n : Int) : Bool := decide (n < 1 ∨ 1099511627776 < n ∨ n ≤ maxL L - 64 ∨ n ∈ L)
def Wok (L : List Int) : Prop := ∀ x ∈ L, 1 ≤ x ∧ x ≤ 1099511627776
theorem Wok.max {L : List Int} (h : Wok L) : 0 ≤ maxL L ∧ maxL L ≤ 1099511627776 := by
 obtain ⟨h1, _, h3⟩ := maxL_spec L
 refine ⟨h1, ?_⟩
 rcases h3 with h3 | h3
 ·omega
 ·exact (h _ h3).2
theorem Wok.nil : Wok [] := (fun x hx => by cases hx)
theorem Wok.snoc {L : List Int} (h : Wok L) {n : Int} (hs : seenL L n = false) : Wok (L ++ [n]) := by
 intro x hx
 rcases List.mem_append.1 hx with hx | hx
 ·exact h x hx
 ·have e : x = n := by simpa using hx
  subst e
  have := of_decide_eq_false hs
  omega
/-- The bits of a window that has seen these numbers. -/
def Bits (L : List Int) (s : Nat) : Prop := s < 18446744073709551616 ∧ ∀ i : Nat, i < 64 → s.testBit i = decide (maxL L - (i : Int) ∈ L)
/-- The code's window at place o of block b. -/
def WinAt (w : World) (b o : Nat) (L : List Int) : Prop := ∃ s : Nat, CellsO w b o [.int .i64 (maxL L), .int .u64 (s : Int)] ∧ Bits L s
theorem WinAt.later {w w' : World} {b o : Nat} {L : List Int} (h : WinAt w b o L) (hb : Below w.heap.size w w') : WinAt w' b o L := by
 obtain ⟨s, h1, h2⟩ := h
 exact ⟨s, h1.later hb, h2⟩
theorem WinAt.only {S : Nat → Prop} {w w' : World} {b o : Nat} {L : List Int} (h : WinAt w b o L) (ho : Only S w w') (hn : ¬ S b) : WinAt w' b o L := by
 obtain ⟨s, h1, h2⟩ := h
 exact ⟨s, h1.only ho hn, h2⟩
theorem WinAt.lt {w : World} {b o : Nat} {L : List Int} (h : WinAt w b o L) : b < w.heap.size := by
 obtain ⟨s, h1, h2⟩ := h
 exact h1.lt
theorem bits_nil : Bits [] 0 := ⟨by decide, fun i _ => by simp⟩
theorem seen_bit {L : List Int} {s : Nat} (h : Bits L s) {n : Int} (h1 : 1 ≤ n) (h2 : n ≤ 1099511627776) (h3 : n ≤ maxL L) (h4 : maxL L - n < 64) : seenL L n = s.testBit (maxL L - n).toNat := by
 rw [h.2 _ (by omega), show maxL L - (((maxL L - n).toNat : Nat) : Int) = n by omega]
 unfold seenL
 refine decide_eq_decide.2 ⟨?_, fun e => Or.inr (Or.inr (Or.inr e))⟩
 rintro (e | e | e | e)
 ·omega
 ·omega
 ·omega
 ·exact e
theorem testBit_div (s i : Nat) : s.testBit i = decide ((s : Int) / 2 ^ i % 2 = 1) := by
 rw [Nat.testBit_eq_decide_div_mod_eq]
 refine decide_eq_decide.2 ?_
 have e : ((s : Int) / 2 ^ i % 2) = ((s / 2 ^ i % 2 : Nat) : Int) := by simp
 rw [e]
 omega
theorem Bits.far {L : List Int} {n : Int} (h1 : 1 ≤ n) (h2 : n ≤ 1099511627776) (h3 : maxL L < n) : seenL L n = false := by
 refine decide_eq_false ?_
 rintro (e | e | e | e)
 ·omega
 ·omega
 ·omega
 ·have := (maxL_spec L).2.1 n e
  omega
theorem and_one {s : Nat} (hs : s < 18446744073709551616) (k : Nat) : bits BinOp.and IntKind.u64 ((s : Int) / 2 ^ k) 1 = (s : Int) / 2 ^ k % 2 := by
 obtain ⟨q, hq⟩ : ∃ q, s / 2 ^ k = q := ⟨_, rfl⟩
 have e : (s : Int) / 2 ^ k = (q : Int) := by rw [← hq]; simp
 have hlt : q < 18446744073709551616 := by rw [← hq]; exact Nat.lt_of_le_of_lt (Nat.div_le_self _ _) hs
 rw [e, u64_and _ _ (by omega) (by omega) (by omega) (by omega), Int.toNat_natCast, show (1 : Int).toNat = 1 from rfl, Nat.and_one_is_mod]
 omega
theorem Seen_any {w : World} {b o : Nat} {L : List Int} (h : WinAt w b o L) (hw : Wok L) (n : Int) :
  Calls Try.prog 72 #[.pointer (some ⟨b, o, none⟩), .int .i64 n] w fun e w' => e = .returned (.bool (seenL L n)) ∧ Below w.heap.size w w' := by
 obtain ⟨s, hc, hb⟩ := h
 have c0 : w.cell? ⟨b, o, none⟩ = _ := hc.cell (j := 0) rfl
 have c1 := hc.cell (j := 1) rfl
 obtain ⟨hm0, hm1⟩ := hw.max
 obtain ⟨v, hv⟩ : ∃ v, seenL L n = v := ⟨_, rfl⟩
 rw [hv]
 by_cases hn1 : n < 1
 ·obtain rfl : v = true := hv ▸ decide_eq_true (Or.inl hn1)
  clear hb hv hw hc
  go_enter Try.func72, Try.ntmps72
  go_wp2_with fail
  go_returns
  exact ⟨rfl, Below.refl _ _⟩
 by_cases hn2 : 1099511627776 < n
 ·obtain rfl : v = true := hv ▸ decide_eq_true (Or.inr (Or.inl hn2))
  clear hb hv hw hc
  go_enter Try.func72, Try.ntmps72
  go_wp2_with fail
  go_returns
  exact ⟨rfl, Below.refl _ _⟩
 obtain ⟨g, hg⟩ : ∃ g, maxL L = g := ⟨_, rfl⟩
 by_cases hn3 : g < n
 ·obtain rfl : v = false := hv ▸ Bits.far (by omega) (by omega) (by omega)
  rw [hg] at c0
  clear hb hv hw hc hg
  go_enter Try.func72, Try.ntmps72
  go_wp2_with fail
  go_returns
  exact ⟨rfl, Below.refl _ _⟩
 have hwr : IntKind.i64.wrap (g - n) = g - n := by rw [IntKind.wrap_i64]; omega
 by_cases hn4 : 64 ≤ g - n
 ·obtain rfl : v = true := hv ▸ decide_eq_true (Or.inr (Or.inr (Or.inl (by omega))))
  rw [hg] at c0
  clear hb hv hw hc hg
  go_enter Try.func72, Try.ntmps72
  go_wp2_with fail
  go_returns
  exact ⟨rfl, Below.refl _ _⟩
 ·have hbit := seen_bit hb (n := n) (by omega) (by omega) (by omega) (by omega)
  rw [hg] at c0 hbit
  rw [hv, testBit_div] at hbit
  obtain ⟨k, hk⟩ : ∃ k : Nat, (k : Int) = g - n := ⟨(g - n).toNat, by omega⟩
  have HV := Lib.hid hbit
  have hs := hb.1
  clear hb hv hw hc hg hbit
  rw [← hk] at hwr
  go_enter Try.func72, Try.ntmps72
  have hand : bits BinOp.and IntKind.u64 ((s : Int) / 2 ^ (g - n).toNat) 1 = (s : Int) / 2 ^ (g - n).toNat % 2 := and_one hs _
  go_wp2_with fail
  go_returns
  refine ⟨ret_val ?_, Below.refl _ _⟩
  show Value.bool ((s : Int) / 2 ^ (g - n).toNat % 2 == 1) = _
  rw [HV.out]
  rfl
theorem Clear_any {w : World} {b o : Nat} {L : List Int} (h : WinAt w b o L) :
  Calls Try.prog 69 #[.pointer (some ⟨b, o, none⟩)] w fun e w' => e = .returned (.tuple #[]) ∧ WinAt w' b o [] ∧ Upd b o 2 w w' := by
 obtain ⟨s, hc, hb⟩ := h
 have c0 : w.cell? ⟨b, o, none⟩ = _ := hc.cell (j := 0) rfl
 have c1 := hc.cell (j := 1) rfl
 have f0 : w.frozen? ⟨b, o, none⟩ = _ := hc.frozen (j := 0) (by simp)
 have f1 := hc.frozen (j := 1) (by simp)
 have HC := Lib.hid hc
 clear hb hc
 go_enter Try.func69, Try.ntmps69
 go_wp2_with fail
 go_returns
 exact ⟨rfl, ⟨0, (HC.out.set_ 0 (.int .i64 0)).set_ 1 (.int .u64 0), bits_nil⟩, (Upd.set w b o 2 (j := 0) (by decide) _).trans (Upd.set _ b o 2 (j := 1) (by decide) _)⟩
theorem Bits.up {L : List Int} {s : Nat} (h : Bits L s) {n : Int} (hn : maxL L < n) (k : Nat) (hk : k = min (n - maxL L).toNat 64) : Bits (L ++ [n]) ((s * 2 ^ k) % 18446744073709551616 ||| 1) := by
 have hm : maxL (L ++ [n]) = n := by rw [maxL_snoc, if_pos hn]
 have hx : (s * 2 ^ k) % 18446744073709551616 ||| 1 < 2 ^ 64 := Nat.or_lt_two_pow (Nat.mod_lt _ (by decide)) (by decide)
 refine ⟨hx, fun i hi => ?_⟩
 rw [hm, Nat.testBit_or, show (18446744073709551616 : Nat) = 2 ^ 64 by rfl, Nat.testBit_mod_two_pow, Nat.testBit_mul_two_pow, decide_eq_true hi, Bool.true_and]
 rcases i with _ | i
 ·have hk1 : ¬ k ≤ 0 := by omega
  simp [hk1]
 ·have h1 : Nat.testBit 1 (i + 1) = false := by
   rw [show (1 : Nat) = 2 ^ 0 from rfl, Nat.testBit_two_pow]
   simp
  rw [h1, Bool.or_false]
  have hmx := (maxL_spec L).2.1
  by_cases hki : k ≤ i + 1
  ·rw [decide_eq_true hki, Bool.true_and, h.2 _ (by omega)]
   refine decide_eq_decide.2 ?_
   rw [show maxL L - ((i + 1 - k : Nat) : Int) = n - ((i + 1 : Nat) : Int) by omega, List.mem_append, List.mem_singleton]
   exact ⟨Or.inl, fun e => e.resolve_right (by omega)⟩
  ·rw [decide_eq_false hki, Bool.false_and]
   refine (decide_eq_false ?_).symm
   rw [List.mem_append, List.mem_singleton]
   rintro (e | e)
   ·have := hmx _ e
    omega
   ·omega
theorem Bits.at {L : List Int} {s : Nat} (h : Bits L s) {n : Int} (hn : n ≤ maxL L) (k : Nat) (hk : (k : Int) = maxL L - n) (hk2 : k < 64) : Bits (L ++ [n]) (s ||| 2 ^ k) := by
 have hm : maxL (L ++ [n]) = maxL L := by rw [maxL_snoc, if_neg (by omega)]
 have hx : s ||| 2 ^ k < 2 ^ 64 := Nat.or_lt_two_pow h.1 (Nat.pow_lt_pow_right (by decide) hk2)
 refine ⟨hx, fun i hi => ?_⟩
 rw [hm, Nat.testBit_or, Nat.testBit_two_pow, h.2 i hi, Bool.eq_iff_iff]
 simp only [Bool.or_eq_true, decide_eq_true_eq, List.mem_append, List.mem_singleton]
 exact ⟨fun e => e.imp_right fun e => by omega, fun e => e.imp_right fun e => by omega⟩
theorem run_shl (W : World) (x : Nat) (c : Int) (hc : 0 ≤ c) : Sem.run Try.prog (Op.shift BinOp.shl IntKind.u64 (x : Int) IntKind.i64 c) W = .ok (.int .u64 ((x * 2 ^ min c.toNat 64 % 18446744073709551616 : Nat) : Int)) W := by
 unfold Op.shift
 rw [if_neg (by omega)]
 show Result.ok (Value.int .u64 (IntKind.u64.wrap ((x : Int) * 2 ^ min c.toNat 64))) W = _
 have e : IntKind.u64.wrap ((x : Int) * 2 ^ min c.toNat 64) = ((x * 2 ^ min c.toNat 64 % 18446744073709551616 : Nat) : Int) := by
  simp [IntKind.wrap, IntKind.bits, IntKind.signed]
 rw [e]
theorem run_or (x y : Nat) (hx : x < 18446744073709551616) (hy : y < 18446744073709551616) : bits BinOp.or IntKind.u64 (x : Int) (y : Int) = ((x ||| y : Nat) : Int) := by
 rw [u64_or _ _ (by omega) (by omega) (by omega) (by omega), Int.toNat_natCast, Int.toNat_natCast]
theorem wrap_pow (k : Nat) (h : 2 ^ k < 18446744073709551616) : IntKind.u64.wrap (2 ^ k) = ((2 ^ k : Nat) : Int) := by
 obtain ⟨q, hq⟩ : ∃ q, 2 ^ k = q := ⟨_, rfl⟩
 rw [show (2 : Int) ^ k = ((2 ^ k : Nat) : Int) by simp, hq]
 rw [hq] at h
 rw [IntKind.wrap_u64]
 omega
theorem mark_any {w : World} {b o : Nat} {L : List Int} (h : WinAt w b o L) (hw : Wok L) (n : Int) (hs : seenL L n = false) :
  Calls Try.prog 73 #[.pointer (some ⟨b, o, none⟩), .int .i64 n] w fun e w' => e = .returned (.tuple #[]) ∧ WinAt w' b o (L ++ [n]) ∧ Upd b o 2 w w' := by
 obtain ⟨s, hc, hb⟩ := h
 have c0 : w.cell? ⟨b, o, none⟩ = _ := hc.cell (j := 0) rfl
 have c1 := hc.cell (j := 1) rfl
 have f0 : w.frozen? ⟨b, o, none⟩ = _ := hc.frozen (j := 0) (by simp)
 have f1 := hc.frozen (j := 1) (by simp)
 obtain ⟨hm0, hm1⟩ := hw.max
 have hn : ¬ (n < 1 ∨ 1099511627776 < n ∨ n ≤ maxL L - 64 ∨ n ∈ L) := of_decide_eq_false hs
 obtain ⟨hn1, hn⟩ := not_or.1 hn
 obtain ⟨hn2, hn⟩ := not_or.1 hn
 obtain ⟨hn3, hn4⟩ := not_or.1 hn
 obtain ⟨g, hg⟩ : ∃ g, maxL L = g := ⟨_, rfl⟩
 have HG := Lib.hid hg
 have HC := Lib.hid hc
 have HB := Lib.hid hb
 rw [hg] at c0 hm0 hm1 hn3
 have hs64 := hb.1
 clear hn hs hn4 hw hg hc hb
 by_cases hgn : g < n
 ·have hwr : IntKind.i64.wrap (n - g) = n - g := by rw [IntKind.wrap_i64]; omega
  obtain ⟨s1, hs1⟩ : ∃ s1, s * 2 ^ min (n - g).toNat 64 % 18446744073709551616 = s1 := ⟨_, rfl⟩
  have hs1l : s1 < 18446744073709551616 := by rw [← hs1]; exact Nat.mod_lt _ (by decide)
  have hsh : ∀ W, Sem.run Try.prog (Op.shift BinOp.shl IntKind.u64 (s : Int) IntKind.i64 (n - g)) W = .ok (.int .u64 (s1 : Int)) W := fun W => by rw [run_shl W s _ (by omega), hs1]
  obtain ⟨s2, hs2⟩ : ∃ s2, s1 ||| 1 = s2 := ⟨_, rfl⟩
  have hor : bits BinOp.or IntKind.u64 (s1 : Int) 1 = (s2 : Int) := by rw [← hs2]; exact run_or s1 1 hs1l (by decide)
  have HF : Hid (Bits (L ++ [n]) s2) := Lib.hid (by
   rw [← hs2, ← hs1]
   exact HB.out.up (by rw [HG.out]; exact hgn) _ (by rw [HG.out]))
  have HM : Hid (maxL (L ++ [n]) = n) := Lib.hid (by rw [maxL_snoc, HG.out, if_pos hgn])
  clear hs1 hs2
  go_enter Try.func73, Try.ntmps73
  go_wp2_with fail
  go_region
  go_wp2_with fail
  go_region
  go_wp2_with fail
  go_returns
  refine ⟨rfl, ?_, ?_⟩
  ·exact ⟨s2, by rw [HM.out]; exact (((HC.out.set_ 1 (.int .u64 (s1 : Int))).set_ 0 (.int .i64 n)).set_ 1 (.int .u64 (s2 : Int))).later ((Below.refl _ _).drew.trans (Below.refl _ _).drew), HF.out⟩
  ·exact (((Upd.set w b o 2 (j := 1) (by decide) _).trans (Upd.set _ b o 2 (j := 0) (by decide) _)).trans (Upd.set _ b o 2 (j := 1) (by decide) _)).after ((Below.refl _ _).drew.trans (Below.refl _ _).drew)
 ·obtain ⟨k, hk⟩ : ∃ k : Nat, (k : Int) = g - n := ⟨(g - n).toNat, by omega⟩
  have hwr : IntKind.i64.wrap (g - n) = g - n := by rw [IntKind.wrap_i64]; omega
  have hk2 : k < 64 := by omega
  have hpl : 2 ^ k < 18446744073709551616 := Nat.pow_lt_pow_right (a := 2) (n := 64) (by decide) hk2
  obtain ⟨s2, hs2⟩ : ∃ s2, s ||| 2 ^ k = s2 := ⟨_, rfl⟩
  have HF : Hid (Bits (L ++ [n]) s2) := Lib.hid (by
   rw [← hs2]
   exact HB.out.at (by rw [HG.out]; omega) k (by rw [HG.out]; omega) hk2)
  have HM : Hid (maxL (L ++ [n]) = g) := Lib.hid (by rw [maxL_snoc, HG.out, if_neg hgn])
  have hor : bits BinOp.or IntKind.u64 (s : Int) (IntKind.u64.wrap (2 ^ (g - n).toNat)) = (s2 : Int) := by
   have e : IntKind.u64.wrap (2 ^ (g - n).toNat) = ((2 ^ k : Nat) : Int) := by
    rw [show (g - n).toNat = k by omega]
    exact wrap_pow k hpl
   rw [e, ← hs2]
   exact run_or s _ hs64 hpl
  clear hs2 hpl hk
  go_enter Try.func73, Try.ntmps73
  go_wp2_with fail
  go_region
  go_wp2_with fail
  go_returns
  refine ⟨rfl, ?_, ?_⟩
  ·exact ⟨s2, by rw [HM.out, ← HG.out]; exact (HC.out.set_ 1 (.int .u64 (s2 : Int))).later (Below.refl _ _).drew, HF.out⟩
  ·exact (Upd.set w b o 2 (j := 1) (by decide) _).after (Below.refl _ _).drew
/-- Whole numbers that lie in a slice. -/
def Ints (w : World) (A : Option Addr) (ks : List Int) : Prop := ∀ i (h : i < ks.length), ∃ b off, A = some ⟨b, off, none⟩ ∧ w.cell? ⟨b, off + i, none⟩ = some (.int .i64 ks[i])
theorem Ints.later {w w' : World} {A : Option Addr} {ks : List Int} (h : Ints w A ks) (hb : Below w.heap.size w w') : Ints w' A ks := fun i hi => by
 obtain ⟨b, off, e, hc⟩ := h i hi
 exact ⟨b, off, e, (hb.cell (block_of_cell hc)).trans hc⟩
theorem cell_only {S : Nat → Prop} {w w' : World} {p : Addr} {v : Value} (h : w.cell? p = some v) (ho : Only S w w') (hn : ¬ S p.block) : w'.cell? p = some v := by
 rw [← h]
 unfold World.cell?
 rw [ho.block p.block (block_of_cell h) hn]
theorem Ints.only {S : Nat → Prop} {w w' : World} {A : Option Addr} {ks : List Int} (h : Ints w A ks) (ho : Only S w w') (hn : ∀ b off, A = some ⟨b, off, none⟩ → ks ≠ [] → ¬ S b) : Ints w' A ks := fun i hi => by
 obtain ⟨b, off, e, hc⟩ := h i hi
 exact ⟨b, off, e, cell_only hc ho (hn b off e (List.ne_nil_of_length_pos (by omega)))⟩
/-- Numbers are seen: how many are new, all that were seen then. -/
def seeL (L ks : List Int) : Int × List Int := ks.foldl (fun p n => if seenL p.2 n then p else (p.1 + 1, p.2 ++ [n])) (0, L)
theorem seeL_snoc (L ks : List Int) (n : Int) : seeL L (ks ++ [n]) = if seenL (seeL L ks).2 n then seeL L ks else ((seeL L ks).1 + 1, (seeL L ks).2 ++ [n]) := by
 unfold seeL
 rw [List.foldl_append]
 rfl
theorem seeL_spec (L : List Int) (hw : Wok L) : ∀ (n : Nat) (ks : List Int), ks.length = n → Wok (seeL L ks).2 ∧ 0 ≤ (seeL L ks).1 ∧ (seeL L ks).1 ≤ n ∧ (seeL L ks).2.length = L.length + (seeL L ks).1.toNat := by
 intro n
 induction n with
 | zero =>
  intro ks h
  obtain rfl := List.eq_nil_of_length_eq_zero h
  exact ⟨hw, Int.le_refl _, Int.le_refl _, rfl⟩
 | succ n ih =>
  intro ks h
  have hne : ks ≠ [] := fun e => by rw [e] at h; cases h
  obtain ⟨K, x, rfl⟩ : ∃ K x, ks = K ++ [x] := ⟨ks.dropLast, ks.getLast hne, (List.dropLast_concat_getLast hne).symm⟩
  obtain ⟨h1, h2, h3, h4⟩ := ih K (by simpa using h)
  rw [seeL_snoc]
  split
  ·exact ⟨h1, h2, by omega, h4⟩
  ·rename_i hs
   have hs' : seenL (seeL L K).2 x = false := by simpa using hs
   refine ⟨h1.snoc hs', by dsimp only; omega, by dsimp only; omega, ?_⟩
   dsimp only
   rw [List.length_append, h4, List.length_singleton]
   omega
set_option maxHeartbeats 1000000 in
theorem See_any {w : World} {b o : Nat} {L : List Int} (h : WinAt w b o L) (hw : Wok L) {A : Option Addr} {ks : List Int} (c : Nat) (hk : Ints w A ks) (hA : ∀ g off, A = some ⟨g, off, none⟩ → ks ≠ [] → g ≠ b) (hn : ks.length ≤ 140737488355328) :
  Calls Try.prog 55 #[.pointer (some ⟨b, o, none⟩), .slice A ks.length c] w fun e w' => e = .returned (.int .i64 (seeL L ks).1) ∧ WinAt w' b o (seeL L ks).2 ∧ Upd b o 2 w w' := by
 have HK := Lib.hid hk
 have HW := Lib.hid h
 have HA := Lib.hid hA
 have HOK := Lib.hid hw
 obtain ⟨n, hn2⟩ : ∃ n, ks.length = n := ⟨_, rfl⟩
 have HN := Lib.hid hn2
 rw [hn2] at hn ⊢
 clear h hk hA hw hn2
 go_enter Try.func55, Try.ntmps55
 go_wp2_with fail
 go_loopw [5, 10] (fun m i wr => ∃ (k : Nat) (M : Int), k ≤ n ∧ i = .int .i64 (k : Int) ∧ m = .int .i64 M ∧ 0 ≤ M ∧ M ≤ k ∧ Hid (M = (seeL L (ks.take k)).1) ∧ Hid (WinAt wr b o (seeL L (ks.take k)).2) ∧ Hid (Upd b o 2 w wr)) (fun _ i _ => n - (intOf i).toNat)
 case atStart => exact ⟨0, 0, Nat.zero_le _, rfl, rfl, Int.le_refl _, Int.le_refl _, Lib.hid rfl, HW, Lib.hid (Upd.refl _ _ _ _)⟩
 case round =>
  obtain ⟨k, M, hkn, rfl, rfl, hM0, hMk, HM, HWI, HO⟩ := hrel
  by_cases hlt : k < n
  ·have hkl : k < ks.length := by rw [HN.out]; exact hlt
   obtain ⟨g, off, hAe, x0⟩ := (HK.out.only HO.out.only fun g off e e2 => HA.out g off e e2) k hkl
   subst hAe
   obtain ⟨p, hp⟩ : ∃ p, ks[k] = p := ⟨_, rfl⟩
   rw [hp] at x0
   have htk : ks.take (k + 1) = ks.take k ++ [p] := by rw [List.take_add_one, List.getElem?_eq_getElem hkl, hp]; rfl
   have hsp := seeL_snoc L (ks.take k) p
   rw [← htk] at hsp
   obtain ⟨hok, _⟩ := seeL_spec L HOK.out _ (ks.take k) rfl
   have HS := Lib.hid (Seen_any HWI.out hok p)
   obtain ⟨sb, hsb⟩ : ∃ sb, seenL (seeL L (ks.take k)).2 p = sb := ⟨_, rfl⟩
   rw [hsb] at HS hsp
   have HSP := Lib.hid hsp
   have HSB := Lib.hid hsb
   have HOK2 := Lib.hid hok
   clear hp hsp htk hkl hsb hok
   go_upto_region 5 with (fail)
   go_wp2_with fail
   refine HS.out.mono ?_
   rintro e w1 ⟨rfl, hb1⟩
   have HW1 := Lib.hid (HWI.out.later hb1)
   have HO1 : Hid (Upd b o 2 w w1) := Lib.hid (HO.out.after hb1)
   clear hb1 x0
   cases sb with
   | true =>
    go_wp2_with fail
    go_roundw
    case rel => exact ⟨k + 1, M, by omega, by go_num, rfl, hM0, by omega, Lib.hid (by rw [HSP.out]; exact HM.out), Lib.hid (by rw [HSP.out]; exact HW1.out), HO1⟩
    case measure => simp [intOf]; omega
   | false =>
    have HMK := Lib.hid (mark_any HW1.out HOK2.out p HSB.out)
    go_wp2_with fail
    refine HMK.out.mono ?_
    rintro e w2 ⟨rfl, hw2, ho2⟩
    have HW2 := Lib.hid hw2
    have HO2 := Lib.hid (HO1.out.trans ho2)
    clear hw2 ho2
    have hwr : IntKind.i64.wrap (M + 1) = M + 1 := by rw [IntKind.wrap_i64]; omega
    go_wp2_with fail
    go_roundw
    case rel => exact ⟨k + 1, M + 1, by omega, by go_num, rfl, by omega, by omega, Lib.hid (by rw [HSP.out, HM.out]; rfl), Lib.hid (by rw [HSP.out]; exact HW2.out), HO2⟩
    case measure => simp [intOf]; omega
  ·obtain rfl : k = n := by omega
   have htk : ks.take k = ks := List.take_of_length_le (by rw [HN.out]; exact Nat.le_refl _)
   have HM2 : Hid (M = (seeL L ks).1) := Lib.hid (by rw [← htk]; exact HM.out)
   have HW2 : Hid (WinAt wr b o (seeL L ks).2) := Lib.hid (by rw [← htk]; exact HWI.out)
   clear htk
   go_wp2_with fail
   go_returns
   exact ⟨ret_int HM2.out, HW2.out, HO.out⟩
theorem seeL_one (L : List Int) (n : Int) : seeL L [n] = if seenL L n then (0, L) else (1, L ++ [n]) := seeL_snoc L [] n
end Go.Proofs.Ytccdpgbmkiapdaa.Win
