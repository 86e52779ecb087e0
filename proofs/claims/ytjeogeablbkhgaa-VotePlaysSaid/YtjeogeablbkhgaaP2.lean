/-
  Which of the blocks that were there a call may have turned (Only); an own row of bytes as a text. No program is named.
  Conditions: none.
-/
import Derived.Test.YtjeogeablbkhgaaP1
namespace Go.Proofs.Ytjeogeablbkhgaa.Mem
open Go.RowKit
/-- Of the blocks that were there only these may have turned. -/
structure Only (S : Nat → Prop) (w w' : World) : Prop where
 os : w'.os = w.os
 tape : w'.tape = w.tape
 output : w'.output = w.output
 size : w.heap.size ≤ w'.heap.size
 block : ∀ k, k < w.heap.size → ¬ S k → w'.heap[k]? = w.heap[k]?
theorem Only.refl (S : Nat → Prop) (w : World) : Only S w w := ⟨rfl, rfl, rfl, Nat.le_refl _, fun _ _ _ => rfl⟩
theorem Only.trans {S S' : Nat → Prop} {a b c : World} (h : Only S a b) (k : Only S' b c) (hs : ∀ i, i < a.heap.size → S' i → S i) : Only S a c :=
 ⟨k.os.trans h.os, k.tape.trans h.tape, k.output.trans h.output, Nat.le_trans h.size k.size, fun i hi hn => (k.block i (Nat.lt_of_lt_of_le hi h.size) fun h' => hn (hs i hi h')).trans (h.block i hi hn)⟩
theorem Only.of_below {S : Nat → Prop} {w w' : World} (h : Below w.heap.size w w') : Only S w w' := ⟨h.os, h.tape, h.output, h.size, fun k hk _ => h.block k hk⟩
theorem Only.below {S : Nat → Prop} {w w' : World} {B : Nat} (h : Only S w w') (hB : B ≤ w.heap.size) (hS : ∀ k, S k → B ≤ k) : Below B w w' :=
 ⟨h.os, h.tape, h.output, h.size, fun k hk => h.block k (by omega) fun hs => by have := hS k hs; omega⟩
theorem Only.mono {S S' : Nat → Prop} {w w' : World} (h : Only S w w') (hs : ∀ k, k < w.heap.size → S k → S' k) : Only S' w w' :=
 ⟨h.os, h.tape, h.output, h.size, fun k hk hn => h.block k hk fun h' => hn (hs k hk h')⟩
theorem Only.of_grown {w w' : World} {r : Option Nat} (h : w.grownBy w' r) : Only (fun k => some k = r) w w' := ⟨h.os, h.tape, h.output, h.size, fun k hk hn => h.block k hk hn⟩
theorem Only.of_set (w : World) (p : Addr) (u : Value) : Only (fun k => k = p.block) w (w.setCell p u) := ⟨rfl, rfl, rfl, by simp [World.setCell], fun k _ hn => Below.heap_setCell w p u k hn⟩
theorem cells_only {S : Nat → Prop} {w w' : World} {g : Nat} {t : TypeId} {vs : List Value} (h : Cells w g t vs) (ho : Only S w w') (hn : ¬ S g) : Cells w' g t vs := by
 have hlt := h.lt
 obtain ⟨C, lo, hi, h1, h2⟩ := h
 exact ⟨C, lo, hi, (ho.block g hlt hn).trans h1, h2⟩
theorem row_only {S : Nat → Prop} {w w' : World} {base : Nat} {e : TypeId} {size : Nat} {v : Value} {n : Nat} {xs : List Value} (h : w.ownsRow base e size v n xs) (ho : Only S w w') (hn : ∀ k, v.ownBlock = some k → ¬ S k) : w'.ownsRow base e size v n xs := by
 refine ⟨h.1, ?_⟩
 rcases h.2 with hx | ⟨g, cap, cur, rfl, hb, hg, rest⟩
 ·exact .inl hx
 ·exact .inr ⟨g, cap, cur, rfl, hb, (ho.block g (lt_of_block hg) (hn g rfl)).trans hg, rest⟩
/-- What the call of a thing of the call's own may turn: the thing's block g and its row (r ahead of the call, r' behind it). -/
def Turn (w w' : World) (g : Nat) (r r' : Option Nat) : Prop := Only (fun k => k = g ∨ some k = r) w w' ∧ ∀ k, r' = some k → some k = r ∨ w.heap.size ≤ k
theorem Turn.refl (w : World) (g : Nat) (r : Option Nat) : Turn w w g r r := ⟨Only.refl _ _, fun _ h => Or.inl h.symm⟩
theorem Turn.trans {a b c : World} {g : Nat} {r1 r2 r3 : Option Nat} (h : Turn a b g r1 r2) (k : Turn b c g r2 r3) : Turn a c g r1 r3 := by
 refine ⟨h.1.trans k.1 ?_, ?_⟩
 ·rintro i hi (rfl | hr)
  ·exact Or.inl rfl
  ·rcases h.2 i hr.symm with h1 | h1
   ·exact Or.inr h1
   ·omega
 ·intro i hi
  rcases k.2 i hi with h1 | h1
  ·exact h.2 i h1.symm
  ·exact Or.inr (Nat.le_trans h.1.size h1)
theorem Turn.before {a b c : World} {g : Nat} {r r' : Option Nat} (h : Below a.heap.size a b) (k : Turn b c g r r') : Turn a c g r r' :=
 ⟨(Only.of_below h).trans k.1 fun _ _ h => h, fun i hi => (k.2 i hi).imp_right fun h1 => Nat.le_trans h.size h1⟩
theorem Turn.after {a b c : World} {g : Nat} {r r' : Option Nat} (h : Turn a b g r r') (k : Below b.heap.size b c) : Turn a c g r r' := ⟨h.1.trans (S' := fun _ => False) (Only.of_below k) fun _ _ h => h.elim, h.2⟩
theorem Turn.low {w w' : World} {base g : Nat} {r r' : Option Nat} (h : Turn w w' g r r') (hg : base ≤ g) (hr : ∀ k, r = some k → base ≤ k) (hb : base ≤ w.heap.size) : Below base w w' :=
 h.1.below hb (by
  rintro k (rfl | hk)
  ·exact hg
  ·exact hr k hk.symm)
/-- Two things that share no block. -/
structure Far (g : Nat) (r : Option Nat) (g' : Nat) (r' : Option Nat) : Prop where
 own : g ≠ g'
 left : r ≠ some g'
 right : r' ≠ some g
 rows : ∀ k, r = some k → r' ≠ some k
theorem Far.symm {g g' : Nat} {r r' : Option Nat} (h : Far g r g' r') : Far g' r' g r := ⟨fun e => h.own e.symm, h.right, h.left, fun k hk e => h.rows k e hk⟩
theorem Far.off {g g' : Nat} {r r' : Option Nat} (h : Far g r g' r') : ¬ (g' = g ∨ some g' = r) ∧ ∀ k, r' = some k → ¬ (k = g ∨ some k = r) := by
 refine ⟨?_, fun k hk => ?_⟩
 ·rintro (e | e)
  ·exact h.own e.symm
  ·exact h.left e.symm
 ·rintro (e | e)
  ·subst e; exact h.right hk
  ·exact h.rows k e.symm hk
end Go.Proofs.Ytjeogeablbkhgaa.Mem
