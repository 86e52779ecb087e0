/-
  Things of the call's own, each with the blocks that are its own (its foot): what a call may turn, and that the things apart from it stay. Conditions: none.
-/
import Derived.Test.YtfdhckfpkhoheaaDoorOnly
namespace Go.Proofs.YtfdhckfpkhoheaaDoor.Mem
open Go.RowKit

/-- The blocks that are a thing's own. -/
abbrev Foot := Nat → Prop
def Foot.or (S T : Foot) : Foot := fun k => S k ∨ T k
/-- A value's own block. -/
def rowFoot (v : Value) : Foot := fun k => v.ownBlock = some k
/-- A disk's blocks: where it lies, and its row. -/
def pair (g : Nat) (r : Option Nat) : Foot := fun k => k = g ∨ some k = r
def Apart (S T : Foot) : Prop := ∀ k, S k → ¬ T k
theorem Apart.symm {S T : Foot} (h : Apart S T) : Apart T S := fun k ht hs => h k hs ht
theorem Apart.or {S T U : Foot} (h : Apart S U) (k : Apart T U) : Apart (S.or T) U := fun i hi => hi.elim (h i) (k i)
theorem Apart.left {S T U : Foot} (h : Apart (S.or T) U) : Apart S U := fun i hi => h i (Or.inl hi)
theorem Apart.right {S T U : Foot} (h : Apart (S.or T) U) : Apart T U := fun i hi => h i (Or.inr hi)
/-- What is below w's end is apart from what is new. -/
theorem Apart.fresh {S T : Foot} {n : Nat} (h : ∀ k, S k → k < n) (k : ∀ i, T i → n ≤ i) : Apart S T := fun i hs ht => by have := h i hs; have := k i ht; omega

/-- What a call may turn of a thing with the blocks S, which has S' behind it. -/
structure Step (S S' : Foot) (w w' : World) : Prop where
  only : Only S w w'
  grow : ∀ k, S' k → S k ∨ w.heap.size ≤ k
theorem Step.refl (S : Foot) (w : World) : Step S S w w := ⟨Only.refl _ _, fun _ h => Or.inl h⟩
theorem Step.trans {a b c : World} {S T U : Foot} (h : Step S T a b) (k : Step T U b c) : Step S U a c := by
  refine ⟨h.only.trans k.only ?_, fun i hi => ?_⟩
  · intro i hi ht
    rcases h.grow i ht with h1 | h1
    · exact h1
    · omega
  · rcases k.grow i hi with h1 | h1
    · exact h.grow i h1
    · exact Or.inr (Nat.le_trans h.only.size h1)
theorem Step.below {w w' : World} (S : Foot) (h : Below w.heap.size w w') : Step S S w w' := ⟨Only.of_below h, fun _ h => Or.inl h⟩
theorem Step.of_turn {w w' : World} {g : Nat} {r r' : Option Nat} (h : Turn w w' g r r') : Step (pair g r) (pair g r') w w' :=
  ⟨h.1, fun k hk => hk.elim (fun e => Or.inl (Or.inl e)) fun e => (h.2 k e.symm).imp (fun x => Or.inr x) id⟩
theorem Step.low {w w' : World} {S S' : Foot} {base : Nat} (h : Step S S' w w') (hs : ∀ k, S k → base ≤ k) (hb : base ≤ w.heap.size) : Below base w w' := h.only.below hb hs
/-- A thing beside it, of the blocks T, which lay there: it is still apart. -/
theorem Apart.next {S S' T : Foot} {w w' : World} (h : Apart T S) (k : Step S S' w w') (ht : ∀ i, T i → i < w.heap.size) : Apart T S' := fun i hi hs => by
  rcases k.grow i hs with h1 | h1
  · exact h i hi h1
  · have := ht i hi; omega
end Go.Proofs.YtfdhckfpkhoheaaDoor.Mem
