/-
  Layer 14, SessionPlays: the code's session and the document's, side by side. Conditions: none.
-/
import Derived.Test.YtjfejfhdohpfbaaSesGreat
import Derived.Test.YtjfejfhdohpfbaaSesRef5
namespace Go.Proofs.Ytjfejfhdohpfbaa.Ses
set_option maxRecDepth 100000
open Go.RowKit Go.Deep Go.Proofs.Ytjfejfhdohpfbaa.Mem Go.Proofs.Ytjfejfhdohpfbaa.Win

/-- Both are there, far from each other. -/
structure Both (B : Nat) (w : World) (sb rb : Nat) (Sa Sb : Sm) (FA FB : Nat → Prop) : Prop where
  code : SAt B FA w sb Sa
  doc : RAt B FB w rb Sb
  far : ∀ k, FA k → FB k → False
section
variable {B sb rb : Nat} {w w' : World} {Sa Sb S' : Sm} {FA FB FA' FB' : Nat → Prop}
theorem Both.later (h : Both B w sb rb Sa Sb FA FB) (hb : Below w.heap.size w w') : Both B w' sb rb Sa Sb FA FB := ⟨h.code.later hb, h.doc.later hb, h.far⟩
theorem Both.stepS (h : Both B w sb rb Sa Sb FA FB) (hs : SStep B FA w sb S' FA' w') : Both B w' sb rb S' Sb FA' FB :=
  ⟨hs.at', h.doc.only hs.only fun k e e2 => h.far k e2 e, fun k e e2 => by
    rcases hs.new k e with e3 | e3
    · exact h.far k e3 e2
    · have := h.doc.lt k e2
      omega⟩
theorem Both.stepR (h : Both B w sb rb Sa Sb FA FB) (hs : RStep B FB w rb S' FB' w') : Both B w' sb rb Sa S' FA FB' :=
  ⟨h.code.only hs.only fun k e e2 => h.far k e e2, hs.at', fun k e e2 => by
    rcases hs.new k e2 with e3 | e3
    · exact h.far k e e3
    · have := h.code.lt k e
      omega⟩
/-- A row that a call made stays behind a step of what was there ahead of it. -/
theorem row_stays {α : Type} {eT : TypeId} {sz : Nat} {vals : α → List Value} {n : Nat} {v : Value} {l : List α} {F : Nat → Prop} (h : OwnG eT sz vals n w v l) (hF : ∀ k, F k → k < n) (ho : Only F w w') : OwnG eT sz vals n w' v l :=
  row_only h ho fun k e e2 => by
    have h1 := hF k e2
    have h2 := (h.lt k e).1
    omega
/-- A script stays that lies where neither has anything. -/
theorem Both.below (h : Both B w sb rb Sa Sb FA FB) {b : Nat} (hb : b ≤ B) : (∀ k, FA k → b ≤ k) ∧ ∀ k, FB k → b ≤ k := ⟨fun k e => Nat.le_trans hb (h.code.low k e), fun k e => Nat.le_trans hb (h.doc.low k e)⟩
end
end Go.Proofs.Ytjfejfhdohpfbaa.Ses
