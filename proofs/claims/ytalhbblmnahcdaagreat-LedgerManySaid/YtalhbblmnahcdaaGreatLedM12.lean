/-
  Layer 8: what a record does. Conditions: none.
-/
import Derived.Test.YtalhbblmnahcdaaGreatLedM2
import Derived.Test.YtalhbblmnahcdaaGreatLedM6
import Derived.Test.YtalhbblmnahcdaaGreatLedM7
import Derived.Test.YtalhbblmnahcdaaGreatLedM8
import Derived.Test.YtalhbblmnahcdaaGreatLedM9
import Derived.Test.YtalhbblmnahcdaaGreatLedM10
import Derived.Test.YtalhbblmnahcdaaGreatLedM11
import Derived.Test.YtalhbblmnahcdaaGreatRecRight2
namespace Go.Proofs.YtalhbblmnahcdaaGreat.Led
set_option maxRecDepth 100000
open Go.RowKit Go.Deep Go.Proofs.YtalhbblmnahcdaaGreat.Mem Go.Proofs.YtalhbblmnahcdaaGreat.Item Go.Proofs.YtalhbblmnahcdaaGreat.Rec

theorem right_num {r : Rc} (h : right r = true) (hk : r.kind = 1) : 1 ≤ r.num ∧ r.num ≤ 16 := by
  unfold right at h
  simp only [Bool.and_eq_true] at h
  have h2 := h.2
  rw [hk] at h2
  have h3 := List.all_eq_true.1 h2 2 (by decide)
  simp [rf, lims, hk, Rc.get, Rc.numV] at h3
  exact h3
def byKind (s : St) (r : Rc) : St × Int := if r.kind = 1 then (emptyS r.node r.count r.num.toNat, 0) else if r.kind = 2 then fBegin s r else if r.kind = 3 then fPlace s r else if r.kind = 4 then fPrepare s r else if r.kind = 6 then fDecide s r else if r.kind = 11 then fPast s r else if r.kind = 5 then fCommit s r else if r.kind = 7 then fEnd s r else if r.kind = 8 then fOut s r else if r.kind = 9 then fIn s r else if r.kind = 10 then fGone s r else (s, 0)
def fFollow (s : St) (r : Rc) : St × Int := if right r = false then (s, 1) else byKind s r
theorem own_reset {base b : Nat} {s s' : St} {y z : Sy} {w w' w9 : World} (h : Own base w b s y) (hb : Below w.heap.size w w') (hl : Lists (fun k => k < w.heap.size) w.heap.size w' s' z) (hc : Cells w9 b 32 (s'.vals z)) (ho : Only (fun k => k = b) w' w9) : Step base b s y w s' w9 := by
  have hlt := h.cel.lt
  have hlow := h.low
  have h1 := hl.only ho (fun k _ e => by rw [e]; exact hlt) (fun k hk e => by have := (hl.lt hk).1; omega)
  have hroom := h.room
  have hbs := hb.size
  have hos := ho.size
  refine ⟨z, ⟨h.low, hc, h1.weak (by omega) (fun k e => by unfold sb at e; omega), fun e => by have := (hl.lt e).1; omega, by omega⟩, (Only.of_below hb).trans ho fun _ _ e => Or.inl e, fun k e => ?_⟩
  rcases e with e | e
  · exact Or.inl (Or.inl e)
  · exact Or.inr (hl.lt e).1
end Go.Proofs.YtalhbblmnahcdaaGreat.Led
