/-
  How structs within structs, and slices of such, are opened that came in. No program is named.
  Layer 14: scripts that came in; is one too great?
  Layer 14, SessionPlays: is the script too great?
  Layer 14, the document's session: what isn't sent.
  Layer 14, SessionPlays: the code's session and the document's, side by side.
  Conditions: none.
-/
import Derived.Test.YtccdpgbmkiapdaaL33
import Derived.ChangeArms
import Derived.SliceStrings
import Derived.Test.YtccdpgbmkiapdaaL27
namespace Go.Proofs.Ytccdpgbmkiapdaa.Mem
set_option maxRecDepth 100000
open Go.ChangeShapes Go.WideShapes Go.ChangeAt Go.RowKit Go.Deep
section
variable {H : Type} {enc : TypeId × Value → H} {P : Program} {W : World}
/-- A value's cells that came in. -/
def CameS (P : Program) (enc : TypeId × Value → H) (W : World) (ty : TypeId) (cs : List Value) : Prop := ∃ n y, DataW.trod enc P W 0 (fun _ => true) true n ty cs = some y ∧ Base.Small P ty y.1
theorem CameS.one {ty : TypeId} {c : Value} (h : CameS P enc W ty [c]) : Came P enc W ty c := h
end
end Go.Proofs.Ytccdpgbmkiapdaa.Mem
namespace Go.Proofs.Ytccdpgbmkiapdaa.Ses
set_option maxRecDepth 100000
open Go.ChangeShapes Go.WideShapes Go.ChangeAt Go.RowKit Go.Deep Go.Proofs.Ytccdpgbmkiapdaa.Mem Go.Proofs.Ytccdpgbmkiapdaa.Win
/-- A call of a script. -/
structure Opk where
 k : Int
 n : Int
 A : Option Addr
 c : Nat
 ss : List ByteArray
 e : Ev
def Opk.vals (o : Opk) : List Value := [.int .i64 o.k, .int .i64 o.n, .slice o.A o.ss.length o.c, .int .i64 o.e.kind, .int .i64 o.e.epoch, .int .i64 o.e.peer, .int .i64 o.e.seq, .string o.e.pay]
structure Opk.Ok (w : World) (o : Opk) : Prop where
 texts : Strs w o.A o.ss
 len : o.ss.length ≤ maxLen
 cap : Cap o.A o.ss.length o.c
 pay : o.e.pay.size ≤ 140737488355328
theorem Opk.Ok.later {w w' : World} {o : Opk} (h : o.Ok w) (hb : Below w.heap.size w w') : o.Ok w' := ⟨h.texts.later hb, h.len, h.cap, h.pay⟩
section
variable {H : Type} {enc : TypeId × Value → H} {W : World}
/-- The slice whose first cell is at A holds these calls. -/
def Opks (w : World) (A : Option Addr) (os : List Opk) : Prop := Sl w A 8 (os.map Opk.vals) ∧ ∀ o ∈ os, o.Ok w
theorem Opks.later {w w' : World} {A : Option Addr} {os : List Opk} (h : Opks w A os) (hb : Below w.heap.size w w') : Opks w' A os := ⟨h.1.later hb, fun o ho => (h.2 o ho).later hb⟩
theorem Opks.at {w : World} {A : Option Addr} {os : List Opk} (h : Opks w A os) {k : Nat} (hk : k < os.length) : ∃ g off, A = some ⟨g, off, none⟩ ∧ w.rangeAt g (off + k * 8) os[k].vals ∧ os[k].Ok w := by
 obtain ⟨g, off, e, hr⟩ := h.1 k (by rw [List.length_map]; exact hk)
 rw [List.getElem_map] at hr
 exact ⟨g, off, e, hr, h.2 _ (List.getElem_mem hk)⟩
end
/-- May a call be played? -/
def fitO (o : Opk) : Bool := decide (o.ss.length ≤ 80) && decide (o.e.pay.size ≤ 5000) && o.ss.all fun s => decide (s.size ≤ 5000)
/-- Is a script more than is played? -/
def greatO (os : List Opk) : Bool := decide (120 < os.length) || !os.all fitO
end Go.Proofs.Ytccdpgbmkiapdaa.Ses
namespace Go.Proofs.Ytccdpgbmkiapdaa.Ses
set_option maxRecDepth 100000
open Go.RowKit Go.Deep Go.Proofs.Ytccdpgbmkiapdaa.Mem Go.Proofs.Ytccdpgbmkiapdaa.Win
end Go.Proofs.Ytccdpgbmkiapdaa.Ses
namespace Go.Proofs.Ytccdpgbmkiapdaa.Ses
set_option maxRecDepth 100000
open Go.RowKit Go.Deep Go.Proofs.Ytccdpgbmkiapdaa.Mem Go.Proofs.Ytccdpgbmkiapdaa.Win
section
variable {B rb N : Nat} {F : Nat → Prop} {w : World} {S : Sm}
end
end Go.Proofs.Ytccdpgbmkiapdaa.Ses
namespace Go.Proofs.Ytccdpgbmkiapdaa.Ses
set_option maxRecDepth 100000
open Go.RowKit Go.Deep Go.Proofs.Ytccdpgbmkiapdaa.Mem Go.Proofs.Ytccdpgbmkiapdaa.Win
/-- Both are there, far from each other. -/
structure Both (B : Nat) (w : World) (sb rb : Nat) (Sa Sb : Sm) (FA FB : Nat → Prop) : Prop where
 code : SAt B FA w sb Sa
 doc : RAt B FB w rb Sb
 far : ∀ k, FA k → FB k → False
section
variable {B sb rb : Nat} {w w' : World} {Sa Sb S' : Sm} {FA FB FA' FB' : Nat → Prop}
theorem Both.later (h : Both B w sb rb Sa Sb FA FB) (hb : Below w.heap.size w w') : Both B w' sb rb Sa Sb FA FB := ⟨h.code.later hb, h.doc.later hb, h.far⟩
theorem Both.stepS (h : Both B w sb rb Sa Sb FA FB) (hs : SStep B FA w sb S' FA' w') : Both B w' sb rb S' Sb FA' FB :=
 ⟨hs.at', h.doc.only hs.only fun k e e2 => h.far k e2 e, fun k e e2 => by
  rcases hs.new k e with e3 | e3
  ·exact h.far k e3 e2
  ·have := h.doc.lt k e2
   omega⟩
theorem Both.stepR (h : Both B w sb rb Sa Sb FA FB) (hs : RStep B FB w rb S' FB' w') : Both B w' sb rb Sa S' FA FB' :=
 ⟨h.code.only hs.only fun k e e2 => h.far k e e2, hs.at', fun k e e2 => by
  rcases hs.new k e2 with e3 | e3
  ·exact h.far k e e3
  ·have := h.code.lt k e
   omega⟩
/-- A script stays that lies where neither has anything. -/
theorem Both.below (h : Both B w sb rb Sa Sb FA FB) {b : Nat} (hb : b ≤ B) : (∀ k, FA k → b ≤ k) ∧ ∀ k, FB k → b ≤ k := ⟨fun k e => Nat.le_trans hb (h.code.low k e), fun k e => Nat.le_trans hb (h.doc.low k e)⟩
end
end Go.Proofs.Ytccdpgbmkiapdaa.Ses
