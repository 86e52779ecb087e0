/-
  What the code of layer 5 is to do, said ahead of its proof: a journal in memory (on which disk it stands, which records it has, whether it is over), each call's answer, what it leaves and what it may turn. Conditions: none.
-/
import Derived.Test.YtfdhckfpkhoheaaDoorJournalMath
import Derived.Test.YtfdhckfpkhoheaaDoorDiskCode
import Derived.Test.YtfdhckfpkhoheaaDoorFrameRef
import Derived.Test.YtfdhckfpkhoheaaDoorFoot
namespace Go.Proofs.YtfdhckfpkhoheaaDoor.Journal
open Go.RowKit Go.Proofs.YtfdhckfpkhoheaaDoor.Mem Go.Proofs.YtfdhckfpkhoheaaDoor.Crc Go.Proofs.YtfdhckfpkhoheaaDoor.Frame Go.Proofs.YtfdhckfpkhoheaaDoor.Disk

/-- Texts as bytes. -/
def bytesOf (ss : List ByteArray) : List (List UInt8) := ss.map fun s => s.data.toList
/-- Which records a journal has behind a call that answered this. -/
def then_ (e : Int) (elder newer : List (List UInt8)) : List (List UInt8) := if e = 0 then newer else elder

/-- A journal's and its disk's blocks, and what stands in them. -/
structure Both (C : Disk.Does) (Jn : World → Nat → Foot → Nat → Nat → List (List UInt8) → Bool → Prop) (base : Nat) (w : World) (S : Foot) (g : Nat) (r : Option Nat) (gj : Nat) (d : Ds) (rs : List (List UInt8)) (o : Bool) : Prop where
  journal : Jn w base S g gj rs o
  disk : C.Dk w base g r d
  apart : Apart S (pair g r)

/-- What the code of layer 5 is to do (proved in JournalImpl, which alone hangs on its text). -/
structure Does (C : Disk.Does) where
  Jn : World → Nat → Foot → Nat → Nat → List (List UInt8) → Bool → Prop
  foot : ∀ {w base S g gj rs o}, Jn w base S g gj rs o → ∀ k, S k → base ≤ k ∧ k < w.heap.size
  only : ∀ {T w w' base S g gj rs o}, Jn w base S g gj rs o → Only T w w' → Apart S T → Jn w' base S g gj rs o
  opens : ∀ {w base g r d}, C.Dk w base g r d → d.Ok → d.down = false → Tab w →
    Calls Tryd.prog 7 #[at_ g] w fun e w' => ∃ gj l S r', e = .returned (.tuple #[at_ gj, l, .int .i64 0]) ∧ Both C Jn base w' S g r' gj (cutS d ((fr d.b).2 : Nat)).2 (fr d.b).1 false ∧ Txt w' w.heap.size l (texts (fr d.b).1) ∧
      Step (pair g r) (pair g r') w w' ∧ (∀ k, S k → w.heap.size ≤ k) ∧ Apart (rowFoot l) (S.or (pair g r'))
  append : ∀ {w base S g r gj d rs} (force : Bool) (A : Option Addr) (ss : List ByteArray) (c : Nat), Both C Jn base w S g r gj d rs false → d.Ok → d.down = false → d.b = frs rs → fits rs → Tab w → Strs w A ss → ss.length ≤ 1000 → (cat ss).length ≤ 100000 → Cap A ss.length c →
    Calls Tryd.prog 8 #[at_ gj, .bool force, .slice A ss.length c] w fun e w' => e = .returned (.int .i64 (appJ d force (bytesOf ss)).1) ∧ ∃ S' r', Both C Jn base w' S' g r' gj (appJ d force (bytesOf ss)).2 (then_ (appJ d force (bytesOf ss)).1 rs (rs ++ bytesOf ss)) (decide ((appJ d force (bytesOf ss)).1 = 7)) ∧
      Step (S.or (pair g r)) (S'.or (pair g r')) w w'
  renew : ∀ {w base S g r gj d rs} (A : Option Addr) (ss : List ByteArray) (c : Nat), Both C Jn base w S g r gj d rs false → d.Ok → d.down = false → d.b = frs rs → fits rs → Tab w → Strs w A ss → ss.length ≤ 1000 → (cat ss).length ≤ 100000 → Cap A ss.length c →
    Calls Tryd.prog 9 #[at_ gj, .slice A ss.length c] w fun e w' => e = .returned (.int .i64 (renJ d (bytesOf ss)).1) ∧ ∃ S' r', Both C Jn base w' S' g r' gj (renJ d (bytesOf ss)).2 (then_ (renJ d (bytesOf ss)).1 rs (bytesOf ss)) (decide ((renJ d (bytesOf ss)).1 = 7)) ∧
      Step (S.or (pair g r)) (S'.or (pair g r')) w w'
  over : ∀ {w base S g gj rs o}, Jn w base S g gj rs o → Calls Tryd.prog 11 #[at_ gj] w fun e w' => e = .returned (.bool o) ∧ w = w'
end Go.Proofs.YtfdhckfpkhoheaaDoor.Journal
