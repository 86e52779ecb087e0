/-
  A number's bytes, the highest first, as the document's own answer of layer 2 lays them (Big): for layer 2, and for those that use it.
  Conditions: none.
-/
import Derived.Test.YtjeogeablbkhgaaP1
import Derived.Test.YtjeogeablbkhgaaRows
import Derived.OpenShut
import Derived.WalkLawsBesides
import Derived.WalkSpells
import Derived.Handy
import Derived.Lib.Hide
import Derived.Deep.OwnRows
namespace Go.Proofs.Ytjeogeablbkhgaa.Wire
open Go.RowKit Go.Proofs.Ytjeogeablbkhgaa.Mem
/-- A number's k lowest bytes, the highest first. -/
def big (n : Nat) : Nat → List UInt8
 | 0 => []
 | k + 1 => UInt8.ofNat (n / 256 ^ k) :: big n k
/-- Bytes as a number, the highest first. -/
def valN (l : List UInt8) : Nat := l.foldl (fun n b => n * 256 + b.toNat) 0
/-- A number's 64 bits. -/
def u64 (n : Int) : Nat := (n % 18446744073709551616).toNat
end Go.Proofs.Ytjeogeablbkhgaa.Wire
