/-
  The builtin append as one step of a statement that draws its order, by the equation of its run. No program is named.
  Conditions: none.
-/
import Derived.Test.YtccdpgbmkiapdaaL3
import Derived.Deep.RegionLaw
import Derived.Lib.Hide
namespace Go.Proofs.Ytccdpgbmkiapdaa.Mem
open Go.RowKit
end Go.Proofs.Ytccdpgbmkiapdaa.Mem
