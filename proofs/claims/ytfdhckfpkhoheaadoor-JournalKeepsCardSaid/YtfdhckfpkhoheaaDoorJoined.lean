/-
  What the document's own answer of layer 1 makes of texts: Joined. Conditions: none.
-/
import Derived.Test.YtfdhckfpkhoheaaDoorCat
import Derived.WalkKit
import Derived.ProofKit
import Derived.WalkLawsBesides
import Derived.WalkSpells
import Derived.Handy
import Derived.Lib.Hide
namespace Go.Proofs.YtfdhckfpkhoheaaDoor.Mem
open Go.RowKit

end Go.Proofs.YtfdhckfpkhoheaaDoor.Mem
