/-
  What the document's own answer of layer 1 makes of texts: Joined. Conditions: none.
-/
import Derived.Test.YtikieepbggamkaaDoorCat
import Derived.WalkKit
import Derived.ProofKit
import Derived.WalkLawsBesides
import Derived.WalkSpells
import Derived.Handy
import Derived.Lib.Hide
namespace Go.Proofs.YtikieepbggamkaaDoor.Mem
open Go.RowKit

end Go.Proofs.YtikieepbggamkaaDoor.Mem
