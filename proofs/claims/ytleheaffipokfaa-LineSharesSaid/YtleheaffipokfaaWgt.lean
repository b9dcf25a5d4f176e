/-
  What may be a weight: the program's word and the document's.
-/
import Derived.Test.YtleheaffipokfaaProg
import Derived.Test.YtleheaffipokfaaCostM
import Derived.WalkKit
import Derived.WalkSpells
import Derived.WalkLawsBesides
namespace Go.Proofs.Ytleheaffipokfaa
open Go.RowKit

end Go.Proofs.Ytleheaffipokfaa
