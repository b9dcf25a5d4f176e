/-
  What may be a weight: the program's word and the document's.
-/
import Derived.Test.YthfljimgpcignaaDoorProg
import Derived.Test.YthfljimgpcignaaDoorG1
import Derived.WalkKit
import Derived.WalkSpells
import Derived.WalkLawsBesides
import Derived.Test.YthfljimgpcignaaDoorG15
import Derived.Test.YthfljimgpcignaaDoorG3
import Derived.Test.YthfljimgpcignaaDoorG11
import Derived.Lib.Hide
import Derived.Deep.QuietTactic
import Derived.BigQuiet
import Derived.WalkSmall
namespace Go.Proofs.YthfljimgpcignaaDoor
open Go.RowKit

end Go.Proofs.YthfljimgpcignaaDoor

/-
  The document's own SameInts: are two rows of numbers alike?
-/
namespace Go.Proofs.YthfljimgpcignaaDoor
open Go.RowKit

end Go.Proofs.YthfljimgpcignaaDoor
