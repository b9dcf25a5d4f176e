/-
  What may be a weight: the program's word and the document's.
-/
import Derived.Test.YthfljimgpcignaaGreatDoorProg
import Derived.Test.YthfljimgpcignaaGreatDoorG1
import Derived.WalkKit
import Derived.WalkSpells
import Derived.WalkLawsBesides
import Derived.Test.YthfljimgpcignaaGreatDoorG15
import Derived.Test.YthfljimgpcignaaGreatDoorG3
import Derived.Test.YthfljimgpcignaaGreatDoorG11
import Derived.Lib.Hide
import Derived.Deep.QuietTactic
import Derived.BigQuiet
import Derived.WalkSmall
namespace Go.Proofs.YthfljimgpcignaaGreatDoor
open Go.RowKit

end Go.Proofs.YthfljimgpcignaaGreatDoor

/-
  The document's own SameInts: are two rows of numbers alike?
-/
namespace Go.Proofs.YthfljimgpcignaaGreatDoor
open Go.RowKit

end Go.Proofs.YthfljimgpcignaaGreatDoor
