/-
  The document's own SameInts: are two rows of numbers alike?
-/
import Derived.Test.YtjapdbegfanfiaaGreatDoorA1
import Derived.Test.YtjapdbegfanfiaaGreatDoorA2
import Derived.Lib.Hide
import Derived.Deep.QuietTactic
import Derived.BigQuiet
import Derived.WalkSmall
namespace Go.Proofs.YtjapdbegfanfiaaGreatDoor
open Go.RowKit

end Go.Proofs.YtjapdbegfanfiaaGreatDoor
