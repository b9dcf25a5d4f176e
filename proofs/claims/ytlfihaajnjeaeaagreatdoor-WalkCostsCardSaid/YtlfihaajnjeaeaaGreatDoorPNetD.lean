/-
  The program's own nets: what it costs to turn; walks, and what they cost.
-/
import Derived.Test.YtlfihaajnjeaeaaGreatDoorPNetC
import Derived.Test.YtlfihaajnjeaeaaGreatDoorRNetB
import Derived.Test.YtlfihaajnjeaeaaGreatDoorA2
namespace Go.Proofs.YtlfihaajnjeaeaaGreatDoor
open Go.RowKit

end Go.Proofs.YtlfihaajnjeaeaaGreatDoor
