/-
  The program's own nets: are two alike?
-/
import Derived.Test.YtlfihaajnjeaeaaGreatDoorPNetA
import Derived.Test.YtlfihaajnjeaeaaGreatDoorRNetD
import Derived.Test.YtlfihaajnjeaeaaGreatDoorA2
namespace Go.Proofs.YtlfihaajnjeaeaaGreatDoor
open Go.RowKit

end Go.Proofs.YtlfihaajnjeaeaaGreatDoor
