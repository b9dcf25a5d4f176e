/-
  The document's nets: are two alike?
-/
import Derived.Test.YtlfihaajnjeaeaaGreatDoorStrEq
import Derived.Test.YtlfihaajnjeaeaaGreatDoorA2
import Derived.Test.YtlfihaajnjeaeaaGreatDoorGrow
namespace Go.Proofs.YtlfihaajnjeaeaaGreatDoor
open Go.RowKit

end Go.Proofs.YtlfihaajnjeaeaaGreatDoor
