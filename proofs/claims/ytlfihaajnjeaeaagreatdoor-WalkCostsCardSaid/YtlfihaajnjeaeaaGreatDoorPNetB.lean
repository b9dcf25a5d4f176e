/-
  The program's own nets: do two arcs meet; may one be gone along; what it costs to turn at a vertex.
-/
import Derived.Test.YtlfihaajnjeaeaaGreatDoorPNetA
import Derived.Test.YtlfihaajnjeaeaaGreatDoorOwnT
import Derived.Test.YtlfihaajnjeaeaaGreatDoorGrow
namespace Go.Proofs.YtlfihaajnjeaeaaGreatDoor
open Go.RowKit

end Go.Proofs.YtlfihaajnjeaeaaGreatDoor
