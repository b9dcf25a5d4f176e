/-
  Vertices and arcs, compared.
-/
import Derived.Test.YtlfihaajnjeaeaaGreatDoorRNetA
import Derived.Laws.StructEq
namespace Go.Proofs.YtlfihaajnjeaeaaGreatDoor
open Go.RowKit

end Go.Proofs.YtlfihaajnjeaeaaGreatDoor
