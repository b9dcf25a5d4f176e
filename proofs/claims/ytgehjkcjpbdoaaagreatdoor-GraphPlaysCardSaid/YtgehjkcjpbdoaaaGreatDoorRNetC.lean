/-
  The document's nets: is a row a walk, and what does it cost?
-/
import Derived.Test.YtgehjkcjpbdoaaaGreatDoorRNetB
import Derived.Test.YtgehjkcjpbdoaaaGreatDoorA2
import Derived.IntWalk
namespace Go.Proofs.YtgehjkcjpbdoaaaGreatDoor
open Go.RowKit

end Go.Proofs.YtgehjkcjpbdoaaaGreatDoor
