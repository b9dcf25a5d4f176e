/-
  The document's nets: is a row a walk, and what does it cost?
-/
import Derived.Test.YtgehjkcjpbdoaaaDoorRNetB
import Derived.Test.YtgehjkcjpbdoaaaDoorA2
import Derived.IntWalk
namespace Go.Proofs.YtgehjkcjpbdoaaaDoor
open Go.RowKit

end Go.Proofs.YtgehjkcjpbdoaaaDoor
