/-
  The document's nets: what it costs to turn.
-/
import Derived.Test.YtgehjkcjpbdoaaaDoorA1
import Derived.Test.YtgehjkcjpbdoaaaDoorRNetA
import Derived.Test.YtgehjkcjpbdoaaaDoorA2
import Derived.Test.YtgehjkcjpbdoaaaDoorGrow
namespace Go.Proofs.YtgehjkcjpbdoaaaDoor
open Go.RowKit

end Go.Proofs.YtgehjkcjpbdoaaaDoor
