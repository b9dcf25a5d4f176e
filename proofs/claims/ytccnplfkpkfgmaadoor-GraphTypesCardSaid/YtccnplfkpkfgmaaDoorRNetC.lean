/-
  The document's nets: is a row a walk, and what does it cost?
-/
import Derived.Test.YtccnplfkpkfgmaaDoorRNetB
import Derived.Test.YtccnplfkpkfgmaaDoorA2
import Derived.IntWalk
namespace Go.Proofs.YtccnplfkpkfgmaaDoor
open Go.RowKit

end Go.Proofs.YtccnplfkpkfgmaaDoor
