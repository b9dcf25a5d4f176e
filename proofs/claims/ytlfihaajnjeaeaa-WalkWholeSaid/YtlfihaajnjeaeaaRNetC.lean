/-
  The document's nets: is a row a walk, and what does it cost?
-/
import Derived.Test.YtlfihaajnjeaeaaRNetB
import Derived.Test.YtlfihaajnjeaeaaA2
import Derived.IntWalk
namespace Go.Proofs.Ytlfihaajnjeaeaa
open Go.RowKit

end Go.Proofs.Ytlfihaajnjeaeaa
