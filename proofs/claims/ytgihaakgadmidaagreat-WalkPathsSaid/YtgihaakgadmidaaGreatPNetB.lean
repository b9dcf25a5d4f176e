/-
  The program's own nets: do two arcs meet; may one be gone along; what it costs to turn at a vertex.
-/
import Derived.Test.YtgihaakgadmidaaGreatPNetA
import Derived.Test.YtgihaakgadmidaaGreatOwnT
import Derived.Test.YtgihaakgadmidaaGreatGrow
namespace Go.Proofs.YtgihaakgadmidaaGreat
open Go.RowKit

end Go.Proofs.YtgihaakgadmidaaGreat
