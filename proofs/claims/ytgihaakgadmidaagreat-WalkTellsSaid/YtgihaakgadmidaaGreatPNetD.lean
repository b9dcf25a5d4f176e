/-
  The program's own nets: what it costs to turn; walks, and what they cost.
-/
import Derived.Test.YtgihaakgadmidaaGreatPNetC
import Derived.Test.YtgihaakgadmidaaGreatRNetB
import Derived.Test.YtgihaakgadmidaaGreatA2
namespace Go.Proofs.YtgihaakgadmidaaGreat
open Go.RowKit

end Go.Proofs.YtgihaakgadmidaaGreat
