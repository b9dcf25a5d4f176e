/-
  The program's own nets: are two alike?
-/
import Derived.Test.YtgihaakgadmidaaGreatPNetA
import Derived.Test.YtgihaakgadmidaaGreatRNetD
import Derived.Test.YtgihaakgadmidaaGreatA2
namespace Go.Proofs.YtgihaakgadmidaaGreat
open Go.RowKit

end Go.Proofs.YtgihaakgadmidaaGreat
