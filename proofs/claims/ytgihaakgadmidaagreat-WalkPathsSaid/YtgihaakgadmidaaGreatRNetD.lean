/-
  The document's nets: are two alike?
-/
import Derived.Test.YtgihaakgadmidaaGreatStrEq
import Derived.Test.YtgihaakgadmidaaGreatA2
import Derived.Test.YtgihaakgadmidaaGreatGrow
namespace Go.Proofs.YtgihaakgadmidaaGreat
open Go.RowKit

end Go.Proofs.YtgihaakgadmidaaGreat
