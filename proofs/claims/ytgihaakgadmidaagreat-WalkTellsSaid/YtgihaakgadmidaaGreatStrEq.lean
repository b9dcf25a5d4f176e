/-
  Vertices and arcs, compared.
-/
import Derived.Test.YtgihaakgadmidaaGreatRNetA
import Derived.Laws.StructEq
namespace Go.Proofs.YtgihaakgadmidaaGreat
open Go.RowKit

end Go.Proofs.YtgihaakgadmidaaGreat
