/-
  The program's own nets: do two arcs meet; may one be gone along; what it costs to turn at a vertex.
-/
import Derived.Test.YtlfihaajnjeaeaaPNetA
import Derived.Test.YtlfihaajnjeaeaaOwnT
import Derived.Test.YtlfihaajnjeaeaaGrow
namespace Go.Proofs.Ytlfihaajnjeaeaa
open Go.RowKit

theorem there_dec (n : NetD) (k : Int) : n.there k = decide (0 ≤ k ∧ k < (n.a.length : Int)) := rfl

end Go.Proofs.Ytlfihaajnjeaeaa
