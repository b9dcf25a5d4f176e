/-
  The program's own nets: do two arcs meet; may one be gone along; what it costs to turn at a vertex.
-/
import Derived.Test.YtgehjkcjpbdoaaaDoorPNetA
import Derived.Test.YtgehjkcjpbdoaaaDoorOwnT
import Derived.Test.YtgehjkcjpbdoaaaDoorGrow
namespace Go.Proofs.YtgehjkcjpbdoaaaDoor
open Go.RowKit

theorem there_dec (n : NetD) (k : Int) : n.there k = decide (0 ≤ k ∧ k < (n.a.length : Int)) := rfl

end Go.Proofs.YtgehjkcjpbdoaaaDoor
