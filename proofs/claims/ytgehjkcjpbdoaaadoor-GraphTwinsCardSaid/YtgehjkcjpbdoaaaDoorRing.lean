/-
  The law's own ring: three vertices, four arcs, three tables.
-/
import Derived.Test.YtgehjkcjpbdoaaaDoorA1
import Derived.Test.YtgehjkcjpbdoaaaDoorRNetA
namespace Go.Proofs.YtgehjkcjpbdoaaaDoor
open Go.RowKit

def ringN : NetD := ⟨[(0, 0, 1), (10, 0, 2), (5, 8, 0)], [(0, 1, 10), (1, 2, 20), (2, 0, 30), (1, 0, 40)], [(1, 1, [2]), (2, 1, [0, 1152921504606846976]), (1, 2, [1, 5])]⟩
end Go.Proofs.YtgehjkcjpbdoaaaDoor
