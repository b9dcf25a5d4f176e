/-
  The document's own At: a Wrong of one part.
-/
import Derived.Test.YtleheaffipokfaaErrM
import Derived.WalkKit
namespace Go.Proofs.Ytleheaffipokfaa
open Go.RowKit

end Go.Proofs.Ytleheaffipokfaa
