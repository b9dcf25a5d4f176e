/-
  The document's nets that change: Set, Bend.
-/
import Derived.Test.YtgihaakgadmidaaGreatE3
namespace Go.Proofs.YtgihaakgadmidaaGreat
open Go.RowKit

section
variable {n : NetD} {w : World} {v : Value}

end

end Go.Proofs.YtgihaakgadmidaaGreat

/-
  The document's nets that change: Bend.
-/
namespace Go.Proofs.YtgihaakgadmidaaGreat
open Go.RowKit

section
variable {n : NetD} {w : World} {v : Value}

end

end Go.Proofs.YtgihaakgadmidaaGreat

/-
  The document's nets that change: Bend, where it is refused.
-/
namespace Go.Proofs.YtgihaakgadmidaaGreat
open Go.RowKit

section
variable {n : NetD} {w : World} {v : Value}

end

end Go.Proofs.YtgihaakgadmidaaGreat

/-
  The document's nets that change: Bend, where it is done.
-/
namespace Go.Proofs.YtgihaakgadmidaaGreat
open Go.RowKit

section
variable {n : NetD} {w : World} {v : Value}

end

end Go.Proofs.YtgihaakgadmidaaGreat
