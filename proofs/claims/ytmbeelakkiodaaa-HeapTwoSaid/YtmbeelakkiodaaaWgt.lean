/-
  What may be a weight: the program's word and the document's.
-/
import Derived.Test.YtmbeelakkiodaaaProg
import Derived.Test.YtmbeelakkiodaaaCostM
import Derived.WalkKit
import Derived.WalkSpells
import Derived.WalkLawsBesides
namespace Go.Proofs.Ytmbeelakkiodaaa
open Go.RowKit

end Go.Proofs.Ytmbeelakkiodaaa
