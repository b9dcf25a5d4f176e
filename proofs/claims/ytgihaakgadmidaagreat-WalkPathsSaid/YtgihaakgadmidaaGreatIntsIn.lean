/-
  Rows of numbers, of int, that came in.
-/
import Derived.Test.YtgihaakgadmidaaGreatD1
namespace Go.Proofs.YtgihaakgadmidaaGreat
open Go.ChangeShapes Go.WideShapes Go.ChangeAt Go.RowKit Go.Joins

end Go.Proofs.YtgihaakgadmidaaGreat
