/-
  A row copied behind an empty literal, wherever that stands.
-/
import Derived.Test.YtgihaakgadmidaaGreatRNetA
import Derived.Test.YtgihaakgadmidaaGreatGrow
import Derived.ArgAppend
namespace Go.Proofs.YtgihaakgadmidaaGreat
open Go.RowKit

section
variable {P : Program} {ops : Array Oper} {n : Nat} {A : List (List Nat)} {S : World → Prop} {Ds : List Fact} {fin : Act → Prop} {i : Nat} {o : Oper} {r : List Oper} {c : Act}
end

end Go.Proofs.YtgihaakgadmidaaGreat
