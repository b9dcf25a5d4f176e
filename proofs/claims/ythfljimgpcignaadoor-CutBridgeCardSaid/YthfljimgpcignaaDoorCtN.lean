/-
  The law package's own known, as the laws of cuts ask it.
-/
import Derived.Test.YthfljimgpcignaaDoorG25
import Derived.Test.YthfljimgpcignaaDoorG30
namespace Go.Proofs.YthfljimgpcignaaDoor
open Go.RowKit Go.Sort

def Known11C : Prop := ∀ (w : World), ErrT w → Calls Tryd.prog 6 #[] w fun e w' => e = .returned (.bool true) ∧ Below w.heap.size w w'
end Go.Proofs.YthfljimgpcignaaDoor
