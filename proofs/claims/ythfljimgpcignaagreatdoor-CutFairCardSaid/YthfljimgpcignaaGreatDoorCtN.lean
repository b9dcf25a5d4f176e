/-
  The law package's own known, as the laws of cuts ask it.
-/
import Derived.Test.YthfljimgpcignaaGreatDoorG25
import Derived.Test.YthfljimgpcignaaGreatDoorG30
namespace Go.Proofs.YthfljimgpcignaaGreatDoor
open Go.RowKit Go.Sort

def Known11C : Prop := ∀ (w : World), ErrT w → Calls Tryz.prog 4 #[] w fun e w' => e = .returned (.bool true) ∧ Below w.heap.size w w'
end Go.Proofs.YthfljimgpcignaaGreatDoor
