/-
  The law's own sample of known answers, of tables of turns.
-/
import Derived.Test.YtgihaakgadmidaaGreatA2
import Derived.Test.YtgihaakgadmidaaGreatT1
import Derived.Test.YtgihaakgadmidaaGreatGrow
import Derived.Deep.DeepCutAuto
namespace Go.Proofs.YtgihaakgadmidaaGreat
open Go.RowKit

theorem TabV.below {w w' : World} {v : Value} {I O : Int} {l : List Int} (h : TabV w v I O l) (hb : Below w.heap.size w w') : TabV w' v I O l := by
  obtain ⟨u, e, h⟩ := h
  exact ⟨u, e, h.below hb⟩

end Go.Proofs.YtgihaakgadmidaaGreat
