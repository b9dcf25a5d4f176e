/-
  The law's own sample of known answers, of tables of turns.
-/
import Derived.Test.YtlfihaajnjeaeaaGreatDoorA2
import Derived.Test.YtlfihaajnjeaeaaGreatDoorT1
import Derived.Test.YtlfihaajnjeaeaaGreatDoorGrow
import Derived.Deep.DeepCutAuto
namespace Go.Proofs.YtlfihaajnjeaeaaGreatDoor
open Go.RowKit

theorem ErrT.keep {w w' : World} (hb : Below w.heap.size w w') (h : ErrT w) : ErrT w' := (hb.cell h.lt).trans h
/-- The law's Tells, of what the program and the document tell alike. -/
theorem tells_post (v wv : Value) (ps : List (ByteArray × Int)) (a : Int) (w : World) (hg : ErrT w) (hF : FaultV w v ps a) (hW : WrongV w wv ps a) (h : ps = [] ∧ a = 0 ∨ 1 ≤ ps.length ∧ ps.length ≤ 2 ∧ ¬ a = 0) :
    Calls Tryz.prog 22 #[v, wv] w fun e w' => e = .returned (.bool true) ∧ Below w.heap.size w w' := by
  rcases h with ⟨rfl, rfl⟩ | ⟨h1, h2, h3⟩
  · obtain rfl := hF.none
    obtain ⟨sv, rfl, _⟩ := hW
    exact tells_nil sv w
  · rcases hF with ⟨rfl, _⟩ | ⟨_, hE⟩
    · simp at h1
    · exact tells_any v wv ps a w hg hE hW h1 h2 h3

theorem TabV.below {w w' : World} {v : Value} {I O : Int} {l : List Int} (h : TabV w v I O l) (hb : Below w.heap.size w w') : TabV w' v I O l := by
  obtain ⟨u, e, h⟩ := h
  exact ⟨u, e, h.below hb⟩

end Go.Proofs.YtlfihaajnjeaeaaGreatDoor
