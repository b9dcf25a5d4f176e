/-
  The law's own sample of known answers, of tables of turns.
-/
import Derived.Test.YtlfihaajnjeaeaaA2
import Derived.Test.YtlfihaajnjeaeaaT1
import Derived.Test.YtlfihaajnjeaeaaGrow
import Derived.Deep.DeepCutAuto
namespace Go.Proofs.Ytlfihaajnjeaeaa
open Go.RowKit

/-- The document's At, whatever the world: a Wrong of one part. -/
theorem at_post (p : ByteArray) (n e : Int) (w : World) : Calls Try.prog 69 #[.string p, .int .i64 n, .int .i64 e] w (WPost [(p, n)] e w) := by
  refine (at_any p n e w).mono ?_
  rintro ev w' ⟨rfl, rfl⟩
  exact ⟨_, rfl, wrong_last _ _ (by simp) _ _ _, below_alloc2 _ _⟩

theorem turnW_or (p : Int × Int) : turnW p = [] ∧ p.2 = 0 ∨ 1 ≤ (turnW p).length ∧ (turnW p).length ≤ 2 ∧ ¬ p.2 = 0 := by
  unfold turnW
  by_cases h : p.2 = 0
  · exact Or.inl ⟨by rw [if_pos h], h⟩
  · exact Or.inr ⟨by rw [if_neg h]; simp, by rw [if_neg h]; simp, h⟩

theorem TabV.below {w w' : World} {v : Value} {I O : Int} {l : List Int} (h : TabV w v I O l) (hb : Below w.heap.size w w') : TabV w' v I O l := by
  obtain ⟨u, e, h⟩ := h
  exact ⟨u, e, h.below hb⟩

def sixL : List Int := [0, 0, 0, 0, 0, 0]
def sixU : List Int := [0, 0, 0, 0, 0, 1152921504606846976]
def twoB : List Int := [1152921504606846976, 0, 0, 1152921504606846976]

end Go.Proofs.Ytlfihaajnjeaeaa
