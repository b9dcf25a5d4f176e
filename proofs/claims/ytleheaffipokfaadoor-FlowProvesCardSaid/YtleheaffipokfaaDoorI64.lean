/-
  Rows of 64-bit numbers as they lie in memory.
-/
import Derived.Test.YtleheaffipokfaaDoorProg
import Derived.WalkKit
namespace Go.Proofs.YtleheaffipokfaaDoor
open Go.RowKit

/-- The value v is a row of 64-bit numbers, read in world w. -/
def I64s (w : World) (v : Value) (l : List Int) : Prop :=
  (l = [] ∧ ∃ p c, v = .slice p 0 c ∧ (p = none → c = 0)) ∨ (l.length ≤ 9223372036854775807 ∧ ∃ b o c, l.length ≤ c ∧ c ≤ 9223372036854775807 ∧ v = .slice (some ⟨b, o, none⟩) l.length c ∧ ∀ i (h : i < l.length), w.cell? ⟨b, o + i, none⟩ = some (.int .i64 l[i]))
/-- All of them are 64-bit numbers. -/
def In64 (l : List Int) : Prop := ∀ x ∈ l, -9223372036854775808 ≤ x ∧ x ≤ 9223372036854775807

theorem I64s.shape {w : World} {v : Value} {l : List Int} (h : I64s w v l) : ∃ q c, v = .slice q l.length c := by
  rcases h with ⟨rfl, p, c, rfl, -⟩ | ⟨_, b, o, c, -, -, rfl, _⟩
  · exact ⟨p, c, rfl⟩
  · exact ⟨_, c, rfl⟩
theorem I64s.below {w w' : World} {v : Value} {l : List Int} (h : I64s w v l) (hb : Below w.heap.size w w') : I64s w' v l := by
  rcases h with h | ⟨hl, b, o, c, h1, h2, rfl, hc⟩
  · exact Or.inl h
  · exact Or.inr ⟨hl, b, o, c, h1, h2, rfl, fun i hi => (hb.cell (World.block_lt_of_cell? w _ (hc i hi))).trans (hc i hi)⟩

end Go.Proofs.YtleheaffipokfaaDoor
