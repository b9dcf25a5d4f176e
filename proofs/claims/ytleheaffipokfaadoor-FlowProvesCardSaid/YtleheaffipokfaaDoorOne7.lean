/-
  Regions that draw their order and in which one operation writes: what holds ahead of it, what behind.
-/
import Derived.Test.YtleheaffipokfaaDoorGrowH
namespace Go.Proofs.YtleheaffipokfaaDoor
open Go.RowKit

/-- While operation j is not done A holds, then B. -/
structure GG.OneW (j : Nat) (A B : World → Prop) (dn : Nat → Bool) (_ : Unit) (w : World) : Prop where
  g0 : dn j = false → A w
  g1 : dn j = true → B w
def GG.RlW (_ : Unit) (_ : World) (_ : Unit) (_ : World) : Prop := True
namespace GG.OneW
variable {j : Nat} {A B : World → Prop} {w w' : World} {dn : Nat → Bool} {s : Unit}
theorem start (h : A w) : GG.OneW j A B (fun _ => false) () w := ⟨fun _ => h, fun h => (by cases h)⟩
theorem still {i : Nat} (hj : j ≠ i) : GG.Still (GG.OneW j A B) GG.RlW i :=
  ⟨fun dn _ _ h => ⟨fun h1 => h.g0 (by rw [← show GG.doneG dn i j = dn j from if_neg hj]; exact h1), fun h1 => h.g1 (by rw [← show GG.doneG dn i j = dn j from if_neg hj]; exact h1)⟩, fun _ _ => trivial⟩
theorem put (h : B w') : GG.OneW j A B (GG.doneG dn j) s w' :=
  ⟨fun e => (by rw [show GG.doneG dn j j = true from if_pos rfl] at e; cases e), fun _ => h⟩
/-- What holds either way. -/
theorem both (h : GG.OneW j A B dn s w) : A w ∨ B w := by
  cases e : dn j with
  | false => exact Or.inl (h.g0 e)
  | true => exact Or.inr (h.g1 e)
end GG.OneW

end Go.Proofs.YtleheaffipokfaaDoor
