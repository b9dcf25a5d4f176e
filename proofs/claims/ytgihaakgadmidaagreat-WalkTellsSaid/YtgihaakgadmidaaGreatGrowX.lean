/-
  Regions that draw their order, some operations of which look at no memory and may come late: they are taken first.
-/
import Derived.Test.YtgihaakgadmidaaGreatGrow
namespace Go.Proofs.YtgihaakgadmidaaGreat
open Go.RowKit

section
variable {P : Program} {ops : Array Oper} {n : Nat} {A : List (List Nat)} {S : World → Prop} {Ds : List Fact} {X : List Nat}

/-- The operations X look at no memory. -/
def PureX (P : Program) (ops : Array Oper) (n : Nat) (A : List (List Nat)) (S : World → Prop) (Ds : List Fact) (X : List Nat) : Prop :=
  ∀ i ∈ X, ∀ o, ops[i]? = some o → ∀ (c : Act) (w : World), S w → (∀ k ∈ A.getD i [], holdsAt ops Ds n k c w) → ∃ v, Region.wanted o (yielded ops c.tmps) = true ∧ (∀ w', (execOp c.eval o).run P w' = .ok (.value v) w') ∧ (factAt Ds i).holds v w ∧ (factAt Ds i).isFresh = false
theorem PureX.one {i : Nat} {o : Oper} (ho : ops[i]? = some o) (h : ∀ (c : Act) (w : World), S w → (∀ k ∈ A.getD i [], holdsAt ops Ds n k c w) → ∃ v, Region.wanted o (yielded ops c.tmps) = true ∧ (∀ w', (execOp c.eval o).run P w' = .ok (.value v) w') ∧ (factAt Ds i).holds v w ∧ (factAt Ds i).isFresh = false) : PureX P ops n A S Ds [i] := by
  intro j hj o' ho'
  obtain rfl := List.mem_singleton.1 hj
  obtain rfl := Option.some.inj (ho.symm.trans ho')
  exact h

end

end Go.Proofs.YtgihaakgadmidaaGreat
