/-
  A row copied behind an empty literal, wherever that stands.
-/
import Derived.Test.YtlfihaajnjeaeaaGreatDoorRNetA
import Derived.Test.YtlfihaajnjeaeaaGreatDoorGrow
import Derived.ArgAppend
namespace Go.Proofs.YtlfihaajnjeaeaaGreatDoor
open Go.RowKit

section
variable {P : Program} {ops : Array Oper} {n : Nat} {A : List (List Nat)} {S : World → Prop} {Ds : List Fact} {fin : Act → Prop} {i : Nat} {o : Oper} {r : List Oper} {c : Act}
/-- An append that makes memory. -/
theorem grow_append {p : Value → World → Prop} {hp : ∀ v w w', p v w → Below w.heap.size w w' → p v w'} (s x : Operand) (t : TypeId) (ho : o.op = .call { callee := .builtin .append, args := #[s, x], argTypes := #[t, t] })
    (hS : Grows S) (hf : factAt Ds i = .prop p hp) (hw : Region.wanted o (yielded ops c.tmps) = true)
    (hrun : ∀ w, S w → (∀ k ∈ A.getD i [], holdsAt ops Ds n k c w) → ∃ u w', (Builtin.append_ #[t, t] o.type #[c.eval s, c.eval x]).run P w = .ok u w' ∧ p u w' ∧ Below w.heap.size w w')
    {c' : Value → Act} (hc : ∀ v, c.put o.dst v = c' v) (h : ∀ v, GrowSeq P ops n A S Ds fin (i + 1) r (c' v)) : GrowSeq P ops n A S Ds fin i (o :: r) c :=
  grow_make hS hf hw (fun w hs H => by
    obtain ⟨u, w', hr, h1, h2⟩ := hrun w hs H
    refine ⟨u, w', ?_, h1, h2⟩
    unfold execOp
    simp only [ho, resolve, invoke, builtin, Sem.run_bind, Sem.run_pure, Result.andThen_ok, List.map_toArray, List.map_cons, List.map_nil, hr]) hc h
end

end Go.Proofs.YtlfihaajnjeaeaaGreatDoor
