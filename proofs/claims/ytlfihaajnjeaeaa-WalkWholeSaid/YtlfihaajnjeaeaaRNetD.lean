/-
  The document's nets: are two alike?
-/
import Derived.Test.YtlfihaajnjeaeaaStrEq
import Derived.Test.YtlfihaajnjeaeaaA2
import Derived.Test.YtlfihaajnjeaeaaGrow
namespace Go.Proofs.Ytlfihaajnjeaeaa
open Go.RowKit

/-- Are two nets alike? -/
def sameN (a b : NetD) : Bool := decide (a.v = b.v ∧ a.a = b.a ∧ a.t = b.t)
theorem take_eq_succ {α : Type} {l m : List α} {k : Nat} (hl : k < l.length) (hm : k < m.length) (h : l.take k = m.take k) (he : l[k] = m[k]) : l.take (k + 1) = m.take (k + 1) := by
  rw [take_snoc l k hl, take_snoc m k hm, h, he]
theorem take_all {α : Type} {l m : List α} (hlen : m.length = l.length) (h : l.take l.length = m.take l.length) : l = m := by
  rw [List.take_length] at h
  rw [h, ← hlen, List.take_length]
theorem getElem_ne {α : Type} {l m : List α} {k : Nat} (hl : k < l.length) (hm : k < m.length) (h : ¬ l[k] = m[k]) : ¬ l = m := fun e => h (by subst e; rfl)

end Go.Proofs.Ytlfihaajnjeaeaa
