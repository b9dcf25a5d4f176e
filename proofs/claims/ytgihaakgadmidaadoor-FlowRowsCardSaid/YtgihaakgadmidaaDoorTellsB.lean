/-
  Tells, at a Fault and a Wrong that were just laid.
-/
import Derived.Test.YtgihaakgadmidaaDoorAtW
import Derived.Test.YtgihaakgadmidaaDoorTells
namespace Go.Proofs.YtgihaakgadmidaaDoor
open Go.RowKit

/-- Tells, at a Fault and a Wrong that were just laid. -/
theorem tells_laid (w : World) (g b : Nat) (p : ByteArray) (n a : Int) (hgs : w.heap.size + 1 = g) (hg : ErrT w) (c0 : w.cell? ⟨b, 0, none⟩ = some (.string p)) (c1 : w.cell? ⟨b, 1, none⟩ = some (.int .i64 n)) (c2 : w.cell? ⟨b, 2, none⟩ = some (.iface 65 (.int .i64 a))) (ha : ¬ a = 0) :
    Calls Tryd.prog 17 #[.iface 66 (.pointer (some ⟨b, 0, none⟩)), .agg #[.slice (some ⟨g, 0, none⟩) 1 1, .int .i64 a]] ((w.alloc (.cells #[.slice (some ⟨g, 0, none⟩) 1 1, .int .i64 a] 35)).alloc (.cells #[.string p, .int .i64 n] 72)) fun e w' => e = .returned (.bool true) ∧ Below w.heap.size w w' := by
  subst hgs
  have hb := atWorld_below p n a w
  have hE : ErrV w (.iface 66 (.pointer (some ⟨b, 0, none⟩))) [(p, n)] a := ⟨b, _, rfl, c0, c1, c2, rfl⟩
  exact (tells_any _ _ [(p, n)] a (atWorld p n a w) (hg.below hg.lt hb) (hE.below hb) (atWorld_wrong p n a w) (by simp) (by simp) ha).mono fun e w' ⟨h, h'⟩ => ⟨h, hb.trans (h'.mono (by rw [atWorld_size]; omega))⟩

end Go.Proofs.YtgihaakgadmidaaDoor
