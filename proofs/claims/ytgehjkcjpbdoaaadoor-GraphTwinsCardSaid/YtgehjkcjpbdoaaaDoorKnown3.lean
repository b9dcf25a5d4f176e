/-
  The law's own ring, of which one vertex is put to another Type; the law's own sample of known answers.
-/
import Derived.Test.YtgehjkcjpbdoaaaDoorLawN
import Derived.Test.YtgehjkcjpbdoaaaDoorRing
namespace Go.Proofs.YtgehjkcjpbdoaaaDoor
open Go.RowKit

/-- The ring, its third vertex of another Type. -/
def ringM : NetD := ⟨[(0, 0, 1), (10, 0, 2), (5, 8, 1)], [(0, 1, 10), (1, 2, 20), (2, 0, 30), (1, 0, 40)], [(1, 1, [2]), (2, 1, [0, 1152921504606846976]), (1, 2, [1, 5])]⟩
theorem ringN_ok : chkN ringN = fltOK := by decide
theorem ringM_bad : chkN ringM = ([(vertB, 2)], 9) := by decide
theorem ringN_good : NetGood ringN := good_of (by rw [ringN_ok]; rfl)
theorem ringN_in : InNet ringN := by
  refine ⟨?_, ?_, ?_⟩
  · intro x hx; simp [ringN] at hx; rcases hx with rfl | rfl | rfl <;> simp
  · intro x hx; simp [ringN] at hx; rcases hx with rfl | rfl | rfl | rfl <;> simp
  · intro x hx; simp [ringN] at hx; rcases hx with rfl | rfl | rfl <;> (refine ⟨by simp, by simp, ?_⟩; intro y hy; simp at hy; omega)
theorem ringM_in : InNet ringM := by
  refine ⟨?_, ?_, ?_⟩
  · intro x hx; simp [ringM] at hx; rcases hx with rfl | rfl | rfl <;> simp
  · intro x hx; simp [ringM] at hx; rcases hx with rfl | rfl | rfl | rfl <;> simp
  · intro x hx; simp [ringM] at hx; rcases hx with rfl | rfl | rfl <;> (refine ⟨by simp, by simp, ?_⟩; intro y hy; simp at hy; omega)
theorem ringN_few : NetFew ringN := ⟨by decide, by decide, by decide, by decide⟩
theorem ringM_few : NetFew ringM := ⟨by decide, by decide, by decide, by decide⟩

theorem lit_row (w : World) (l : List Int) (hl : l.length ≤ 100) : I64s (w.alloc (.cells (l.map (Value.int .i64)).toArray 3)) (.slice (some ⟨w.heap.size, 0, none⟩) l.length l.length) l := by
  refine Or.inr ⟨by omega, w.heap.size, 0, l.length, Nat.le_refl _, by omega, rfl, fun i hi => ?_⟩
  rw [World.cell?_alloc_at _ _ _ _ (by simp)]
  simp [hi]
end Go.Proofs.YtgehjkcjpbdoaaaDoor
