/-
  The document's own At: a Wrong of one part.
-/
import Derived.Test.YtleheaffipokfaaDoorErrM
import Derived.WalkKit
namespace Go.Proofs.YtleheaffipokfaaDoor
open Go.RowKit

/-- The world behind the document's own At: a Wrong's two cells, and its one part. -/
def atWorld (p : ByteArray) (n e : Int) (w : World) : World := (w.alloc (.cells #[.slice (some ⟨w.heap.size + 1, 0, none⟩) 1 1, .int .i64 e] 42)).alloc (.cells #[.string p, .int .i64 n] 65)
theorem atWorld_below (p : ByteArray) (n e : Int) (w : World) : Below w.heap.size w (atWorld p n e w) := ((Below.refl _ _).alloc (Nat.le_refl _) _).alloc (by simp) _
theorem atWorld_size (p : ByteArray) (n e : Int) (w : World) : (atWorld p n e w).heap.size = w.heap.size + 1 + 1 := by simp [atWorld]
theorem atWorld_wrong (p : ByteArray) (n e : Int) (w : World) : WrongV (atWorld p n e w) (.agg #[.slice (some ⟨w.heap.size + 1, 0, none⟩) 1 1, .int .i64 e]) [(p, n)] e := by
  refine ⟨_, rfl, Or.inr ⟨by simp, w.heap.size + 1, 0, 1, rfl, fun i h => ?_, fun i h => ?_⟩⟩
  · obtain rfl : i = 0 := by simpa using h
    simp [atWorld]
  · obtain rfl : i = 0 := by simpa using h
    simp [atWorld]
theorem at_any (p : ByteArray) (n e : Int) (w : World) :
    Calls Tryd.prog 12 #[.string p, .int .i64 n, .int .i64 e] w fun ev w' => ev = .returned (.agg #[.slice (some ⟨w.heap.size + 1, 0, none⟩) 1 1, .int .i64 e]) ∧ w' = (w.alloc (.cells #[.slice (some ⟨w.heap.size + 1, 0, none⟩) 1 1, .int .i64 e] 42)).alloc (.cells #[.string p, .int .i64 n] 65) := by
  go_enter Tryd.func12, Tryd.ntmps12
  go_wp2
  exact bodyPost_ret (v := .agg #[.slice (some ⟨w.heap.size + 1, 0, none⟩) 1 1, .int .i64 e]) (by simp [results, Tryd.results12, go_sem]) rfl ⟨rfl, rfl⟩

end Go.Proofs.YtleheaffipokfaaDoor
