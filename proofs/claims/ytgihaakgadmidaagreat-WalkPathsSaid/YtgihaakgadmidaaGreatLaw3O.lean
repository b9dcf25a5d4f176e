/-
  The law's own Of: a net as the document's.
-/
import Derived.Test.YtgihaakgadmidaaGreatLaw3R
import Derived.Test.YtgihaakgadmidaaGreatLaw3T
import Derived.Test.YtgihaakgadmidaaGreatA2
namespace Go.Proofs.YtgihaakgadmidaaGreat
open Go.RowKit

/-- v is a literal of one table, its row y. -/
def LitX (A : Tab) (y v : Value) (w : World) : Prop := ∃ g, v = .slice (some ⟨g, 0, none⟩) 1 1 ∧ Blk w g #[.int .i64 A.1, .int .i64 A.2.1, y] 68
theorem LitX.below {A : Tab} {y v : Value} {w w' : World} (h : LitX A y v w) (hb : Below w.heap.size w w') : LitX A y v w' := by
  obtain ⟨g, e, h⟩ := h
  exact ⟨g, e, h.keep hb⟩
/-- The rows of tables, in a world. -/
def RowsS (w : World) (l : List Tab) (us : List Value) : Prop := us.length = l.length ∧ ∀ (i : Nat) (t : Tab) (u : Value), l[i]? = some t → us[i]? = some u → I64s w u t.2.2
theorem RowsS.snoc {w : World} {l : List Tab} {us : List Value} (h : RowsS w l us) {t : Tab} {u : Value} (hu : I64s w u t.2.2) : RowsS w (l ++ [t]) (us ++ [u]) := by
  refine ⟨by simp [h.1], fun i t' u' h1 h2 => ?_⟩
  by_cases hi : i < l.length
  · rw [List.getElem?_append_left hi] at h1
    rw [List.getElem?_append_left (by rw [h.1]; exact hi)] at h2
    exact h.2 i t' u' h1 h2
  · rw [List.getElem?_append_right (by omega)] at h1
    rw [List.getElem?_append_right (by rw [h.1]; omega), h.1] at h2
    have hz : i - l.length = 0 := by
      have := (List.getElem?_eq_some_iff.1 h1).1
      simp at this
      omega
    rw [hz] at h1 h2
    simp at h1 h2
    subst h1
    subst h2
    exact hu
end Go.Proofs.YtgihaakgadmidaaGreat
