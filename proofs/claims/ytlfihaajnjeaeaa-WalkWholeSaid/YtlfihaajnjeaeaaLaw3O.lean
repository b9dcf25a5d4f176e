/-
  The law's own Of: a net as the document's.
-/
import Derived.Test.YtlfihaajnjeaeaaLaw3R
import Derived.Test.YtlfihaajnjeaeaaLaw3T
import Derived.Test.YtlfihaajnjeaeaaA2
namespace Go.Proofs.Ytlfihaajnjeaeaa
open Go.RowKit

/-- v is a literal of one table, its row y. -/
def LitX (A : Tab) (y v : Value) (w : World) : Prop := ∃ g, v = .slice (some ⟨g, 0, none⟩) 1 1 ∧ Blk w g #[.int .i64 A.1, .int .i64 A.2.1, y] 90
theorem LitX.below {A : Tab} {y v : Value} {w w' : World} (h : LitX A y v w) (hb : Below w.heap.size w w') : LitX A y v w' := by
  obtain ⟨g, e, h⟩ := h
  exact ⟨g, e, h.keep hb⟩
theorem appX {W : World} {base : Nat} {v u y : Value} {l : List Tab} {us : List Value} {t : Tab} (h : W.ownsRow base 90 3 v l.length (flatB l us)) (hus : us.length = l.length) (hu : LitX t y u W) (hy1 : y.oneCell' = true) (hl : l.length ≤ 100000) (hb : base ≤ W.heap.size) :
    ∃ q c w', (Builtin.append_ #[24, 24] 24 #[v, u]).run Try.prog W = .ok (.slice q (l.length + 1) c) w' ∧ w'.ownsRow base 90 3 (.slice q (l.length + 1) c) (l.length + 1) (flatB (l ++ [t]) (us ++ [y])) ∧ W.grownBy w' v.ownBlock := by
  obtain ⟨i0, hi, hz0, hz1, hz2⟩ := info_parts infoRTab
  obtain ⟨g, rfl, hk⟩ := hu
  obtain ⟨v', w', hr, h1, h2, -⟩ := run_append_own (P := Try.prog) W base 24 24 90 i0 (.agg #[.int .i64 0, .int .i64 0, .slice none 0 0]) 3 40 Try.underlying24 hi hz0 hz1 hz2 rfl (by decide) v l.length (flatB l us) h ⟨g, 0, none⟩ 1 1 [.int .i64 t.1, .int .i64 t.2.1, y] rfl
    (fun j u hj => by
      obtain ⟨k0, k1, k2, -, -, -⟩ := hk.o3
      match j, hj with
      | 0, hj => simp at hj; subst hj; simpa [Addr.add] using k0
      | 1, hj => simp at hj; subst hj; simpa [Addr.add] using k1
      | 2, hj => simp at hj; subst hj; simpa [Addr.add] using k2) (by intro u hu; simp at hu; rcases hu with rfl | rfl | rfl; rfl; rfl; exact hy1) (by simp [maxLen]; omega) (by omega) hb
  obtain ⟨q, c, rfl⟩ := own_shape h1
  exact ⟨q, c, w', hr, by rw [flatB_append _ _ _ _ hus]; exact h1, h2⟩
/-- The rows of tables, in a world. -/
def RowsS (w : World) (l : List Tab) (us : List Value) : Prop := us.length = l.length ∧ ∀ (i : Nat) (t : Tab) (u : Value), l[i]? = some t → us[i]? = some u → I64s w u t.2.2
theorem RowsS.snoc {w : World} {l : List Tab} {us : List Value} (h : RowsS w l us) {t : Tab} {u : Value} (hu : I64s w u t.2.2) : RowsS w (l ++ [t]) (us ++ [u]) := by
  refine ⟨by simp [h.1], fun i t' u' h1 h2 => ?_⟩
  by_cases hi : i < l.length
  · rw [List.getElem?_append_left hi] at h1
    rw [List.getElem?_append_left (by rw [h.1]; exact hi)] at h2
    exact h.2 i t' u' h1 h2
  · rw [List.getElem?_append_right (by omega)] at h1
    rw [List.getElem?_append_right (by rw [h.1]; omega), h.1] at h2
    have hz : i - l.length = 0 := by
      have := (List.getElem?_eq_some_iff.1 h1).1
      simp at this
      omega
    rw [hz] at h1 h2
    simp at h1 h2
    subst h1
    subst h2
    exact hu
theorem tabs_of_rowsS {w w0 : World} {base : Nat} {e : TypeId} {v : Value} {l : List Tab} {us : List Value} (h : w.ownsRow base e 3 v l.length (flatB l us)) (hr : RowsS w0 l us) (hb : Below w0.heap.size w0 w) (hl : l.length ≤ 9223372036854775807) : Tabs w v l := by
  rcases h.2 with ⟨rfl, e0⟩ | ⟨g, cap, cur, rfl, _, _, hnc, hcm, _, _⟩
  · have : l = [] := List.length_eq_zero_iff.1 e0
    subst this
    exact Or.inl ⟨rfl, none, 0, rfl, fun _ => rfl⟩
  · refine Or.inr ⟨hl, g, 0, cap, hnc, by unfold maxLen at hcm; omega, rfl, fun i hi => ?_⟩
    have hi' : i < us.length := by rw [hr.1]; exact hi
    obtain ⟨a, b, c⟩ := flatB_at l us i hi hi'
    rw [Nat.zero_add]
    exact ⟨us[i], (h.cellAt _ (by omega)).trans a, (h.cellAt _ (by omega)).trans b, (h.cellAt _ (by omega)).trans c, (hr.2 i l[i] us[i] (List.getElem?_eq_getElem hi) (List.getElem?_eq_getElem hi')).below hb⟩

end Go.Proofs.Ytlfihaajnjeaeaa
