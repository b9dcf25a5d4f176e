/-
  Rows of the document's structs that a call makes: copies, appends, stores, and what stays.
-/
import Derived.Test.YtgihaakgadmidaaGreatLaw3A
import Derived.Test.YtgihaakgadmidaaGreatCopy0
namespace Go.Proofs.YtgihaakgadmidaaGreat
open Go.RowKit

/-- v is a literal of one table. -/
def LitR (I O : Int) (l : List Int) (v : Value) (w : World) : Prop := ∃ g u, v = .slice (some ⟨g, 0, none⟩) 1 1 ∧ Blk w g #[.int .i64 I, .int .i64 O, u] 68 ∧ RowI w u l
theorem LitR.below {I O : Int} {l : List Int} {v : Value} {w w' : World} (h : LitR I O l v w) (hb : Below w.heap.size w w') : LitR I O l v w' := by
  obtain ⟨g, u, e, h, h'⟩ := h
  exact ⟨g, u, e, h.keep hb, h'.below hb⟩
/-! ### what stays -/
/-- A row's own block is no block of another type. -/
theorem own_ne_blk {w : World} {base : Nat} {e : TypeId} {size : Nat} {v : Value} {n : Nat} {xs : List Value} (h : w.ownsRow base e size v n xs) {b : Nat} {cs : Array Value} {t : TypeId} (hk : Blk w b cs t) (hne : e ≠ t) : v.ownBlock ≠ some b := by
  rcases h.2 with ⟨rfl, _⟩ | ⟨g, cap, cur, rfl, _, h4, _⟩
  · simp [Value.ownBlock]
  · simp only [Value.ownBlock, ne_eq, Option.some.injEq]
    intro e0
    subst e0
    unfold Blk at hk
    rw [hk] at h4
    injection h4 with h4
    injection h4 with _ h4
    exact hne h4.symm
/-- .. where a block of another type is written. -/
theorem owns_set {w : World} {base : Nat} {e : TypeId} {size : Nat} {v : Value} {n : Nat} {xs : List Value} (h : w.ownsRow base e size v n xs) {k : Nat} {cs : Array Value} {t : TypeId} (hk : Blk w k cs t) (hne : e ≠ t) (o : Nat) (x : Value) : (w.setCell ⟨k, o, none⟩ x).ownsRow base e size v n xs := by
  refine ⟨h.1, ?_⟩
  rcases h.2 with h0 | ⟨g, cap, cur, h1, h2, h3, h4⟩
  · exact Or.inl h0
  · refine Or.inr ⟨g, cap, cur, h1, h2, ?_, h4⟩
    have hg : g ≠ k := fun e => by
      subst e
      unfold Blk at hk
      rw [hk] at h3
      injection h3 with h3
      injection h3 with _ h3
      exact hne h3.symm
    exact (heap_setCell_other w ⟨k, o, none⟩ g x hg).trans h3
/-- A row's own cell is written. -/
theorem owns_put {w : World} {base : Nat} {e : TypeId} {size : Nat} {q : Option Addr} {c n : Nat} {xs : List Value} (h : w.ownsRow base e size (.slice q n c) n xs) {j : Nat} (hj : j < n * size) (x : Value) :
    ∃ g, q = some ⟨g, 0, none⟩ ∧ base ≤ g ∧ g < w.heap.size ∧ w.cell? ⟨g, j, none⟩ = xs[j]? ∧ w.frozen? ⟨g, j, none⟩ = false ∧ (w.setCell ⟨g, j, none⟩ x).ownsRow base e size (.slice q n c) n (xs.set j x) ∧
      ∀ (e' : TypeId) (base' size' : Nat) (v' : Value) (n' : Nat) (xs' : List Value), e' ≠ e → w.ownsRow base' e' size' v' n' xs' → (w.setCell ⟨g, j, none⟩ x).ownsRow base' e' size' v' n' xs' := by
  have h0 := h
  rcases h.2 with ⟨e1, e2⟩ | ⟨g, cap, cur, e1, hg, hh, hnc, hcm, hcs, htake⟩
  · subst e2; simp at hj
  · injection e1 with e1 e2 e3
    subst e1
    subst e3
    have hlt : g < w.heap.size := (Array.getElem?_eq_some_iff.1 hh).1
    have hk : Blk w g cur e := hh
    refine ⟨g, rfl, hg, hlt, h0.cellAt j hj, hk.free j, ⟨by rw [List.length_set]; exact h0.1, Or.inr ⟨g, c, cur.setIfInBounds j x, rfl, hg, hk.set j x, hnc, hcm, by rw [Array.size_setIfInBounds]; exact hcs, ?_⟩⟩, fun e' base' size' v' n' xs' hne h' => owns_set h' hk hne j x⟩
    rw [Array.toList_setIfInBounds, List.take_set, htake]
end Go.Proofs.YtgihaakgadmidaaGreat
