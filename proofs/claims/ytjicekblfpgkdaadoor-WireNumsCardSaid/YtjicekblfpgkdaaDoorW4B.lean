/-
  Rows that came in, while Readers are read; a slice's own part.
-/
import Derived.Test.YtjicekblfpgkdaaDoorKnown4
import Derived.Test.YtjicekblfpgkdaaDoorLaid4
namespace Go.Proofs.YtjicekblfpgkdaaDoor
open Go.RowKit

/-- A row of bytes that lies below block N. -/
def OldB (N : Nat) (w : World) (v : Value) (l : List Int) : Prop := ∃ x, U8at w v l x ∧ (l = [] ∨ x < N)
theorem OldB.of {w : World} {v : Value} {l : List Int} (h : U8s w v l) : OldB w.heap.size w v l := by
  obtain ⟨x, h⟩ := h
  rcases h with ⟨rfl, h2⟩ | ⟨h1, o, c, h2, h3, h4, h5, h6⟩
  · exact ⟨0, Or.inl ⟨rfl, h2⟩, Or.inl rfl⟩
  · exact ⟨x, Or.inr ⟨h1, o, c, h2, h3, h4, h5, h6⟩, Or.inr h5⟩
theorem OldB.s {N : Nat} {w : World} {v : Value} {l : List Int} (h : OldB N w v l) : U8s w v l := h.imp fun _ h => h.1
theorem OldB.below {N : Nat} {w w' : World} {v : Value} {l : List Int} (h : OldB N w v l) (hb : Below w.heap.size w w') : OldB N w' v l := by
  obtain ⟨x, h1, h2⟩ := h
  exact ⟨x, h1.below hb, h2⟩
theorem OldB.but {N b : Nat} {w w' : World} {v : Value} {l : List Int} (h : OldB N w v l) (hb : But b w w') (hN : N ≤ b) : OldB N w' v l := by
  obtain ⟨x, h1, rfl | h2⟩ := h
  · rcases h1 with ⟨_, h2⟩ | ⟨h1, o, c, h2, h3, h4, h5, h6⟩
    · exact ⟨x, Or.inl ⟨rfl, h2⟩, Or.inl rfl⟩
    · exact ⟨x, Or.inl ⟨rfl, _, c, h4, fun h => by cases h⟩, Or.inl rfl⟩
  · exact ⟨x, h1.but hb (by omega), Or.inr h2⟩
theorem OldB.take {N : Nat} {w : World} {q : Option Addr} {c n : Nat} {l : List Int} (h : OldB N w (.slice q n c) l) (k : Nat) (hk : k ≤ l.length) : U8s w (.slice q k c) (l.take k) := by
  obtain ⟨x, h1, -⟩ := h
  exact ⟨x, h1.take k hk⟩
theorem OldB.part {N : Nat} {w : World} {q : Option Addr} {c n : Nat} {l : List Int} (h : OldB N w (.slice q n c) l) (k m : Nat) (hk : k + m ≤ l.length) : U8s w (.slice (moved q c k) m (c - k)) ((l.drop k).take m) := by
  obtain ⟨x, h1, -⟩ := h
  exact ⟨x, (h1.drop k (by omega)).take m (by rw [List.length_drop]; omega)⟩
theorem OldB.cap {N : Nat} {w : World} {q : Option Addr} {c n : Nat} {l : List Int} (h : OldB N w (.slice q n c) l) : n = l.length ∧ l.length ≤ c := by
  obtain ⟨x, h1, -⟩ := h
  rcases h1 with ⟨rfl, p, c', e, -⟩ | ⟨_, o, c', h2, _, e, _, _⟩
  · injection e with e1 e2 e3
    exact ⟨e2, Nat.zero_le _⟩
  · injection e with e1 e2 e3
    exact ⟨e2, by omega⟩
/-- A row below N while memory grows above N alone. -/
theorem OldB.keep {N : Nat} {w w' : World} {v : Value} {l : List Int} (h : OldB N w v l) (hb : Below N w w') : OldB N w' v l := by
  obtain ⟨x, h1, h2⟩ := h
  rcases h1 with ⟨rfl, h3⟩ | ⟨h1, o, c, h3, h4, h5, h6, h7⟩
  · exact ⟨x, Or.inl ⟨rfl, h3⟩, Or.inl rfl⟩
  · rcases h2 with rfl | h2
    · exact ⟨x, Or.inl ⟨rfl, _, c, h5, fun h => by cases h⟩, Or.inl rfl⟩
    · refine ⟨x, Or.inr ⟨h1, o, c, h3, h4, h5, Nat.lt_of_lt_of_le h6 hb.size, fun i hi => ?_⟩, Or.inr h2⟩
      exact (hb.cell (p := ⟨x, o + i, none⟩) h2).trans (h7 i hi)

end Go.Proofs.YtjicekblfpgkdaaDoor
