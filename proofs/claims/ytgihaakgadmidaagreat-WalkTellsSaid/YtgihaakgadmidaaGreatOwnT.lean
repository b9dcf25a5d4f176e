/-
  Tables whose rows lie in blocks of their own; With, where it is taken; the weights that are asked.
-/
import Derived.Test.YtgihaakgadmidaaGreatKnown2
import Derived.Test.YtgihaakgadmidaaGreatA2
import Derived.Test.YtgihaakgadmidaaGreatA1
namespace Go.Proofs.YtgihaakgadmidaaGreat
open Go.RowKit

/-- v points to a table of the call's own, which is empty. -/
def PtrTab (W : World) (v : Value) (w : World) : Prop := ∃ b, v = .pointer (some ⟨b, 0, none⟩) ∧ W.heap.size ≤ b ∧ Blk w b #[.int .i64 0, .int .i64 0, .slice none 0 0] 103
theorem PtrTab.below {W w w' : World} {v : Value} (h : PtrTab W v w) (hb : Below w.heap.size w w') : PtrTab W v w' := by
  obtain ⟨b, e, h1, h2⟩ := h
  exact ⟨b, e, h1, h2.keep hb⟩

/-- A row of numbers in a block of numbers. -/
def RowT (w : World) (u : Value) (l : List Int) : Prop := ∃ base, w.ownsRow base 2 1 u l.length (l.map (Value.int .i64))
/-- v is a table whose row lies in a block of its own. -/
def TabR (w : World) (v : Value) (I O : Int) (l : List Int) : Prop := ∃ u, v = .agg #[.int .i64 I, .int .i64 O, u] ∧ RowT w u l
theorem RowT.below {w w' : World} {u : Value} {l : List Int} (h : RowT w u l) (hb : Below w.heap.size w w') : RowT w' u l := by
  obtain ⟨base, h⟩ := h
  exact ⟨base, owns_below h hb⟩
theorem RowT.shape {w : World} {u : Value} {l : List Int} (h : RowT w u l) : ∃ q c, u = .slice q l.length c := by
  obtain ⟨base, h1, ⟨rfl, e⟩ | ⟨g, cap, cur, rfl, _⟩⟩ := h
  · exact ⟨none, 0, by rw [e]⟩
  · exact ⟨_, cap, rfl⟩
theorem RowT.row {w : World} {u : Value} {l : List Int} (h : RowT w u l) (hl : l.length ≤ 9223372036854775807) : I64s w u l := by
  obtain ⟨base, h⟩ := h
  exact i64s_of_owns h hl
theorem TabR.below {w w' : World} {v : Value} {I O : Int} {l : List Int} (h : TabR w v I O l) (hb : Below w.heap.size w w') : TabR w' v I O l := by
  obtain ⟨u, e, h⟩ := h
  exact ⟨u, e, h.below hb⟩
/-- What With answers where it is taken. -/
def WithR (I O : Int) (l : List Int) (v : Value) (w : World) : Prop := ∃ tv, v = .tuple #[tv, .nilIface] ∧ TabR w tv I O l
theorem WithR.below {I O : Int} {l : List Int} {v : Value} {w w' : World} (h : WithR I O l v w) (hb : Below w.heap.size w w') : WithR I O l v w' := by
  obtain ⟨tv, e, h⟩ := h
  exact ⟨tv, e, h.below hb⟩
/-- What a turn costs there. -/
theorem tat_is (I O : Int) (u : Value) (l : List Int) (x y T : Int) (w : World) (hs : 0 ≤ I ∧ I ≤ 16 ∧ 0 ≤ O ∧ O ≤ 16) (hn : (l.length : Int) = I * O) (hu : I64s w u l) (h : turnAt I O l x y = T) :
    Calls Tryz.prog 72 #[.agg #[.int .i64 I, .int .i64 O, u], .int .i64 x, .int .i64 y] w fun e w' => e = .returned (.int .i64 T) ∧ Below w.heap.size w w' := by
  subst h
  exact tat_any I O u l x y w hs hn hu

end Go.Proofs.YtgihaakgadmidaaGreat
