/-
  A row of bytes in a block of its own: copied, written.
-/
import Derived.Test.YtjicekblfpgkdaaDoorW4B
namespace Go.Proofs.YtjicekblfpgkdaaDoor
open Go.RowKit

/-- The bytes l begin block g, of which no one else knows. -/
def RowB (w : World) (g : Nat) (l : List Int) : Prop := ∃ cur, Blk w g cur 5 ∧ ∀ i (h : i < l.length), cur[i]? = some (.int .u8 l[i])
theorem RowB.below {w w' : World} {g : Nat} {l : List Int} (h : RowB w g l) (hb : Below w.heap.size w w') : RowB w' g l := by
  obtain ⟨cur, h1, h2⟩ := h
  exact ⟨cur, h1.keep hb, h2⟩
theorem RowB.lt {w : World} {g : Nat} {l : List Int} (h : RowB w g l) : g < w.heap.size := by
  obtain ⟨cur, h1, -⟩ := h
  exact h1.lt
theorem RowB.cell {w : World} {g : Nat} {l : List Int} (h : RowB w g l) (i : Nat) (hi : i < l.length) : w.cell? ⟨g, i, none⟩ = some (.int .u8 l[i]) := by
  obtain ⟨cur, h1, h2⟩ := h
  exact h1.cell i (h2 i hi)
theorem RowB.free {w : World} {g : Nat} {l : List Int} (h : RowB w g l) (i : Nat) : w.frozen? ⟨g, i, none⟩ = false := by
  obtain ⟨cur, h1, -⟩ := h
  exact h1.free i
theorem RowB.drew {w : World} {g : Nat} {l : List Int} (h : RowB w g l) : RowB w.drew g l := h
theorem RowB.set {w : World} {g : Nat} {l : List Int} (h : RowB w g l) (k : Nat) (c : Int) : RowB (w.setCell ⟨g, k, none⟩ (.int .u8 c)) g (l.set k c) := by
  obtain ⟨cur, h1, h2⟩ := h
  refine ⟨_, h1.set k _, fun i hi => ?_⟩
  have hi' : i < l.length := by simpa using hi
  have h3 := h2 i hi'
  rw [List.getElem_set, Array.getElem?_setIfInBounds]
  by_cases hk : k = i
  · subst hk
    have hc : k < cur.size := (Array.getElem?_eq_some_iff.1 h3).1
    rw [if_pos rfl, if_pos rfl, if_pos hc]
  · rw [if_neg hk, if_neg hk]
    exact h3
theorem RowB.u8s {w : World} {g c : Nat} {l : List Int} (h : RowB w g l) (hl : l.length ≤ c) (hc : c ≤ 9223372036854775807) {n : Nat} (hn : n = l.length) : U8s w (.slice (some ⟨g, 0, none⟩) n c) l := by
  subst hn
  exact ⟨g, Or.inr ⟨by omega, 0, c, hl, hc, rfl, h.lt, fun i hi => by rw [Nat.zero_add]; exact h.cell i hi⟩⟩
/-- A copy: append to no bytes. -/
theorem copyB (W : World) (v : Value) (l : List Int) (hv : U8s W v l) (hs : l.length ≤ 100000) (h0 : ¬ l = []) (g : Nat) :
    ∃ b c w', (Builtin.append_ #[26, 26] 26 #[.slice (some ⟨g, 0, none⟩) 0 0, v]).run Tryd.prog W = .ok (.slice (some ⟨b, 0, none⟩) l.length c) w' ∧ RowB w' b l ∧ l.length ≤ c ∧ c ≤ 9223372036854775807 ∧ W.heap.size ≤ b ∧ Below W.heap.size W w' := by
  obtain ⟨v', w', x, hr, hu, -, hb, ho⟩ := copy8 W v l hv hs g
  have ho := ho.resolve_left h0
  have hpos : 0 < l.length := by cases l with
    | nil => exact absurd rfl h0
    | cons _ _ => simp
  rcases hu with ⟨h1, -⟩ | ⟨-, o, c, h1, h2, e, h3, h4⟩
  · exact absurd h1 h0
  · rcases ho.2 with ⟨e1, e2⟩ | ⟨b, cap, cur, e1, hb1, hh, hcells⟩
    · omega
    · rw [e] at e1
      injection e1 with e1 e2 e3
      injection e1 with e1
      injection e1 with e4 e5 e6
      subst e4 e5 e3
      rw [e] at hr
      refine ⟨x, c, w', hr, ⟨cur, hh, fun i hi => ?_⟩, h1, h2, hb1, hb⟩
      have := h4 i hi
      rw [Nat.zero_add, cell_of_row w' x i cur _ _ hh] at this
      exact this

end Go.Proofs.YtjicekblfpgkdaaDoor
