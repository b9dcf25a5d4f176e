/-
  The document's nets that change: Set, Bend.
-/
import Derived.Test.YtlfihaajnjeaeaaE3
namespace Go.Proofs.Ytlfihaajnjeaeaa
open Go.RowKit

theorem MutR.oldR {w w' : World} {v : Value} (h : MutR w v) (hb : Below w.heap.size w w') : MutR w' v := by
  obtain ⟨base, n, xs, h | h⟩ := h
  · exact ⟨base, n, xs, Or.inl (owns_below h hb)⟩
  · exact ⟨base, n, xs, Or.inr (owns_below h hb)⟩
/-- Where a block is written in which no text lies. -/
theorem wrong_setBlk {w : World} {v : Value} {ps : List (ByteArray × Int)} {e : Int} (h : WrongV w v ps e) {k : Nat} {cs : Array Value} {t : TypeId} (hk : Blk w k cs t) (hs : ∀ s : ByteArray, Value.string s ∉ cs.toList) (o : Nat) (x : Value) : WrongV (w.setCell ⟨k, o, none⟩ x) v ps e := by
  obtain ⟨sv, h0, h1⟩ := h
  refine ⟨sv, h0, ?_⟩
  rcases h1 with h1 | ⟨hl, b, o', c, h1, h2, h3⟩
  · exact Or.inl h1
  · have hne : ∀ i (h : i < ps.length), b ≠ k := by
      rintro i hi rfl
      have h4 := h2 i hi
      rw [cell_of_row w b _ cs t (0, 0) hk] at h4
      exact hs _ (List.mem_of_getElem? (by rw [Array.getElem?_toList]; exact h4))
    refine Or.inr ⟨hl, b, o', c, h1, fun i hi => ?_, fun i hi => ?_⟩
    · exact (World.cell?_of_block (w := w) (a := ⟨b, o' + i * 2, none⟩) (heap_setCell_other w ⟨k, o, none⟩ b x (hne i hi))).trans (h2 i hi)
    · exact (World.cell?_of_block (w := w) (a := ⟨b, o' + i * 2 + 1, none⟩) (heap_setCell_other w ⟨k, o, none⟩ b x (hne i hi))).trans (h3 i hi)
theorem owns_avQ {Q : Nat → Prop} {w : World} {base : Nat} {e : TypeId} {size : Nat} {v : Value} {n : Nat} {xs : List Value} (h : w.ownsRow base e size v n xs) (hQ : ∀ b cs, Blk w b cs e → Q b) : Av Q v := by
  rcases h.2 with ⟨rfl, _⟩ | ⟨g, cap, cur, rfl, _, hh, _⟩
  · intro b o s n c e h0
    injection e with e1
    cases e1
  · intro b o s n c e h0
    injection e with e1
    injection e1 with e1
    injection e1 with e1
    subst e1
    exact hQ g cur hh
/-- Q holds of the blocks of a net's own kinds. -/
def OwnQ (Q : Nat → Prop) (w : World) : Prop := ∀ b cs t, Blk w b cs t → 72 ≠ t → 107 ≠ t → 26 ≠ t → Q b
theorem OwnN.netA {Q : Nat → Prop} {w : World} (hq : OwnQ Q w) {base : Nat} {n : NetD} {uv ua ut : Value} {us : List Value} (h : OwnN w base n uv ua ut us) (hn : GrN n) : NetA Q w (.agg #[uv, ua, ut]) n := by
  have h1 := hn.few.v
  have h2 := hn.few.a
  have h3 := hn.few.t
  refine ⟨uv, ua, ut, rfl, ⟨tris_of_owns h.v (by omega), owns_avQ h.v (fun b cs hk => hq b cs _ hk (by decide) (by decide) (by decide))⟩, ⟨tris_of_owns h.a (by omega), owns_avQ h.a (fun b cs hk => hq b cs _ hk (by decide) (by decide) (by decide))⟩, tabs_of_rowsP h.t (fun b hb => ?_) ⟨h.r.1, fun i t u e1 e2 => ?_⟩ (by omega)⟩
  · obtain ⟨q, c, e⟩ := own_shape h.t
    rcases h.t.2 with ⟨e0, _⟩ | ⟨g, cap, cur, e0, _, hh, _⟩
    · rw [e0] at hb; cases hb
    · rw [e0] at hb
      injection hb with hb
      subst hb
      exact hq _ _ _ (show Blk w g cur _ from hh) (by decide) (by decide) (by decide)
  · obtain ⟨b', hr⟩ := h.r.2 i t u e1 e2
    have h4 := hn.few.c t (List.mem_of_getElem? e1)
    exact ⟨i64s_of_owns hr (by omega), owns_avQ hr (fun b cs hk => hq b cs _ hk (by decide) (by decide) (by decide))⟩
section
variable {n : NetD} {w : World} {v : Value}

end

end Go.Proofs.Ytlfihaajnjeaeaa

/-
  The document's nets that change: Bend.
-/
namespace Go.Proofs.Ytlfihaajnjeaeaa
open Go.RowKit

/-- One table is put into a net of one's own. -/
theorem OwnN.tabT {w : World} {base : Nat} {n : NetD} {uv ua : Value} {us : List Value} {q : Option Addr} {c : Nat} (h : OwnN w base n uv ua (.slice q n.t.length c) us) {k : Nat} (hk : k < n.t.length) {T : Tab} {u : Value} (hu : RowI w u T.2.2) :
    ∃ g cs, q = some ⟨g, 0, none⟩ ∧ base ≤ g ∧ Blk w g cs 90 ∧ (∃ x, w.cell? ⟨g, k * 3, none⟩ = some x) ∧ (∃ x, w.cell? ⟨g, k * 3 + 1, none⟩ = some x) ∧ (∃ x, w.cell? ⟨g, k * 3 + 2, none⟩ = some x) ∧
      OwnN (((w.setCell ⟨g, k * 3, none⟩ (.int .i64 T.1)).setCell ⟨g, k * 3 + 1, none⟩ (.int .i64 T.2.1)).setCell ⟨g, k * 3 + 2, none⟩ u) base ⟨n.v, n.a, n.t.set k T⟩ uv ua (.slice q n.t.length c) (us.set k u) := by
  obtain ⟨g, cs, e1, hgb, hb, x0, x1, x2, ho⟩ := owns_put3 h.t hk (.int .i64 T.1) (.int .i64 T.2.1) u
  subst e1
  have hku : k < us.length := by rw [h.r.1]; exact hk
  obtain ⟨y0, y1, y2⟩ := flatB_at n.t us k hk hku
  have hr : ∀ (v : Value) (m : List Int), RowI w v m → RowI (((w.setCell ⟨g, k * 3, none⟩ (.int .i64 T.1)).setCell ⟨g, k * 3 + 1, none⟩ (.int .i64 T.2.1)).setCell ⟨g, k * 3 + 2, none⟩ u) v m := fun v m hv =>
    ((hv.set hb (by decide) _ _).set (hb.set _ _) (by decide) _ _).set ((hb.set _ _).set _ _) (by decide) _ _
  refine ⟨g, cs, rfl, hgb, hb, ⟨_, x0.trans y0⟩, ⟨_, x1.trans y1⟩, ⟨_, x2.trans y2⟩, ⟨?_, ?_, ?_, ?_, fun i t v h1 h2 => ?_⟩⟩
  · exact owns_set (owns_set (owns_set h.v hb (by decide) _ _) (hb.set _ _) (by decide) _ _) ((hb.set _ _).set _ _) (by decide) _ _
  · exact owns_set (owns_set (owns_set h.a hb (by decide) _ _) (hb.set _ _) (by decide) _ _) ((hb.set _ _).set _ _) (by decide) _ _
  · show World.ownsRow _ _ _ _ _ (n.t.set k T).length (flatB (n.t.set k T) (us.set k u))
    rw [List.length_set, flatB_setT n.t us k hk T u h.r.1]
    exact ho
  · show (us.set k u).length = (n.t.set k T).length
    simpa using h.r.1
  · by_cases hik : i = k
    · subst hik
      rw [List.getElem?_set_self hku] at h2
      rw [List.getElem?_set_self hk] at h1
      injection h1 with h1
      injection h2 with h2
      subst h1
      subst h2
      exact hr _ _ hu
    · rw [List.getElem?_set_ne (Ne.symm hik)] at h1 h2
      exact hr _ _ (h.r.2 i t v h1 h2)
section
variable {n : NetD} {w : World} {v : Value}

end

end Go.Proofs.Ytlfihaajnjeaeaa

/-
  The document's nets that change: Bend, where it is refused.
-/
namespace Go.Proofs.Ytlfihaajnjeaeaa
open Go.RowKit

section
variable {n : NetD} {w : World} {v : Value}

end

end Go.Proofs.Ytlfihaajnjeaeaa

/-
  The document's nets that change: Bend, where it is done.
-/
namespace Go.Proofs.Ytlfihaajnjeaeaa
open Go.RowKit

section
variable {n : NetD} {w : World} {v : Value}

end

end Go.Proofs.Ytlfihaajnjeaeaa
