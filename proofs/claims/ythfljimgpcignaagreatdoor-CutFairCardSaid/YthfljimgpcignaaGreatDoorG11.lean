/-
  Errors as they lie in memory: Faults round an Errno; and the document's own word of them.
-/
import Derived.Test.YthfljimgpcignaaGreatDoorProg
import Derived.WalkKit
namespace Go.Proofs.YthfljimgpcignaaGreatDoor
open Go.RowKit

/-- v is an error: Faults, the outermost first, by their parts and numbers, and the Errno e within. -/
def ErrV (w : World) : Value → List (ByteArray × Int) → Int → Prop
  | v, [], e => v = .iface 59 (.int .i64 e)
  | v, (p, n) :: r, e => ∃ (b : Nat) (u : Value), v = .iface 60 (.pointer (some ⟨b, 0, none⟩)) ∧ w.cell? ⟨b, 0, none⟩ = some (.string p) ∧ w.cell? ⟨b, 1, none⟩ = some (.int .i64 n) ∧ w.cell? ⟨b, 2, none⟩ = some u ∧ ErrV w u r e
theorem ErrV.below {w w' : World} (hb : Below w.heap.size w w') : ∀ {v : Value} {ps : List (ByteArray × Int)} {e : Int}, ErrV w v ps e → ErrV w' v ps e
  | _, [], _, h => h
  | _, _ :: _, _, ⟨b, u, h0, h1, h2, h3, h4⟩ => by
    have l1 := World.block_lt_of_cell? w _ h1
    have l2 := World.block_lt_of_cell? w _ h2
    have l3 := World.block_lt_of_cell? w _ h3
    exact ⟨b, u, h0, (hb.cell l1).trans h1, (hb.cell l2).trans h2, (hb.cell l3).trans h3, ErrV.below hb h4⟩

/-- v is a Wrong, by its parts and Errno: the row of parts lies in memory. -/
def WrongV (w : World) (v : Value) (ps : List (ByteArray × Int)) (e : Int) : Prop :=
  ∃ sv, v = .agg #[sv, .int .i64 e] ∧ ((ps = [] ∧ sv = .slice none 0 0) ∨
    (ps.length ≤ 9223372036854775807 ∧ ∃ b o c, sv = .slice (some ⟨b, o, none⟩) ps.length c ∧ (∀ i (h : i < ps.length), w.cell? ⟨b, o + i * 2, none⟩ = some (.string ps[i].1)) ∧ (∀ i (h : i < ps.length), w.cell? ⟨b, o + i * 2 + 1, none⟩ = some (.int .i64 ps[i].2))))
theorem WrongV.below {w w' : World} (hb : Below w.heap.size w w') {v : Value} {ps : List (ByteArray × Int)} {e : Int} (h : WrongV w v ps e) : WrongV w' v ps e := by
  obtain ⟨sv, h0, h1⟩ := h
  refine ⟨sv, h0, ?_⟩
  rcases h1 with h1 | ⟨hl, b, o, c, h1, h2, h3⟩
  · exact Or.inl h1
  · refine Or.inr ⟨hl, b, o, c, h1, fun i h => ?_, fun i h => ?_⟩
    · exact (hb.cell (World.block_lt_of_cell? w _ (h2 i h))).trans (h2 i h)
    · exact (hb.cell (World.block_lt_of_cell? w _ (h3 i h))).trans (h3 i h)
/-- A Wrong's own shape: a slice, nil or not, and a number. -/
theorem WrongV.shape {w : World} {v : Value} {ps : List (ByteArray × Int)} {e : Int} (h : WrongV w v ps e) : ∃ (p : Option Addr) (n c : Nat), v = .agg #[.slice p n c, .int .i64 e] := by
  obtain ⟨sv, rfl, ⟨_, rfl⟩ | ⟨_, b, o, c, rfl, _⟩⟩ := h
  · exact ⟨none, 0, 0, rfl⟩
  · exact ⟨_, _, _, rfl⟩

end Go.Proofs.YthfljimgpcignaaGreatDoor

/-
  The document's own At: a Wrong of one part.
-/
namespace Go.Proofs.YthfljimgpcignaaGreatDoor
open Go.RowKit

/-- The world behind the document's own At: a Wrong's two cells, and its one part. -/
def atWorld (p : ByteArray) (n e : Int) (w : World) : World := (w.alloc (.cells #[.slice (some ⟨w.heap.size + 1, 0, none⟩) 1 1, .int .i64 e] 28)).alloc (.cells #[.string p, .int .i64 n] 66)
theorem atWorld_below (p : ByteArray) (n e : Int) (w : World) : Below w.heap.size w (atWorld p n e w) := ((Below.refl _ _).alloc (Nat.le_refl _) _).alloc (by simp) _
theorem atWorld_size (p : ByteArray) (n e : Int) (w : World) : (atWorld p n e w).heap.size = w.heap.size + 1 + 1 := by simp [atWorld]
theorem atWorld_wrong (p : ByteArray) (n e : Int) (w : World) : WrongV (atWorld p n e w) (.agg #[.slice (some ⟨w.heap.size + 1, 0, none⟩) 1 1, .int .i64 e]) [(p, n)] e := by
  refine ⟨_, rfl, Or.inr ⟨by simp, w.heap.size + 1, 0, 1, rfl, fun i h => ?_, fun i h => ?_⟩⟩
  · obtain rfl : i = 0 := by simpa using h
    simp [atWorld]
  · obtain rfl : i = 0 := by simpa using h
    simp [atWorld]
theorem at_any (p : ByteArray) (n e : Int) (w : World) :
    Calls Tryz.prog 16 #[.string p, .int .i64 n, .int .i64 e] w fun ev w' => ev = .returned (.agg #[.slice (some ⟨w.heap.size + 1, 0, none⟩) 1 1, .int .i64 e]) ∧ w' = (w.alloc (.cells #[.slice (some ⟨w.heap.size + 1, 0, none⟩) 1 1, .int .i64 e] 28)).alloc (.cells #[.string p, .int .i64 n] 66) := by
  go_enter Tryz.func16, Tryz.ntmps16
  go_wp2
  exact bodyPost_ret (v := .agg #[.slice (some ⟨w.heap.size + 1, 0, none⟩) 1 1, .int .i64 e]) (by simp [results, Tryz.results16, go_sem]) rfl ⟨rfl, rfl⟩

end Go.Proofs.YthfljimgpcignaaGreatDoor
