/-
  Heaps as they lie in memory; what stays where some blocks are written.
-/
import Derived.Test.YtleheaffipokfaaDoorHpM
import Derived.Test.YtleheaffipokfaaDoorCarry
import Derived.Test.YtleheaffipokfaaDoorI64
import Derived.Test.YtleheaffipokfaaDoorRows1
import Derived.Lib.Hide
import Derived.Laws.AppendOwn
import Derived.Laws.OwnMore
namespace Go.Proofs.YtleheaffipokfaaDoor
open Go.RowKit

/-! ### what stays -/
/-- The blocks in which P holds are as they were. -/
structure Keep (P : Nat → Prop) (w w' : World) : Prop where
  os : w'.os = w.os
  tape : w'.tape = w.tape
  output : w'.output = w.output
  size : w.heap.size ≤ w'.heap.size
  block : ∀ k, k < w.heap.size → P k → w'.heap[k]? = w.heap[k]?
section
variable {P Q : Nat → Prop} {w w' : World}
theorem Keep.refl (P : Nat → Prop) (w : World) : Keep P w w := ⟨rfl, rfl, rfl, Nat.le_refl _, fun _ _ _ => rfl⟩
theorem Keep.trans {u v w : World} (h : Keep P u v) (k : Keep P v w) : Keep P u w :=
  ⟨k.os.trans h.os, k.tape.trans h.tape, k.output.trans h.output, Nat.le_trans h.size k.size, fun i hi hp => (k.block i (Nat.lt_of_lt_of_le hi h.size) hp).trans (h.block i hi hp)⟩
theorem Keep.of (h : Below w.heap.size w w') : Keep P w w' := ⟨h.os, h.tape, h.output, h.size, fun k hk _ => h.block k hk⟩
theorem Keep.mono (h : Keep P w w') (hq : ∀ b, Q b → P b) : Keep Q w w' := ⟨h.os, h.tape, h.output, h.size, fun k hk hp => h.block k hk (hq k hp)⟩
theorem Keep.mono' (h : Keep P w w') (hq : ∀ b, b < w.heap.size → Q b → P b) : Keep Q w w' := ⟨h.os, h.tape, h.output, h.size, fun k hk hp => h.block k hk (hq k hk hp)⟩
theorem Keep.setCell {b : Nat} (h : Keep P w w') (hb : ¬ P b) (o : Nat) (v : Value) : Keep P w (w'.setCell ⟨b, o, none⟩ v) :=
  h.trans ⟨rfl, rfl, rfl, by simp [World.setCell], fun k _ hp => Below.heap_setCell _ _ _ _ (by rintro rfl; exact hb hp)⟩
theorem Keep.drew (h : Keep P w w') : Keep P w w'.drew := ⟨h.os, h.tape, h.output, h.size, h.block⟩
theorem Keep.cell (h : Keep P w w') {b o : Nat} {v : Value} (hc : w.cell? ⟨b, o, none⟩ = some v) (hp : P b) : w'.cell? ⟨b, o, none⟩ = some v :=
  (World.cell?_of_block (w := w) (a := ⟨b, o, none⟩) (h.block b (World.block_lt_of_cell? w _ hc) hp)).trans hc
theorem Keep.blk (h : Keep P w w') {b : Nat} {cs : Array Value} {t : TypeId} (hk : Blk w b cs t) (hp : P b) : Blk w' b cs t := (h.block b hk.lt hp).trans hk
theorem Keep.below {B : Nat} (h : Keep P w w') (hp : ∀ b, b < B → P b) (hB : B ≤ w.heap.size) : Below B w w' := ⟨h.os, h.tape, h.output, h.size, fun k hk => h.block k (by omega) (hp k hk)⟩
theorem Keep.own (h : Keep P w w') {base : Nat} {e : TypeId} {size : Nat} {v : Value} {n : Nat} {xs : List Value} (ho : w.ownsRow base e size v n xs) (hp : ∀ g, v.ownBlock = some g → P g) : w'.ownsRow base e size v n xs := by
  refine ⟨ho.1, ?_⟩
  rcases ho.2 with h0 | ⟨g, cap, cur, rfl, h1, h2, h3⟩
  · exact Or.inl h0
  · exact Or.inr ⟨g, cap, cur, rfl, h1, (h.block g (Array.getElem?_eq_some_iff.1 h2).1 (hp g rfl)).trans h2, h3⟩
end
/-- A row's own block is no block of another type. -/
theorem own_ne_blk {w : World} {base : Nat} {e : TypeId} {size : Nat} {v : Value} {n : Nat} {xs : List Value} (h : w.ownsRow base e size v n xs) {b : Nat} {cs : Array Value} {t : TypeId} (hk : Blk w b cs t) (hne : e ≠ t) : v.ownBlock ≠ some b := by
  rcases h.2 with ⟨rfl, _⟩ | ⟨g, cap, cur, rfl, _, h4, _⟩
  · simp [Value.ownBlock]
  · simp only [Value.ownBlock, ne_eq, Option.some.injEq]
    intro e0
    subst e0
    unfold Blk at hk
    rw [hk] at h4
    injection h4 with h4
    injection h4 with _ h4
    exact hne h4.symm
/-- A row of the call's own: where it is not empty it lies in a block. -/
theorem owns_blk {w : World} {base : Nat} {e : TypeId} {size : Nat} {v : Value} {n : Nat} {xs : List Value} (h : w.ownsRow base e size v n xs) : (v = .slice none 0 0 ∧ n = 0) ∨ ∃ g c cur, v = .slice (some ⟨g, 0, none⟩) n c ∧ Blk w g cur e ∧ n ≤ c ∧ c ≤ maxLen ∧ cur.size = c * size ∧ cur.toList.take (n * size) = xs := by
  rcases h.2 with h0 | ⟨g, cap, cur, rfl, _, h2, h3, h4, h5, h6⟩
  · exact Or.inl h0
  · exact Or.inr ⟨g, cap, cur, rfl, h2, h3, h4, h5, h6⟩

/-! ### rows of keys and costs -/
def flatI : List It → List Value
  | [] => []
  | x :: r => .int .i64 x.1 :: .int .i64 x.2 :: flatI r
theorem flatI_len (R : List It) : (flatI R).length = R.length * 2 := by
  induction R with
  | nil => rfl
  | cons x r ih => simp only [flatI, List.length_cons, ih]; omega
theorem flatI_at : ∀ (R : List It) (i : Nat) (x : It), R[i]? = some x → (flatI R)[i * 2]? = some (.int .i64 x.1) ∧ (flatI R)[i * 2 + 1]? = some (.int .i64 x.2)
  | [], i, x, h => by simp at h
  | y :: r, 0, x, h => by simp at h; subst h; exact ⟨rfl, rfl⟩
  | y :: r, i + 1, x, h => by
    have := flatI_at r i x (by simpa using h)
    rw [show (i + 1) * 2 = i * 2 + 2 from by omega]
    exact this
theorem flatI_set : ∀ (R : List It) (i : Nat) (x : It), i < R.length → flatI (R.set i x) = ((flatI R).set (i * 2) (.int .i64 x.1)).set (i * 2 + 1) (.int .i64 x.2)
  | [], i, x, h => by simp at h
  | y :: r, 0, x, h => by simp [flatI]
  | y :: r, i + 1, x, h => by
    have := flatI_set r i x (by simpa using h)
    rw [show (i + 1) * 2 = i * 2 + 1 + 1 from by omega]
    simp only [List.set_cons_succ, flatI, this]
theorem flatI_app (R Q : List It) : flatI (R ++ Q) = flatI R ++ flatI Q := by
  induction R with
  | nil => rfl
  | cons x r ih => simp only [List.cons_append, flatI, ih]
theorem flatI_take : ∀ (R : List It) (n : Nat), (flatI R).take (n * 2) = flatI (R.take n)
  | [], n => by simp [flatI]
  | y :: r, 0 => by simp [flatI]
  | y :: r, n + 1 => by
    rw [show (n + 1) * 2 = n * 2 + 1 + 1 from by omega]
    simp only [flatI, List.take_succ_cons, flatI_take r n]

/-- A heap's pointer. -/
abbrev hp (p : Nat) : Value := .pointer (some ⟨p, 0, none⟩)
/-- A key and its cost as a value. -/
abbrev itV (x : It) : Value := .agg #[.int .i64 x.1, .int .i64 x.2]
section
variable {S T : Nat → Prop} {w w' : World} {p : Nat} {R : List It} {P : List Int} {rv pv : Value}
theorem own_put {base : Nat} {e : TypeId} {size : Nat} {g c n : Nat} {xs : List Value} (h : w.ownsRow base e size (.slice (some ⟨g, 0, none⟩) n c) n xs) (j : Nat) (x : Value) : (w.setCell ⟨g, j, none⟩ x).ownsRow base e size (.slice (some ⟨g, 0, none⟩) n c) n (xs.set j x) := (World.ownsRow.stored h j x).1
theorem own_other {base : Nat} {e : TypeId} {size : Nat} {v : Value} {n : Nat} {xs : List Value} (h : w.ownsRow base e size v n xs) {g : Nat} (hg : v.ownBlock ≠ some g) (j : Nat) (x : Value) : (w.setCell ⟨g, j, none⟩ x).ownsRow base e size v n xs :=
  h.kept (row := some g) ⟨rfl, rfl, rfl, by simp, fun i _ hi => heap_setCell_other w ⟨g, j, none⟩ i x (fun e => hi (by simp [e]))⟩ (Or.inr hg)
/-- A row's first n. -/
theorem own_cut {base : Nat} {e : TypeId} {g c n m : Nat} {R : List It} (h : w.ownsRow base e 2 (.slice (some ⟨g, 0, none⟩) n c) n (flatI R)) (hm : m ≤ n) : w.ownsRow base e 2 (.slice (some ⟨g, 0, none⟩) m c) m (flatI (R.take m)) := by
  have hl := h.1
  rw [flatI_len] at hl
  rcases h.2 with ⟨e, _⟩ | ⟨g', c', cur, e, hg, hb, h1, h2, h3, h4⟩
  · cases e
  · injection e with e1 e2 e3
    subst e3
    refine ⟨by rw [flatI_len, List.length_take]; omega, Or.inr ⟨g', c, cur, by rw [e1], hg, hb, by omega, h2, h3, ?_⟩⟩
    rw [← flatI_take, ← h4, List.take_take, show min (m * 2) (n * 2) = m * 2 from by omega]
end
end Go.Proofs.YtleheaffipokfaaDoor
