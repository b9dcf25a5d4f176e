/-
  Rows of 64-bit numbers as they lie in memory.
-/
import Derived.Test.YthfljimgpcignaaGreatDoorProg
import Derived.WalkKit
import Derived.Laws.AppendOwn
import Derived.Laws.OwnMore
import Derived.Test.YthfljimgpcignaaGreatDoorG1
import Derived.Test.YthfljimgpcignaaGreatDoorCarry
import Derived.Lib.Hide
namespace Go.Proofs.YthfljimgpcignaaGreatDoor
open Go.RowKit

/-- The value v is a row of 64-bit numbers, read in world w. -/
def I64s (w : World) (v : Value) (l : List Int) : Prop :=
  (l = [] ∧ ∃ p c, v = .slice p 0 c ∧ (p = none → c = 0)) ∨ (l.length ≤ 9223372036854775807 ∧ ∃ b o c, l.length ≤ c ∧ c ≤ 9223372036854775807 ∧ v = .slice (some ⟨b, o, none⟩) l.length c ∧ ∀ i (h : i < l.length), w.cell? ⟨b, o + i, none⟩ = some (.int .i64 l[i]))
/-- All of them are 64-bit numbers. -/
def In64 (l : List Int) : Prop := ∀ x ∈ l, -9223372036854775808 ≤ x ∧ x ≤ 9223372036854775807

theorem I64s.shape {w : World} {v : Value} {l : List Int} (h : I64s w v l) : ∃ q c, v = .slice q l.length c := by
  rcases h with ⟨rfl, p, c, rfl, -⟩ | ⟨_, b, o, c, -, -, rfl, _⟩
  · exact ⟨p, c, rfl⟩
  · exact ⟨_, c, rfl⟩
theorem I64s.below {w w' : World} {v : Value} {l : List Int} (h : I64s w v l) (hb : Below w.heap.size w w') : I64s w' v l := by
  rcases h with h | ⟨hl, b, o, c, h1, h2, rfl, hc⟩
  · exact Or.inl h
  · exact Or.inr ⟨hl, b, o, c, h1, h2, rfl, fun i hi => (hb.cell (World.block_lt_of_cell? w _ (hc i hi))).trans (hc i hi)⟩

end Go.Proofs.YthfljimgpcignaaGreatDoor

/-
  Rows of numbers: kept, copied, cut.
-/
namespace Go.Proofs.YthfljimgpcignaaGreatDoor
open Go.RowKit

section
variable {P : Program} {ops : Array Oper} {Q : Exit → Act → World → Prop} {a : Act} {w w' : World} {rest : List Oper} {o : Oper}
/-- An append whose run is known, guarded or not. -/
theorem wpList_append_run (hw : Region.wanted o (yielded ops a.tmps) = true) (s x : Operand) (t : TypeId) (ho : o.op = .call { callee := .builtin .append, args := #[s, x], argTypes := #[t, t] })
    (v sv v' : Value) (hs : a.eval s = v) (hx : a.eval x = sv) (hr : (Builtin.append_ #[t, t] o.type #[v, sv]).run P w = .ok v' w') (h : wpList P ops Q rest (a.put o.dst v') w') : wpList P ops Q (o :: rest) a w :=
  wpList_step fun K hK => by
    rw [if_pos hw]
    unfold Oper.wp execOp
    simp only [ho, resolve, invoke, builtin, Sem.run_bind, Sem.run_pure, Result.andThen_ok, List.map_toArray, List.map_cons, List.map_nil, hs, hx, hr]
    exact hK _ _ h
end

theorem info64 : (Tryz.prog.info? 2).map (fun i => (i.zero, i.size, i.bytes)) = some (some (.int .i64 0), 1, 8) := by kernel_rfl

/-- A row that the call owns is a row of numbers. -/
theorem i64s_of_owns {w : World} {base : Nat} {v : Value} {n : Nat} {l : List Int} (h : w.ownsRow base 2 1 v n (l.map (Value.int .i64))) (hl : l.length ≤ 9223372036854775807) : I64s w v l := by
  have hn : n = l.length := by have := h.1; simp at this; omega
  subst hn
  rcases h.2 with ⟨rfl, e⟩ | ⟨g, cap, cur, rfl, _, _, hnc, hcm, _, _⟩
  · have : l = [] := List.length_eq_zero_iff.1 e
    subst this
    exact Or.inl ⟨rfl, none, 0, rfl, fun _ => rfl⟩
  · refine Or.inr ⟨hl, g, 0, cap, hnc, by unfold maxLen at hcm; omega, rfl, fun i hi => ?_⟩
    rw [Nat.zero_add, h.cellAt i (by omega)]
    simp [hi]

/-- A row of numbers, cut: what is ahead. -/
theorem I64s.take {w : World} {b o c : Nat} {l : List Int} (h : ∀ i (h : i < l.length), w.cell? ⟨b, o + i, none⟩ = some (.int .i64 l[i])) (hl : l.length ≤ c) (hc : c ≤ 9223372036854775807) (k : Nat) (hk : k ≤ l.length) :
    I64s w (.slice (some ⟨b, o, none⟩) k c) (l.take k) := by
  have e : (l.take k).length = k := by rw [List.length_take]; omega
  refine Or.inr ⟨by omega, b, o, c, by omega, hc, by rw [e], fun i hi => ?_⟩
  rw [List.getElem_take]
  exact h i (by omega)
/-- .. and what is behind. -/
theorem I64s.drop {w : World} {b o c : Nat} {l : List Int} (h : ∀ i (h : i < l.length), w.cell? ⟨b, o + i, none⟩ = some (.int .i64 l[i])) (hl : l.length ≤ c) (hc : c ≤ 9223372036854775807) (k : Nat) (hk : k ≤ l.length) :
    I64s w (.slice (some ⟨b, o + k, none⟩) (l.length - k) (c - k)) (l.drop k) := by
  have e : (l.drop k).length = l.length - k := List.length_drop
  refine Or.inr ⟨by omega, b, o + k, c - k, by omega, by omega, by rw [e], fun i hi => ?_⟩
  rw [List.getElem_drop, Nat.add_assoc]
  exact h (k + i) (by omega)

end Go.Proofs.YthfljimgpcignaaGreatDoor

/-
  Heaps as they lie in memory; what stays where some blocks are written.
-/
namespace Go.Proofs.YthfljimgpcignaaGreatDoor
open Go.RowKit

/-! ### what stays -/
/-- The blocks in which P holds are as they were. -/
structure Keep (P : Nat → Prop) (w w' : World) : Prop where
  os : w'.os = w.os
  tape : w'.tape = w.tape
  output : w'.output = w.output
  size : w.heap.size ≤ w'.heap.size
  block : ∀ k, k < w.heap.size → P k → w'.heap[k]? = w.heap[k]?
section
variable {P Q : Nat → Prop} {w w' : World}
theorem Keep.refl (P : Nat → Prop) (w : World) : Keep P w w := ⟨rfl, rfl, rfl, Nat.le_refl _, fun _ _ _ => rfl⟩
theorem Keep.trans {u v w : World} (h : Keep P u v) (k : Keep P v w) : Keep P u w :=
  ⟨k.os.trans h.os, k.tape.trans h.tape, k.output.trans h.output, Nat.le_trans h.size k.size, fun i hi hp => (k.block i (Nat.lt_of_lt_of_le hi h.size) hp).trans (h.block i hi hp)⟩
theorem Keep.of (h : Below w.heap.size w w') : Keep P w w' := ⟨h.os, h.tape, h.output, h.size, fun k hk _ => h.block k hk⟩
theorem Keep.mono (h : Keep P w w') (hq : ∀ b, Q b → P b) : Keep Q w w' := ⟨h.os, h.tape, h.output, h.size, fun k hk hp => h.block k hk (hq k hp)⟩
theorem Keep.mono' (h : Keep P w w') (hq : ∀ b, b < w.heap.size → Q b → P b) : Keep Q w w' := ⟨h.os, h.tape, h.output, h.size, fun k hk hp => h.block k hk (hq k hk hp)⟩
theorem Keep.setCell {b : Nat} (h : Keep P w w') (hb : ¬ P b) (o : Nat) (v : Value) : Keep P w (w'.setCell ⟨b, o, none⟩ v) :=
  h.trans ⟨rfl, rfl, rfl, by simp [World.setCell], fun k _ hp => Below.heap_setCell _ _ _ _ (by rintro rfl; exact hb hp)⟩
theorem Keep.drew (h : Keep P w w') : Keep P w w'.drew := ⟨h.os, h.tape, h.output, h.size, h.block⟩
theorem Keep.cell (h : Keep P w w') {b o : Nat} {v : Value} (hc : w.cell? ⟨b, o, none⟩ = some v) (hp : P b) : w'.cell? ⟨b, o, none⟩ = some v :=
  (World.cell?_of_block (w := w) (a := ⟨b, o, none⟩) (h.block b (World.block_lt_of_cell? w _ hc) hp)).trans hc
theorem Keep.blk (h : Keep P w w') {b : Nat} {cs : Array Value} {t : TypeId} (hk : Blk w b cs t) (hp : P b) : Blk w' b cs t := (h.block b hk.lt hp).trans hk
theorem Keep.below {B : Nat} (h : Keep P w w') (hp : ∀ b, b < B → P b) (hB : B ≤ w.heap.size) : Below B w w' := ⟨h.os, h.tape, h.output, h.size, fun k hk => h.block k (by omega) (hp k hk)⟩
theorem Keep.own (h : Keep P w w') {base : Nat} {e : TypeId} {size : Nat} {v : Value} {n : Nat} {xs : List Value} (ho : w.ownsRow base e size v n xs) (hp : ∀ g, v.ownBlock = some g → P g) : w'.ownsRow base e size v n xs := by
  refine ⟨ho.1, ?_⟩
  rcases ho.2 with h0 | ⟨g, cap, cur, rfl, h1, h2, h3⟩
  · exact Or.inl h0
  · exact Or.inr ⟨g, cap, cur, rfl, h1, (h.block g (Array.getElem?_eq_some_iff.1 h2).1 (hp g rfl)).trans h2, h3⟩
end
/-- A row's own block is no block of another type. -/
theorem own_ne_blk {w : World} {base : Nat} {e : TypeId} {size : Nat} {v : Value} {n : Nat} {xs : List Value} (h : w.ownsRow base e size v n xs) {b : Nat} {cs : Array Value} {t : TypeId} (hk : Blk w b cs t) (hne : e ≠ t) : v.ownBlock ≠ some b := by
  rcases h.2 with ⟨rfl, _⟩ | ⟨g, cap, cur, rfl, _, h4, _⟩
  · simp [Value.ownBlock]
  · simp only [Value.ownBlock, ne_eq, Option.some.injEq]
    intro e0
    subst e0
    unfold Blk at hk
    rw [hk] at h4
    injection h4 with h4
    injection h4 with _ h4
    exact hne h4.symm
/-- A row of the call's own: where it is not empty it lies in a block. -/
theorem owns_blk {w : World} {base : Nat} {e : TypeId} {size : Nat} {v : Value} {n : Nat} {xs : List Value} (h : w.ownsRow base e size v n xs) : (v = .slice none 0 0 ∧ n = 0) ∨ ∃ g c cur, v = .slice (some ⟨g, 0, none⟩) n c ∧ Blk w g cur e ∧ n ≤ c ∧ c ≤ maxLen ∧ cur.size = c * size ∧ cur.toList.take (n * size) = xs := by
  rcases h.2 with h0 | ⟨g, cap, cur, rfl, _, h2, h3, h4, h5, h6⟩
  · exact Or.inl h0
  · exact Or.inr ⟨g, cap, cur, rfl, h2, h3, h4, h5, h6⟩

/-! ### rows of keys and costs -/
def flatI : List It → List Value
  | [] => []
  | x :: r => .int .i64 x.1 :: .int .i64 x.2 :: flatI r
theorem flatI_len (R : List It) : (flatI R).length = R.length * 2 := by
  induction R with
  | nil => rfl
  | cons x r ih => simp only [flatI, List.length_cons, ih]; omega
theorem flatI_at : ∀ (R : List It) (i : Nat) (x : It), R[i]? = some x → (flatI R)[i * 2]? = some (.int .i64 x.1) ∧ (flatI R)[i * 2 + 1]? = some (.int .i64 x.2)
  | [], i, x, h => by simp at h
  | y :: r, 0, x, h => by simp at h; subst h; exact ⟨rfl, rfl⟩
  | y :: r, i + 1, x, h => by
    have := flatI_at r i x (by simpa using h)
    rw [show (i + 1) * 2 = i * 2 + 2 from by omega]
    exact this
theorem flatI_set : ∀ (R : List It) (i : Nat) (x : It), i < R.length → flatI (R.set i x) = ((flatI R).set (i * 2) (.int .i64 x.1)).set (i * 2 + 1) (.int .i64 x.2)
  | [], i, x, h => by simp at h
  | y :: r, 0, x, h => by simp [flatI]
  | y :: r, i + 1, x, h => by
    have := flatI_set r i x (by simpa using h)
    rw [show (i + 1) * 2 = i * 2 + 1 + 1 from by omega]
    simp only [List.set_cons_succ, flatI, this]
theorem flatI_app (R Q : List It) : flatI (R ++ Q) = flatI R ++ flatI Q := by
  induction R with
  | nil => rfl
  | cons x r ih => simp only [List.cons_append, flatI, ih]
theorem flatI_take : ∀ (R : List It) (n : Nat), (flatI R).take (n * 2) = flatI (R.take n)
  | [], n => by simp [flatI]
  | y :: r, 0 => by simp [flatI]
  | y :: r, n + 1 => by
    rw [show (n + 1) * 2 = n * 2 + 1 + 1 from by omega]
    simp only [flatI, List.take_succ_cons, flatI_take r n]

/-- A heap's pointer. -/
abbrev hp (p : Nat) : Value := .pointer (some ⟨p, 0, none⟩)
/-- A key and its cost as a value. -/
abbrev itV (x : It) : Value := .agg #[.int .i64 x.1, .int .i64 x.2]
section
variable {S T : Nat → Prop} {w w' : World} {p : Nat} {R : List It} {P : List Int} {rv pv : Value}
theorem own_put {base : Nat} {e : TypeId} {size : Nat} {g c n : Nat} {xs : List Value} (h : w.ownsRow base e size (.slice (some ⟨g, 0, none⟩) n c) n xs) (j : Nat) (x : Value) : (w.setCell ⟨g, j, none⟩ x).ownsRow base e size (.slice (some ⟨g, 0, none⟩) n c) n (xs.set j x) := (World.ownsRow.stored h j x).1
theorem own_other {base : Nat} {e : TypeId} {size : Nat} {v : Value} {n : Nat} {xs : List Value} (h : w.ownsRow base e size v n xs) {g : Nat} (hg : v.ownBlock ≠ some g) (j : Nat) (x : Value) : (w.setCell ⟨g, j, none⟩ x).ownsRow base e size v n xs :=
  h.kept (row := some g) ⟨rfl, rfl, rfl, by simp, fun i _ hi => heap_setCell_other w ⟨g, j, none⟩ i x (fun e => hi (by simp [e]))⟩ (Or.inr hg)
/-- A row's first n. -/
theorem own_cut {base : Nat} {e : TypeId} {g c n m : Nat} {R : List It} (h : w.ownsRow base e 2 (.slice (some ⟨g, 0, none⟩) n c) n (flatI R)) (hm : m ≤ n) : w.ownsRow base e 2 (.slice (some ⟨g, 0, none⟩) m c) m (flatI (R.take m)) := by
  have hl := h.1
  rw [flatI_len] at hl
  rcases h.2 with ⟨e, _⟩ | ⟨g', c', cur, e, hg, hb, h1, h2, h3, h4⟩
  · cases e
  · injection e with e1 e2 e3
    subst e3
    refine ⟨by rw [flatI_len, List.length_take]; omega, Or.inr ⟨g', c, cur, by rw [e1], hg, hb, by omega, h2, h3, ?_⟩⟩
    rw [← flatI_take, ← h4, List.take_take, show min (m * 2) (n * 2) = m * 2 from by omega]
end
end Go.Proofs.YthfljimgpcignaaGreatDoor
