/-
  Heaps as they lie in memory; what stays where some blocks are written.
-/
import Derived.Test.YtmbeelakkiodaaaHpM
import Derived.Test.YtmbeelakkiodaaaCarry
import Derived.Test.YtmbeelakkiodaaaI64
import Derived.Test.YtmbeelakkiodaaaRows1
import Derived.Lib.Hide
import Derived.Laws.AppendOwn
import Derived.Laws.OwnMore
namespace Go.Proofs.Ytmbeelakkiodaaa
open Go.RowKit

/-! ### what stays -/
/-- The blocks in which P holds are as they were. -/
structure Keep (P : Nat → Prop) (w w' : World) : Prop where
  os : w'.os = w.os
  tape : w'.tape = w.tape
  output : w'.output = w.output
  size : w.heap.size ≤ w'.heap.size
  block : ∀ k, k < w.heap.size → P k → w'.heap[k]? = w.heap[k]?
section
variable {P Q : Nat → Prop} {w w' : World}
theorem Keep.refl (P : Nat → Prop) (w : World) : Keep P w w := ⟨rfl, rfl, rfl, Nat.le_refl _, fun _ _ _ => rfl⟩
theorem Keep.trans {u v w : World} (h : Keep P u v) (k : Keep P v w) : Keep P u w :=
  ⟨k.os.trans h.os, k.tape.trans h.tape, k.output.trans h.output, Nat.le_trans h.size k.size, fun i hi hp => (k.block i (Nat.lt_of_lt_of_le hi h.size) hp).trans (h.block i hi hp)⟩
theorem Keep.of (h : Below w.heap.size w w') : Keep P w w' := ⟨h.os, h.tape, h.output, h.size, fun k hk _ => h.block k hk⟩
theorem Keep.mono (h : Keep P w w') (hq : ∀ b, Q b → P b) : Keep Q w w' := ⟨h.os, h.tape, h.output, h.size, fun k hk hp => h.block k hk (hq k hp)⟩
theorem Keep.mono' (h : Keep P w w') (hq : ∀ b, b < w.heap.size → Q b → P b) : Keep Q w w' := ⟨h.os, h.tape, h.output, h.size, fun k hk hp => h.block k hk (hq k hk hp)⟩
theorem Keep.setCell {b : Nat} (h : Keep P w w') (hb : ¬ P b) (o : Nat) (v : Value) : Keep P w (w'.setCell ⟨b, o, none⟩ v) :=
  h.trans ⟨rfl, rfl, rfl, by simp [World.setCell], fun k _ hp => Below.heap_setCell _ _ _ _ (by rintro rfl; exact hb hp)⟩
theorem Keep.drew (h : Keep P w w') : Keep P w w'.drew := ⟨h.os, h.tape, h.output, h.size, h.block⟩
theorem Keep.cell (h : Keep P w w') {b o : Nat} {v : Value} (hc : w.cell? ⟨b, o, none⟩ = some v) (hp : P b) : w'.cell? ⟨b, o, none⟩ = some v :=
  (World.cell?_of_block (w := w) (a := ⟨b, o, none⟩) (h.block b (World.block_lt_of_cell? w _ hc) hp)).trans hc
theorem Keep.blk (h : Keep P w w') {b : Nat} {cs : Array Value} {t : TypeId} (hk : Blk w b cs t) (hp : P b) : Blk w' b cs t := (h.block b hk.lt hp).trans hk
theorem Keep.below {B : Nat} (h : Keep P w w') (hp : ∀ b, b < B → P b) (hB : B ≤ w.heap.size) : Below B w w' := ⟨h.os, h.tape, h.output, h.size, fun k hk => h.block k (by omega) (hp k hk)⟩
theorem Keep.own (h : Keep P w w') {base : Nat} {e : TypeId} {size : Nat} {v : Value} {n : Nat} {xs : List Value} (ho : w.ownsRow base e size v n xs) (hp : ∀ g, v.ownBlock = some g → P g) : w'.ownsRow base e size v n xs := by
  refine ⟨ho.1, ?_⟩
  rcases ho.2 with h0 | ⟨g, cap, cur, rfl, h1, h2, h3⟩
  · exact Or.inl h0
  · exact Or.inr ⟨g, cap, cur, rfl, h1, (h.block g (Array.getElem?_eq_some_iff.1 h2).1 (hp g rfl)).trans h2, h3⟩
end
/-- A row's own block is no block of another type. -/
theorem own_ne_blk {w : World} {base : Nat} {e : TypeId} {size : Nat} {v : Value} {n : Nat} {xs : List Value} (h : w.ownsRow base e size v n xs) {b : Nat} {cs : Array Value} {t : TypeId} (hk : Blk w b cs t) (hne : e ≠ t) : v.ownBlock ≠ some b := by
  rcases h.2 with ⟨rfl, _⟩ | ⟨g, cap, cur, rfl, _, h4, _⟩
  · simp [Value.ownBlock]
  · simp only [Value.ownBlock, ne_eq, Option.some.injEq]
    intro e0
    subst e0
    unfold Blk at hk
    rw [hk] at h4
    injection h4 with h4
    injection h4 with _ h4
    exact hne h4.symm
/-- A row of the call's own: where it is not empty it lies in a block. -/
theorem owns_blk {w : World} {base : Nat} {e : TypeId} {size : Nat} {v : Value} {n : Nat} {xs : List Value} (h : w.ownsRow base e size v n xs) : (v = .slice none 0 0 ∧ n = 0) ∨ ∃ g c cur, v = .slice (some ⟨g, 0, none⟩) n c ∧ Blk w g cur e ∧ n ≤ c ∧ c ≤ maxLen ∧ cur.size = c * size ∧ cur.toList.take (n * size) = xs := by
  rcases h.2 with h0 | ⟨g, cap, cur, rfl, _, h2, h3, h4, h5, h6⟩
  · exact Or.inl h0
  · exact Or.inr ⟨g, cap, cur, rfl, h2, h3, h4, h5, h6⟩

/-! ### rows of keys and costs -/
def flatI : List It → List Value
  | [] => []
  | x :: r => .int .i64 x.1 :: .int .i64 x.2 :: flatI r
theorem flatI_len (R : List It) : (flatI R).length = R.length * 2 := by
  induction R with
  | nil => rfl
  | cons x r ih => simp only [flatI, List.length_cons, ih]; omega
theorem flatI_at : ∀ (R : List It) (i : Nat) (x : It), R[i]? = some x → (flatI R)[i * 2]? = some (.int .i64 x.1) ∧ (flatI R)[i * 2 + 1]? = some (.int .i64 x.2)
  | [], i, x, h => by simp at h
  | y :: r, 0, x, h => by simp at h; subst h; exact ⟨rfl, rfl⟩
  | y :: r, i + 1, x, h => by
    have := flatI_at r i x (by simpa using h)
    rw [show (i + 1) * 2 = i * 2 + 2 from by omega]
    exact this
theorem flatI_set : ∀ (R : List It) (i : Nat) (x : It), i < R.length → flatI (R.set i x) = ((flatI R).set (i * 2) (.int .i64 x.1)).set (i * 2 + 1) (.int .i64 x.2)
  | [], i, x, h => by simp at h
  | y :: r, 0, x, h => by simp [flatI]
  | y :: r, i + 1, x, h => by
    have := flatI_set r i x (by simpa using h)
    rw [show (i + 1) * 2 = i * 2 + 1 + 1 from by omega]
    simp only [List.set_cons_succ, flatI, this]
theorem flatI_app (R Q : List It) : flatI (R ++ Q) = flatI R ++ flatI Q := by
  induction R with
  | nil => rfl
  | cons x r ih => simp only [List.cons_append, flatI, ih]
theorem flatI_take : ∀ (R : List It) (n : Nat), (flatI R).take (n * 2) = flatI (R.take n)
  | [], n => by simp [flatI]
  | y :: r, 0 => by simp [flatI]
  | y :: r, n + 1 => by
    rw [show (n + 1) * 2 = n * 2 + 1 + 1 from by omega]
    simp only [flatI, List.take_succ_cons, flatI_take r n]

/-- A heap's pointer. -/
abbrev hp (p : Nat) : Value := .pointer (some ⟨p, 0, none⟩)
/-- A key and its cost as a value. -/
abbrev itV (x : It) : Value := .agg #[.int .i64 x.1, .int .i64 x.2]
/-- At p lies a heap's box, of this row and these places; all its blocks are of S. -/
structure HpS (S : Nat → Prop) (w : World) (p : Nat) (R : List It) (P : List Int) (rv pv : Value) : Prop where
  k : Blk w p #[rv, pv] 50
  p : S p
  r : w.ownsRow 0 56 2 rv R.length (flatI R)
  rS : ∀ g, rv.ownBlock = some g → S g
  l : w.ownsRow 0 3 1 pv P.length (P.map (Value.int .i64))
  lS : ∀ g, pv.ownBlock = some g → S g
section
variable {S T : Nat → Prop} {w w' : World} {p : Nat} {R : List It} {P : List Int} {rv pv : Value}
theorem HpS.keep {Q : Nat → Prop} (h : HpS S w p R P rv pv) (hk : Keep Q w w') (hq : ∀ b, b < w.heap.size → S b → Q b) : HpS S w' p R P rv pv :=
  ⟨(hk.mono' hq).blk h.k h.p, h.p, (hk.mono' hq).own h.r h.rS, h.rS, (hk.mono' hq).own h.l h.lS, h.lS⟩
theorem HpS.old (h : HpS S w p R P rv pv) (hb : Below w.heap.size w w') : HpS S w' p R P rv pv := h.keep (Keep.of hb) (fun _ _ h => h)
theorem HpS.drew (h : HpS S w p R P rv pv) : HpS S w.drew p R P rv pv := h.old (Below.refl _ _).drew
theorem HpS.mono (h : HpS S w p R P rv pv) (hq : ∀ b, b < w.heap.size → S b → T b) : HpS T w p R P rv pv :=
  ⟨h.k, hq p h.k.lt h.p, h.r, fun g hg => hq g (h.r.lt g hg).2 (h.rS g hg), h.l, fun g hg => hq g (h.l.lt g hg).2 (h.lS g hg)⟩
theorem HpS.shape (h : HpS S w p R P rv pv) : (∃ q c, rv = .slice q R.length c ∧ R.length ≤ c ∧ c ≤ 9223372036854775807) ∧ ∃ q c, pv = .slice q P.length c := by
  constructor
  · rcases owns_blk h.r with ⟨e, e0⟩ | ⟨g, c, cur, e, _, h1, h2, _⟩
    · exact ⟨none, 0, by rw [e, e0], by omega, by omega⟩
    · exact ⟨_, c, e, h1, by unfold maxLen at h2; omega⟩
  · rcases owns_blk h.l with ⟨e, e0⟩ | ⟨g, c, cur, e, _, _, _⟩
    · exact ⟨none, 0, by rw [e, e0]⟩
    · exact ⟨_, c, e⟩
/-- The cells of place i of the row. -/
theorem HpS.at {q : Option Addr} {c : Nat} (h : HpS S w p R P (.slice q R.length c) pv) {i : Nat} {x : It} (hx : R[i]? = some x) : ∃ g, q = some ⟨g, 0, none⟩ ∧ w.cell? ⟨g, i * 2, none⟩ = some (.int .i64 x.1) ∧ w.cell? ⟨g, i * 2 + 1, none⟩ = some (.int .i64 x.2) ∧ g < w.heap.size := by
  have hl := lt_of_get hx
  rcases owns_blk h.r with ⟨e, e0⟩ | ⟨g, c', cur, e, hb, _⟩
  · omega
  · injection e with e1 e2 e3
    subst e1
    obtain ⟨x0, x1⟩ := flatI_at R i x hx
    exact ⟨g, rfl, (h.r.cellAt _ (by omega)).trans x0, (h.r.cellAt _ (by omega)).trans x1, hb.lt⟩
/-- The place of key k. -/
theorem HpS.pl {q : Option Addr} {c : Nat} (h : HpS S w p R P rv (.slice q P.length c)) {k : Nat} {x : Int} (hx : P[k]? = some x) : ∃ g, q = some ⟨g, 0, none⟩ ∧ w.cell? ⟨g, k, none⟩ = some (.int .i64 x) ∧ g < w.heap.size := by
  have hl := lt_of_get hx
  rcases owns_blk h.l with ⟨e, e0⟩ | ⟨g, c', cur, e, hb, _⟩
  · omega
  · injection e with e1 e2 e3
    subst e1
    exact ⟨g, rfl, (h.l.cellAt _ (by omega)).trans (by rw [List.getElem?_map, hx]; rfl), hb.lt⟩
theorem own_put {base : Nat} {e : TypeId} {size : Nat} {g c n : Nat} {xs : List Value} (h : w.ownsRow base e size (.slice (some ⟨g, 0, none⟩) n c) n xs) (j : Nat) (x : Value) : (w.setCell ⟨g, j, none⟩ x).ownsRow base e size (.slice (some ⟨g, 0, none⟩) n c) n (xs.set j x) := (World.ownsRow.stored h j x).1
theorem own_other {base : Nat} {e : TypeId} {size : Nat} {v : Value} {n : Nat} {xs : List Value} (h : w.ownsRow base e size v n xs) {g : Nat} (hg : v.ownBlock ≠ some g) (j : Nat) (x : Value) : (w.setCell ⟨g, j, none⟩ x).ownsRow base e size v n xs :=
  h.kept (row := some g) ⟨rfl, rfl, rfl, by simp, fun i _ hi => heap_setCell_other w ⟨g, j, none⟩ i x (fun e => hi (by simp [e]))⟩ (Or.inr hg)
/-- Place i of the row is written. -/
theorem HpS.setR {q : Option Addr} {c : Nat} (h : HpS S w p R P (.slice q R.length c) pv) {i : Nat} (hi : i < R.length) (x : It) : ∃ g, q = some ⟨g, 0, none⟩ ∧ g < w.heap.size ∧ (∃ v, w.cell? ⟨g, i * 2, none⟩ = some v) ∧ (∃ v, w.cell? ⟨g, i * 2 + 1, none⟩ = some v) ∧ w.frozen? ⟨g, i * 2, none⟩ = false ∧ w.frozen? ⟨g, i * 2 + 1, none⟩ = false ∧
    HpS S ((w.setCell ⟨g, i * 2, none⟩ (.int .i64 x.1)).setCell ⟨g, i * 2 + 1, none⟩ (.int .i64 x.2)) p (R.set i x) P (.slice q R.length c) pv ∧ Keep (fun b => ¬ S b) w ((w.setCell ⟨g, i * 2, none⟩ (.int .i64 x.1)).setCell ⟨g, i * 2 + 1, none⟩ (.int .i64 x.2)) := by
  obtain ⟨g, rfl, c0, c1, hg⟩ := h.at (List.getElem?_eq_getElem hi)
  rcases owns_blk h.r with ⟨e, e0⟩ | ⟨g', c', cur, e, hb, _⟩
  · omega
  · injection e with e1 e2 e3
    injection e1 with e1
    injection e1 with e1
    subst e1
    have hS : S g := h.rS g rfl
    have hne : g ≠ p := fun e => by
      have := own_ne_blk h.r h.k (by decide)
      exact this (by rw [← e]; rfl)
    have hpl : pv.ownBlock ≠ some g := own_ne_blk h.l hb (by decide)
    refine ⟨g, rfl, hg, ⟨_, c0⟩, ⟨_, c1⟩, hb.free _, hb.free _, ⟨?_, h.p, ?_, h.rS, own_other (own_other h.l hpl _ _) hpl _ _, h.lS⟩, ((Keep.refl _ _).setCell (fun k => k hS) _ _).setCell (fun k => k hS) _ _⟩
    · exact (h.k.other _ _ (fun e => hne e.symm)).other _ _ (fun e => hne e.symm)
    · show World.ownsRow _ _ _ _ _ (R.set i x).length (flatI (R.set i x))
      rw [List.length_set, flatI_set R i x hi]
      exact own_put (own_put h.r _ _) _ _
/-- The place of key k is written. -/
theorem HpS.setP {q : Option Addr} {c : Nat} (h : HpS S w p R P rv (.slice q P.length c)) {k : Nat} (hk : k < P.length) (x : Int) : ∃ g, q = some ⟨g, 0, none⟩ ∧ g < w.heap.size ∧ (∃ v, w.cell? ⟨g, k, none⟩ = some v) ∧ w.frozen? ⟨g, k, none⟩ = false ∧
    HpS S (w.setCell ⟨g, k, none⟩ (.int .i64 x)) p R (P.set k x) rv (.slice q P.length c) ∧ Keep (fun b => ¬ S b) w (w.setCell ⟨g, k, none⟩ (.int .i64 x)) := by
  obtain ⟨g, rfl, c0, hg⟩ := h.pl (List.getElem?_eq_getElem hk)
  rcases owns_blk h.l with ⟨e, e0⟩ | ⟨g', c', cur, e, hb, _⟩
  · omega
  · injection e with e1 e2 e3
    injection e1 with e1
    injection e1 with e1
    subst e1
    have hS : S g := h.lS g rfl
    have hne : g ≠ p := fun e => by
      have := own_ne_blk h.l h.k (by decide)
      exact this (by rw [← e]; rfl)
    have hrl : rv.ownBlock ≠ some g := own_ne_blk h.r hb (by decide)
    refine ⟨g, rfl, hg, ⟨_, c0⟩, hb.free _, ⟨?_, h.p, own_other h.r hrl _ _, h.rS, ?_, h.lS⟩, (Keep.refl _ _).setCell (fun k => k hS) _ _⟩
    · exact h.k.other _ _ (fun e => hne e.symm)
    · show World.ownsRow _ _ _ _ _ (P.set k x).length ((P.set k x).map _)
      rw [List.length_set, List.map_set]
      exact own_put h.l _ _
/-- The row's slice is stored. -/
theorem HpS.setRow (h : HpS S w p R P rv pv) {R' : List It} {rv' : Value} (hr : w.ownsRow 0 56 2 rv' R'.length (flatI R')) (hS : ∀ g, rv'.ownBlock = some g → S g) : HpS S (w.setCell ⟨p, 0, none⟩ rv') p R' P rv' pv ∧ Keep (fun b => ¬ S b) w (w.setCell ⟨p, 0, none⟩ rv') := by
  refine ⟨⟨?_, h.p, own_other hr (own_ne_blk hr h.k (by decide)) _ _, hS, own_other h.l (own_ne_blk h.l h.k (by decide)) _ _, h.lS⟩, (Keep.refl _ _).setCell (fun k => k h.p) _ _⟩
  simpa using h.k.set 0 rv'
/-- A row's first n. -/
theorem own_cut {base : Nat} {e : TypeId} {g c n m : Nat} {R : List It} (h : w.ownsRow base e 2 (.slice (some ⟨g, 0, none⟩) n c) n (flatI R)) (hm : m ≤ n) : w.ownsRow base e 2 (.slice (some ⟨g, 0, none⟩) m c) m (flatI (R.take m)) := by
  have hl := h.1
  rw [flatI_len] at hl
  rcases h.2 with ⟨e, _⟩ | ⟨g', c', cur, e, hg, hb, h1, h2, h3, h4⟩
  · cases e
  · injection e with e1 e2 e3
    subst e3
    refine ⟨by rw [flatI_len, List.length_take]; omega, Or.inr ⟨g', c, cur, by rw [e1], hg, hb, by omega, h2, h3, ?_⟩⟩
    rw [← flatI_take, ← h4, List.take_take, show min (m * 2) (n * 2) = m * 2 from by omega]
end
/-- A heap at p: its keys, and what each is at. -/
def HpAt (S : Nat → Prop) (w : World) (p : Nat) (N : Nat) (m : Nat → Option Int) : Prop := N ≤ 16384 ∧ ∃ R P rv pv, HpS S w p R P rv pv ∧ Hpp N R P m
theorem HpAt.keep {S Q : Nat → Prop} {w w' : World} {p N : Nat} {m : Nat → Option Int} (h : HpAt S w p N m) (hk : Keep Q w w') (hq : ∀ b, b < w.heap.size → S b → Q b) : HpAt S w' p N m := by
  obtain ⟨hN, R, P, rv, pv, h1, h2⟩ := h
  exact ⟨hN, R, P, rv, pv, h1.keep hk hq, h2⟩
theorem HpAt.old {S : Nat → Prop} {w w' : World} {p N : Nat} {m : Nat → Option Int} (h : HpAt S w p N m) (hb : Below w.heap.size w w') : HpAt S w' p N m := h.keep (Keep.of hb) (fun _ _ h => h)
theorem HpAt.mono {S T : Nat → Prop} {w : World} {p N : Nat} {m : Nat → Option Int} (h : HpAt S w p N m) (hq : ∀ b, b < w.heap.size → S b → T b) : HpAt T w p N m := by
  obtain ⟨hN, R, P, rv, pv, h1, h2⟩ := h
  exact ⟨hN, R, P, rv, pv, h1.mono hq, h2⟩

end Go.Proofs.Ytmbeelakkiodaaa
