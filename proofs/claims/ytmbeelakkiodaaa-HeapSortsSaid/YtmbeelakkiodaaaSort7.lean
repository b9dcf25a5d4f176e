/-
  The law HeapSorts: what its own tables say of the keys; the rounds.
-/
import Derived.Test.YtmbeelakkiodaaaKnown7
import Derived.Test.YtmbeelakkiodaaaOne7
import Derived.Test.YtmbeelakkiodaaaHpL
namespace Go.Proofs.Ytmbeelakkiodaaa
open Go.ChangeShapes Go.WideShapes Go.ChangeAt Go.RowKit

def zL : Array Value := ((List.replicate 256 (0 : Int)).map (Value.int .i64)).toArray
def zI : Array Value := ((List.replicate 256 false).map Value.bool).toArray
theorem zeroL (w : World) : (zeroValue 37).run Try.prog w = .ok (.agg zL) w := by kernel_rfl
theorem zeroI (w : World) : (zeroValue 38).run Try.prog w = .ok (.agg zI) w := by kernel_rfl

/-- A heap made since w0, none of whose blocks is of X. -/
structure H1X (X : Nat → Prop) (w0 w : World) (p N : Nat) (m : Nat → Option Int) : Prop where
  b : Below w0.heap.size w0 w
  x : ∀ b, X b → b < w.heap.size
  e : ∃ S : Nat → Prop, HpAt S w p N m ∧ (∀ b, S b → w0.heap.size ≤ b) ∧ ∀ b, S b → ¬ X b
section
variable {X : Nat → Prop} {w0 w w' : World} {p N : Nat} {m m' : Nat → Option Int}
theorem H1X.old (h : H1X X w0 w p N m) (hb : Below w.heap.size w w') : H1X X w0 w' p N m := by
  obtain ⟨h1, h2, S, h3, h4, h5⟩ := h
  exact ⟨h1.trans (hb.mono h1.size), fun b hx => Nat.lt_of_lt_of_le (h2 b hx) hb.size, S, h3.old hb, h4, h5⟩
theorem H1X.of {S : Nat → Prop} (h1 : Below w0.heap.size w0 w) (h2 : ∀ b, X b → b < w.heap.size) (h4 : ∀ b, S b → w0.heap.size ≤ b) (h5 : ∀ b, S b → ¬ X b) (hh : HpAt (Plus S w) w' p N m') (hk : Keep (fun b => ¬ S b) w w') : H1X X w0 w' p N m' ∧ Keep X w w' :=
  ⟨⟨h1.trans (hk.below (fun b hb hc => by have := h4 b hc; omega) h1.size), fun b hx => Nat.lt_of_lt_of_le (h2 b hx) hk.size, Plus S w, hh, fun b hb => hb.elim (h4 b) (fun hb => Nat.le_trans h1.size hb), fun b hb hx => hb.elim (fun hs => h5 b hs hx) (fun hs => by have := h2 b hx; omega)⟩, hk.mono fun b hx hs => h5 b hs hx⟩
/-- A block of X is written. -/
theorem H1X.put (h : H1X X w0 w p N m) {g : Nat} (hg : X g) (h0 : w0.heap.size ≤ g) (o : Nat) (v : Value) : H1X X w0 (w.setCell ⟨g, o, none⟩ v) p N m := by
  obtain ⟨h1, h2, S, h3, h4, h5⟩ := h
  have hk : Keep (fun b => b ≠ g) w (w.setCell ⟨g, o, none⟩ v) := (Keep.refl _ _).setCell (fun h => h rfl) _ _
  exact ⟨h1.setCell h0 _, fun b hx => Nat.lt_of_lt_of_le (h2 b hx) hk.size, S, h3.keep hk (fun b _ hs e => h5 b hs (by rw [e]; exact hg)), h4, h5⟩
theorem hxput (h : H1X X w0 w p N m) (k c : Int) (k0 : -9223372036854775808 ≤ k) (k1 : k ≤ 9223372036854775807) (c0 : -9223372036854775808 ≤ c) (c1 : c ≤ 9223372036854775807) :
    Calls Try.prog 10 #[hp p, .int .i64 k, .int .i64 c] w fun e w' => e = .returned (.bool (putB N m k c)) ∧ H1X X w0 w' p N (putM N m k c) ∧ Keep X w w' := by
  obtain ⟨h1, h2, S, h3, h4, h5⟩ := h
  exact (vput h3 k c k0 k1 c0 c1).mono fun _ _ ⟨a, b, e⟩ => ⟨a, H1X.of h1 h2 h4 h5 b e⟩
theorem hxpop (h : H1X X w0 w p N m) :
    Calls Try.prog 12 #[hp p] w fun e w' => e = .returned (popT (popV N m)) ∧ H1X X w0 w' p N (popM N m) ∧ Keep X w w' := by
  obtain ⟨h1, h2, S, h3, h4, h5⟩ := h
  exact (vpop h3).mono fun _ _ ⟨a, b, e⟩ => ⟨a, H1X.of h1 h2 h4 h5 b e⟩
theorem hxlen (h : H1X X w0 w p N m) : Calls Try.prog 17 #[hp p] w fun e w' => e = .returned (.int .i64 (cnt m N)) ∧ w = w' := by
  obtain ⟨h1, h2, S, h3, h4⟩ := h
  exact vlen h3
theorem H1X.cost (h : H1X X w0 w p N m) (k : Nat) (c : Int) (hm : m k = some c) : 0 ≤ c ∧ c ≤ 1152921504606846976 ∧ k < N := by
  obtain ⟨h1, h2, S, ⟨hN, R, P, rv, pv, hs, hh⟩, h4⟩ := h
  obtain ⟨i, hi⟩ := hh.con.back k c hm
  obtain ⟨a, b⟩ := hh.con.cost k c hm
  exact ⟨a, b, (hh.con.row i _ hi).1⟩
end

/-- What the law's tables and its heap say: L: the least costs, I: which are in. -/
structure SortS (w0 w : World) (p bl bi : Nat) (I : List Bool) (L : List Int) : Prop where
  h : H1X (fun b => b = bl ∨ b = bi) w0 w p 256 (docM I L)
  l : Blk w bl (L.map (Value.int .i64)).toArray 37
  i : Blk w bi (I.map Value.bool).toArray 38
  ll : L.length = 256
  il : I.length = 256
  l0 : w0.heap.size ≤ bl
  i0 : w0.heap.size ≤ bi
section
variable {w0 w w' : World} {p bl bi : Nat} {I I' : List Bool} {L L' : List Int}
theorem SortS.ne (h : SortS w0 w p bl bi I L) : bl ≠ bi := blk_ne h.l h.i (by decide)
theorem SortS.old (h : SortS w0 w p bl bi I L) (hb : Below w.heap.size w w') : SortS w0 w' p bl bi I L := ⟨h.h.old hb, h.l.keep hb, h.i.keep hb, h.ll, h.il, h.l0, h.i0⟩
theorem SortS.ic (h : SortS w0 w p bl bi I L) {k : Nat} {b : Bool} (hb : I[k]? = some b) : w.cell? ⟨bi, k, none⟩ = some (.bool b) ∧ w.frozen? ⟨bi, k, none⟩ = false := ⟨h.i.cell k (by simp [hb]), h.i.free k⟩
theorem SortS.lc (h : SortS w0 w p bl bi I L) {k : Nat} {c : Int} (hc : L[k]? = some c) : w.cell? ⟨bl, k, none⟩ = some (.int .i64 c) ∧ w.frozen? ⟨bl, k, none⟩ = false := ⟨h.l.cell k (by simp [hc]), h.l.free k⟩
/-- The heap alone turned; the tables follow. -/
structure SortH (w0 w : World) (p bl bi : Nat) (I : List Bool) (L : List Int) (m : Nat → Option Int) : Prop where
  h : H1X (fun b => b = bl ∨ b = bi) w0 w p 256 m
  l : Blk w bl (L.map (Value.int .i64)).toArray 37
  i : Blk w bi (I.map Value.bool).toArray 38
  ll : L.length = 256
  il : I.length = 256
  l0 : w0.heap.size ≤ bl
  i0 : w0.heap.size ≤ bi
variable {m : Nat → Option Int}
theorem SortH.old (h : SortH w0 w p bl bi I L m) (hb : Below w.heap.size w w') : SortH w0 w' p bl bi I L m := ⟨h.h.old hb, h.l.keep hb, h.i.keep hb, h.ll, h.il, h.l0, h.i0⟩
theorem SortH.ic (h : SortH w0 w p bl bi I L m) {k : Nat} {b : Bool} (hb : I[k]? = some b) : w.cell? ⟨bi, k, none⟩ = some (.bool b) ∧ w.frozen? ⟨bi, k, none⟩ = false := ⟨h.i.cell k (by simp [hb]), h.i.free k⟩
theorem SortH.lc (h : SortH w0 w p bl bi I L m) {k : Nat} {c : Int} (hc : L[k]? = some c) : w.cell? ⟨bl, k, none⟩ = some (.int .i64 c) ∧ w.frozen? ⟨bl, k, none⟩ = false := ⟨h.l.cell k (by simp [hc]), h.l.free k⟩
theorem SortH.setL (h : SortH w0 w p bl bi I L m) (k : Nat) (c : Int) : SortH w0 (w.setCell ⟨bl, k, none⟩ (.int .i64 c)) p bl bi I (L.set k c) m := by
  have hne : bl ≠ bi := blk_ne h.l h.i (by decide)
  refine ⟨h.h.put (Or.inl rfl) h.l0 _ _, ?_, h.i.other _ _ (fun e => hne e.symm), by rw [List.length_set, h.ll], h.il, h.l0, h.i0⟩
  have := h.l.set k (.int .i64 c)
  simpa [List.map_set] using this
theorem SortH.setI (h : SortH w0 w p bl bi I L m) (k : Nat) (c : Bool) : SortH w0 (w.setCell ⟨bi, k, none⟩ (.bool c)) p bl bi (I.set k c) L m := by
  have hne : bl ≠ bi := blk_ne h.l h.i (by decide)
  refine ⟨h.h.put (Or.inr rfl) h.i0 _ _, h.l.other _ _ hne, ?_, h.ll, by rw [List.length_set, h.il], h.l0, h.i0⟩
  have := h.i.set k (.bool c)
  simpa [List.map_set] using this
theorem SortH.put (h : SortH w0 w p bl bi I L m) (k c : Int) (k0 : -9223372036854775808 ≤ k) (k1 : k ≤ 9223372036854775807) (c0 : -9223372036854775808 ≤ c) (c1 : c ≤ 9223372036854775807) :
    Calls Try.prog 10 #[hp p, .int .i64 k, .int .i64 c] w fun e w' => e = .returned (.bool (putB 256 m k c)) ∧ SortH w0 w' p bl bi I L (putM 256 m k c) ∧ w.heap.size ≤ w'.heap.size := by
  refine (hxput h.h k c k0 k1 c0 c1).mono ?_
  rintro e w' ⟨h1, h2, h3⟩
  exact ⟨h1, ⟨h2, h3.blk h.l (Or.inl rfl), h3.blk h.i (Or.inr rfl), h.ll, h.il, h.l0, h.i0⟩, h3.size⟩
theorem SortH.pop (h : SortH w0 w p bl bi I L m) :
    Calls Try.prog 12 #[hp p] w fun e w' => e = .returned (popT (popV 256 m)) ∧ SortH w0 w' p bl bi I L (popM 256 m) := by
  refine (hxpop h.h).mono ?_
  rintro e w' ⟨h1, h2, h3⟩
  exact ⟨h1, h2, h3.blk h.l (Or.inl rfl), h3.blk h.i (Or.inr rfl), h.ll, h.il, h.l0, h.i0⟩
/-- The tables' maths: one more key. -/
theorem sort_new {k : Nat} {c : Int} (hk : k < 256) (il : I.length = 256) (ll : L.length = 256) (hI : I[k]? = some false) : putB 256 (docM I L) k c = true ∧ putM 256 (docM I L) k c = docM (I.set k true) (L.set k (hld c)) ∧ cnt (docM (I.set k true) (L.set k (hld c))) 256 = cnt (docM I L) 256 + 1 := by
  have hB := putB_none (N := 256) (c := c) hk (docM_off (C := L) hI)
  refine ⟨hB, ?_, ?_⟩
  · rw [putM_true hB, docM_put _ (by omega) (by omega)]
  · rw [docM_put _ (by omega) (by omega), cnt_put hk (docM_off hI)]
theorem sort_low {k : Nat} {c d : Int} (hk : k < 256) (il : I.length = 256) (ll : L.length = 256) (hI : I[k]? = some true) (hL : L[k]? = some d) (hlt : hld c < d) : putB 256 (docM I L) k c = true ∧ putM 256 (docM I L) k c = docM (I.set k true) (L.set k (hld c)) ∧ cnt (docM (I.set k true) (L.set k (hld c))) 256 = cnt (docM I L) 256 := by
  have hB : putB 256 (docM I L) k c = true := by rw [putB_some hk (docM_in hI hL)]; exact decide_eq_true hlt
  refine ⟨hB, ?_, ?_⟩
  · rw [putM_true hB, docM_put _ (by omega) (by omega)]
  · rw [docM_put _ (by omega) (by omega), cnt_low (docM_in hI hL)]
theorem sort_same {k : Nat} {c d : Int} (hk : k < 256) (hI : I[k]? = some true) (hL : L[k]? = some d) (hlt : ¬ hld c < d) : putB 256 (docM I L) k c = false ∧ putM 256 (docM I L) k c = docM (I.set k true) L := by
  have hB : putB 256 (docM I L) k c = false := by rw [putB_some hk (docM_in hI hL)]; exact decide_eq_false hlt
  refine ⟨hB, ?_⟩
  rw [putM_false hB, show I.set k true = I from set_get hI]
end
/-- The first loop at a round's head. -/
def FillRel (w0 : World) (p bl bi n : Nat) (vl vi : Value) (wr : World) : Prop := ∃ (k : Nat) (I : List Bool) (L : List Int), k ≤ n ∧ vi = .int .i64 k ∧ vl = .int .i64 (cnt (docM I L) 256 : Nat) ∧ cnt (docM I L) 256 ≤ k ∧ SortH w0 wr p bl bi I L (docM I L)
/-- The second one. -/
def DrainRel (w0 : World) (p bl bi : Nat) (vl va vb : Value) (wr : World) : Prop := ∃ (I : List Bool) (L : List Int) (last was : Int), vl = .int .i64 (cnt (docM I L) 256 : Nat) ∧ va = .int .i64 last ∧ vb = .int .i64 was ∧ SortH w0 wr p bl bi I L (docM I L) ∧ ∀ k c, docM I L k = some c → last < c ∨ last = c ∧ was < (k : Int)

end Go.Proofs.Ytmbeelakkiodaaa
