/-
  Plain mathematics of nets that change: an arc that costs otherwise, a turn that is bent.
-/
import Derived.Test.YtgihaakgadmidaaGreatLawN
import Derived.Test.YtgihaakgadmidaaGreatBentM
import Derived.Test.YtgihaakgadmidaaGreatCopyN
import Derived.Test.YtgihaakgadmidaaGreatD1
namespace Go.Proofs.YtgihaakgadmidaaGreat

/-- A net that a law's graph may be. -/
structure GrN (n : NetD) : Prop where
  good : NetGood n
  few : NetFew n
  inn : InNet n
section
variable {n : NetD} {k : Nat} {c : Int}
end
end Go.Proofs.YtgihaakgadmidaaGreat

/-
  Graphs as they lie in memory; what stays where some blocks are written.
-/
namespace Go.Proofs.YtgihaakgadmidaaGreat
open Go.RowKit

/-! ### what stays -/
/-- The blocks in which P holds are as they were. -/
structure Keep (P : Nat → Prop) (w w' : World) : Prop where
  os : w'.os = w.os
  tape : w'.tape = w.tape
  output : w'.output = w.output
  size : w.heap.size ≤ w'.heap.size
  block : ∀ k, k < w.heap.size → P k → w'.heap[k]? = w.heap[k]?
section
variable {P Q : Nat → Prop} {w w' : World}
theorem Keep.refl (P : Nat → Prop) (w : World) : Keep P w w := ⟨rfl, rfl, rfl, Nat.le_refl _, fun _ _ _ => rfl⟩
theorem Keep.trans {u v w : World} (h : Keep P u v) (k : Keep P v w) : Keep P u w :=
  ⟨k.os.trans h.os, k.tape.trans h.tape, k.output.trans h.output, Nat.le_trans h.size k.size, fun i hi hp => (k.block i (Nat.lt_of_lt_of_le hi h.size) hp).trans (h.block i hi hp)⟩
theorem Keep.of (h : Below w.heap.size w w') : Keep P w w' := ⟨h.os, h.tape, h.output, h.size, fun k hk _ => h.block k hk⟩
theorem Keep.mono (h : Keep P w w') (hq : ∀ b, Q b → P b) : Keep Q w w' := ⟨h.os, h.tape, h.output, h.size, fun k hk hp => h.block k hk (hq k hp)⟩
theorem Keep.setCell {b : Nat} (h : Keep P w w') (hb : ¬ P b) (o : Nat) (v : Value) : Keep P w (w'.setCell ⟨b, o, none⟩ v) :=
  h.trans ⟨rfl, rfl, rfl, by simp [World.setCell], fun k _ hp => Below.heap_setCell _ _ _ _ (by rintro rfl; exact hb hp)⟩
theorem Keep.cell (h : Keep P w w') {b o : Nat} {v : Value} (hc : w.cell? ⟨b, o, none⟩ = some v) (hp : P b) : w'.cell? ⟨b, o, none⟩ = some v :=
  (World.cell?_of_block (w := w) (a := ⟨b, o, none⟩) (h.block b (World.block_lt_of_cell? w _ hc) hp)).trans hc
theorem Keep.blk (h : Keep P w w') {b : Nat} {cs : Array Value} {t : TypeId} (hk : Blk w b cs t) (hp : P b) : Blk w' b cs t := (h.block b hk.lt hp).trans hk
theorem Keep.below {B : Nat} (h : Keep P w w') (hp : ∀ b, b < B → P b) (hB : B ≤ w.heap.size) : Below B w w' := ⟨h.os, h.tape, h.output, h.size, fun k hk => h.block k (by omega) (hp k hk)⟩
end

/-- Where a slice's cells lie P holds. -/
def Av (P : Nat → Prop) (v : Value) : Prop := ∀ b o s n c, v = .slice (some ⟨b, o, s⟩) n c → 0 < n → P b
theorem Av.mono {P Q : Nat → Prop} {v : Value} (h : Av P v) (hq : ∀ b, P b → Q b) : Av Q v := fun b o s n c e h0 => hq b (h b o s n c e h0)
theorem Av.nil (P : Nat → Prop) (p : Option Addr) (c : Nat) : Av P (.slice p 0 c) := fun b o s n c e h0 => by injection e; omega
section
variable {P Q : Nat → Prop} {w w' : World} {v : Value}
theorem Tris.keep {l : List Tri} (h : Tris w v l) (ha : Av P v) (hk : Keep P w w') : Tris w' v l := by
  rcases h with h | ⟨hl, b, o, c, h1, h2, rfl, hc⟩
  · exact Or.inl h
  · refine Or.inr ⟨hl, b, o, c, h1, h2, rfl, fun i hi => ?_⟩
    have hp := ha b o none _ _ rfl (by omega)
    obtain ⟨x, y, z⟩ := hc i hi
    exact ⟨hk.cell x hp, hk.cell y hp, hk.cell z hp⟩
theorem I64s.keep {l : List Int} (h : I64s w v l) (ha : Av P v) (hk : Keep P w w') : I64s w' v l := by
  rcases h with h | ⟨hl, b, o, c, h1, h2, rfl, hc⟩
  · exact Or.inl h
  · exact Or.inr ⟨hl, b, o, c, h1, h2, rfl, fun i hi => hk.cell (hc i hi) (ha b o none _ _ rfl (by omega))⟩
/-- What was there lies below. -/
theorem Tris.av {l : List Tri} (h : Tris w v l) : Av (fun b => b < w.heap.size) v := by
  rcases h with ⟨rfl, p, c, rfl, -⟩ | ⟨hl, b, o, c, h1, h2, rfl, hc⟩
  · exact Av.nil _ _ _
  · intro b' o' s' n' c' e h0
    injection e with e1 e2 e3
    injection e1 with e1
    injection e1 with e1
    subst e1
    exact World.block_lt_of_cell? w _ (hc 0 (by omega)).1
theorem I64s.av {l : List Int} (h : I64s w v l) : Av (fun b => b < w.heap.size) v := by
  rcases h with ⟨rfl, p, c, rfl, -⟩ | ⟨hl, b, o, c, h1, h2, rfl, hc⟩
  · exact Av.nil _ _ _
  · intro b' o' s' n' c' e h0
    injection e with e1 e2 e3
    injection e1 with e1
    injection e1 with e1
    subst e1
    exact World.block_lt_of_cell? w _ (hc 0 (by omega))
/-- A row of tables, where P holds of its own block and of those of their rows. -/
def TabsA (P : Nat → Prop) (w : World) (v : Value) (l : List Tab) : Prop :=
  (l = [] ∧ ∃ p c, v = .slice p 0 c ∧ (p = none → c = 0)) ∨ (l.length ≤ 9223372036854775807 ∧ ∃ b o c, l.length ≤ c ∧ c ≤ 9223372036854775807 ∧ v = .slice (some ⟨b, o, none⟩) l.length c ∧
    ∀ i (h : i < l.length), P b ∧ ∃ u, w.cell? ⟨b, o + i * 3, none⟩ = some (.int .i64 l[i].1) ∧ w.cell? ⟨b, o + i * 3 + 1, none⟩ = some (.int .i64 l[i].2.1) ∧ w.cell? ⟨b, o + i * 3 + 2, none⟩ = some u ∧ I64s w u l[i].2.2 ∧ Av P u)
theorem TabsA.tabs {l : List Tab} (h : TabsA P w v l) : Tabs w v l := by
  rcases h with h | ⟨hl, b, o, c, h1, h2, h3, hc⟩
  · exact Or.inl h
  · refine Or.inr ⟨hl, b, o, c, h1, h2, h3, fun i hi => ?_⟩
    obtain ⟨-, u, x, y, z, k, -⟩ := hc i hi
    exact ⟨u, x, y, z, k⟩
theorem TabsA.keep {l : List Tab} (h : TabsA P w v l) (hk : Keep P w w') : TabsA P w' v l := by
  rcases h with h | ⟨hl, b, o, c, h1, h2, h3, hc⟩
  · exact Or.inl h
  · refine Or.inr ⟨hl, b, o, c, h1, h2, h3, fun i hi => ?_⟩
    obtain ⟨hp, u, x, y, z, k, ha⟩ := hc i hi
    exact ⟨hp, u, hk.cell x hp, hk.cell y hp, hk.cell z hp, k.keep ha hk, ha⟩
theorem TabsA.mono {l : List Tab} (h : TabsA P w v l) (hq : ∀ b, P b → Q b) : TabsA Q w v l := by
  rcases h with h | ⟨hl, b, o, c, h1, h2, h3, hc⟩
  · exact Or.inl h
  · refine Or.inr ⟨hl, b, o, c, h1, h2, h3, fun i hi => ?_⟩
    obtain ⟨hp, u, x, y, z, k, ha⟩ := hc i hi
    exact ⟨hq _ hp, u, x, y, z, k, ha.mono hq⟩
theorem Tabs.av {l : List Tab} (h : Tabs w v l) : TabsA (fun b => b < w.heap.size) w v l := by
  rcases h with h | ⟨hl, b, o, c, h1, h2, h3, hc⟩
  · exact Or.inl h
  · refine Or.inr ⟨hl, b, o, c, h1, h2, h3, fun i hi => ?_⟩
    obtain ⟨u, x, y, z, k⟩ := hc i hi
    exact ⟨World.block_lt_of_cell? w _ x, u, x, y, z, k, k.av⟩
/-- A net, where P holds of all blocks in which it lies. -/
def NetA (P : Nat → Prop) (w : World) (v : Value) (n : NetD) : Prop := ∃ uv ua ut, v = .agg #[uv, ua, ut] ∧ (Tris w uv n.v ∧ Av P uv) ∧ (Tris w ua n.a ∧ Av P ua) ∧ TabsA P w ut n.t
theorem NetA.net {n : NetD} (h : NetA P w v n) : NetV w v n := by
  obtain ⟨uv, ua, ut, e, ⟨h1, -⟩, ⟨h2, -⟩, h3⟩ := h
  exact ⟨uv, ua, ut, e, h1, h2, h3.tabs⟩
theorem NetA.keep {n : NetD} (h : NetA P w v n) (hk : Keep P w w') : NetA P w' v n := by
  obtain ⟨uv, ua, ut, e, ⟨h1, a1⟩, ⟨h2, a2⟩, h3⟩ := h
  exact ⟨uv, ua, ut, e, ⟨h1.keep a1 hk, a1⟩, ⟨h2.keep a2 hk, a2⟩, h3.keep hk⟩
theorem NetA.mono {n : NetD} (h : NetA P w v n) (hq : ∀ b, P b → Q b) : NetA Q w v n := by
  obtain ⟨uv, ua, ut, e, ⟨h1, a1⟩, ⟨h2, a2⟩, h3⟩ := h
  exact ⟨uv, ua, ut, e, ⟨h1, a1.mono hq⟩, ⟨h2, a2.mono hq⟩, h3.mono hq⟩
theorem NetA.old {n : NetD} (h : NetA P w v n) (hb : Below w.heap.size w w') : NetA P w' v n := h.keep (Keep.of hb)
theorem NetV.av {n : NetD} (h : NetV w v n) : NetA (fun b => b < w.heap.size) w v n := by
  obtain ⟨uv, ua, ut, e, h1, h2, h3⟩ := h
  exact ⟨uv, ua, ut, e, ⟨h1, h1.av⟩, ⟨h2, h2.av⟩, h3.av⟩
end

/-! ### rows that are written: their blocks, and those of other kinds -/
/-- None of these rows' blocks. -/
def Off (vs : List Value) (b : Nat) : Prop := ∀ v ∈ vs, v.ownBlock ≠ some b
theorem Off.sub {vs us : List Value} (h : ∀ v ∈ us, v ∈ vs) : ∀ b, Off vs b → Off us b := fun _ hb v hv => hb v (h v hv)
/-- A row of arcs, of tables, of a graph's own. -/
def MutR (w : World) (v : Value) : Prop := ∃ base n xs, w.ownsRow base 98 3 v n xs ∨ w.ownsRow base 103 3 v n xs
theorem MutR.lt {w : World} {v : Value} (h : MutR w v) {b : Nat} (hb : v.ownBlock = some b) : b < w.heap.size := by
  obtain ⟨base, n, xs, h | h⟩ := h
  · exact (h.lt b hb).2
  · exact (h.lt b hb).2
theorem off_blk {w : World} {vs : List Value} (hv : ∀ v ∈ vs, MutR w v) {b : Nat} {cs : Array Value} {t : TypeId} (hk : Blk w b cs t) (h1 : 98 ≠ t) (h2 : 103 ≠ t) : Off vs b := by
  intro v hm
  obtain ⟨base, n, xs, h | h⟩ := hv v hm
  · exact own_ne_blk h hk h1
  · exact own_ne_blk h hk h2
theorem owns_av {w : World} {vs : List Value} (hv : ∀ v ∈ vs, MutR w v) {base : Nat} {e : TypeId} {size : Nat} {v : Value} {n : Nat} {xs : List Value} (h : w.ownsRow base e size v n xs) (h1 : 98 ≠ e) (h2 : 103 ≠ e) : Av (Off vs) v := by
  rcases h.2 with ⟨rfl, _⟩ | ⟨g, cap, cur, rfl, _, hh, _⟩
  · intro b o s n c e h0
    injection e with e1
    cases e1
  · intro b o s n c e h0
    injection e with e1
    injection e1 with e1
    injection e1 with e1
    subst e1
    exact off_blk hv (show Blk w g cur _ from hh) h1 h2
theorem owns_new {w : World} {base : Nat} {e : TypeId} {size : Nat} {v : Value} {n : Nat} {xs : List Value} (h : w.ownsRow base e size v n xs) : Av (fun b => base ≤ b) v := by
  rcases h.2 with ⟨rfl, _⟩ | ⟨g, cap, cur, rfl, hg, hh, _⟩
  · intro b o s n c e h0
    injection e with e1
    cases e1
  · intro b o s n c e h0
    injection e with e1
    injection e1 with e1
    injection e1 with e1
    subst e1
    exact hg
theorem owns_keep {P : Nat → Prop} {w w' : World} {base : Nat} {e : TypeId} {size : Nat} {v : Value} {n : Nat} {xs : List Value} (h : w.ownsRow base e size v n xs) (hk : Keep P w w') (hp : ∀ b, v.ownBlock = some b → P b) : w'.ownsRow base e size v n xs := by
  refine ⟨h.1, ?_⟩
  rcases h.2 with h0 | ⟨g, cap, cur, rfl, h1, h2, h3⟩
  · exact Or.inl h0
  · exact Or.inr ⟨g, cap, cur, rfl, h1, (hk.block g (Array.getElem?_eq_some_iff.1 h2).1 (hp g rfl)).trans h2, h3⟩
/-- The rows of tables. -/
def RowsP (P : Nat → Prop) (w : World) (l : List Tab) (us : List Value) : Prop := us.length = l.length ∧ ∀ (i : Nat) (t : Tab) (u : Value), l[i]? = some t → us[i]? = some u → I64s w u t.2.2 ∧ Av P u
section
variable {P Q : Nat → Prop} {w w' : World} {l : List Tab} {us : List Value}
theorem RowsP.keep (h : RowsP P w l us) (hk : Keep P w w') : RowsP P w' l us := ⟨h.1, fun i t u h1 h2 => ⟨(h.2 i t u h1 h2).1.keep (h.2 i t u h1 h2).2 hk, (h.2 i t u h1 h2).2⟩⟩
theorem RowsP.mono (h : RowsP P w l us) (hq : ∀ b, P b → Q b) : RowsP Q w l us := ⟨h.1, fun i t u h1 h2 => ⟨(h.2 i t u h1 h2).1, (h.2 i t u h1 h2).2.mono hq⟩⟩
theorem tabs_of_rowsP {base : Nat} {e : TypeId} {v : Value} (h : w.ownsRow base e 3 v l.length (flatB l us)) (hp : ∀ b, v.ownBlock = some b → P b) (hr : RowsP P w l us) (hl : l.length ≤ 9223372036854775807) : TabsA P w v l := by
  rcases h.2 with ⟨rfl, e0⟩ | ⟨g, cap, cur, rfl, _, _, hnc, hcm, _, _⟩
  · have : l = [] := List.length_eq_zero_iff.1 e0
    subst this
    exact Or.inl ⟨rfl, none, 0, rfl, fun _ => rfl⟩
  · refine Or.inr ⟨hl, g, 0, cap, hnc, by unfold maxLen at hcm; omega, rfl, fun i hi => ⟨hp g rfl, ?_⟩⟩
    have hi' : i < us.length := by rw [hr.1]; exact hi
    obtain ⟨a, b, c⟩ := flatB_at l us i hi hi'
    rw [Nat.zero_add]
    obtain ⟨k1, k2⟩ := hr.2 i l[i] us[i] (List.getElem?_eq_getElem hi) (List.getElem?_eq_getElem hi')
    exact ⟨us[i], (h.cellAt _ (by omega)).trans a, (h.cellAt _ (by omega)).trans b, (h.cellAt _ (by omega)).trans c, k1, k2⟩
end

/-! ### a graph -/
/-- One side of a graph: of each vertex its arcs, of each arc its place. -/
def SideAt (P : Nat → Prop) (w : World) (b d : Nat) (m k : Nat) (L : Nat → List Int) (f : Nat → Int) : Prop :=
  ∃ us : List Value, Blk w b us.toArray 43 ∧ us.length = m ∧ P b ∧ Blk w d (arrC f k) 3 ∧ P d ∧ ∀ (i : Nat) (u : Value), us[i]? = some u → I64s w u (L i) ∧ Av P u
section
variable {P Q : Nat → Prop} {w w' : World} {b d m k : Nat} {L : Nat → List Int} {f : Nat → Int}
theorem SideAt.keep (h : SideAt P w b d m k L f) (hk : Keep P w w') : SideAt P w' b d m k L f := by
  obtain ⟨us, h1, h2, h3, h4, h5, h6⟩ := h
  exact ⟨us, hk.blk h1 h3, h2, h3, hk.blk h4 h5, h5, fun i u hu => ⟨(h6 i u hu).1.keep (h6 i u hu).2 hk, (h6 i u hu).2⟩⟩
theorem SideAt.mono (h : SideAt P w b d m k L f) (hq : ∀ b, P b → Q b) : SideAt Q w b d m k L f := by
  obtain ⟨us, h1, h2, h3, h4, h5, h6⟩ := h
  exact ⟨us, h1, h2, hq _ h3, h4, hq _ h5, fun i u hu => ⟨(h6 i u hu).1, (h6 i u hu).2.mono hq⟩⟩
theorem SideAt.congr {L' : Nat → List Int} {f' : Nat → Int} (h : SideAt P w b d m k L f) (hL : ∀ i, L i = L' i) (hf : ∀ i, i < k → f i = f' i) : SideAt P w b d m k L' f' := by
  obtain ⟨us, h1, h2, h3, h4, h5, h6⟩ := h
  exact ⟨us, h1, h2, h3, arrC_congr hf ▸ h4, h5, fun i u hu => by rw [← hL]; exact h6 i u hu⟩
end
/-- The cells of a Graph. -/
def gCells (n : NetD) (uv va vt : Value) (b1 d1 b2 d2 : Nat) : Array Value := #[uv, va, vt, .slice (some ⟨b1, 0, none⟩) n.v.length n.v.length, .slice (some ⟨d1, 0, none⟩) n.a.length n.a.length, .slice (some ⟨b2, 0, none⟩) n.v.length n.v.length, .slice (some ⟨d2, 0, none⟩) n.a.length n.a.length]
/-- A Graph at p that is n; its arcs and types lie in the rows va, vt, and may be written; P holds of all its other blocks. -/
structure GrS (P : Nat → Prop) (w : World) (p : Nat) (n : NetD) (uv va vt : Value) (b1 d1 b2 d2 : Nat) : Prop where
  k : Blk w p (gCells n uv va vt b1 d1 b2 d2) 101
  p : P p
  v : Tris w uv n.v
  av : Av P uv
  a : w.ownsRow 0 98 3 va n.a.length (flatT n.a)
  t : ∃ us, w.ownsRow 0 103 3 vt n.t.length (flatB n.t us) ∧ RowsP P w n.t us
  ins : SideAt P w b1 d1 n.v.length n.a.length (fun i => insL n.a i) (inP n)
  outs : SideAt P w b2 d2 n.v.length n.a.length (fun i => outsL n.a i) (outP n)
def GraphAt (P : Nat → Prop) (w : World) (p : Nat) (n : NetD) (va vt : Value) : Prop := ∃ uv b1 d1 b2 d2, GrS P w p n uv va vt b1 d1 b2 d2
section
variable {P Q : Nat → Prop} {w w' : World} {p : Nat} {n : NetD} {uv va vt : Value} {b1 d1 b2 d2 : Nat}
theorem GrS.keep (h : GrS P w p n uv va vt b1 d1 b2 d2) (hk : Keep Q w w') (hq : ∀ b, P b → Q b) (ha : ∀ b, va.ownBlock = some b → Q b) (ht : ∀ b, vt.ownBlock = some b → Q b) : GrS P w' p n uv va vt b1 d1 b2 d2 := by
  obtain ⟨us, t1, t2⟩ := h.t
  have hk' := hk.mono hq
  exact ⟨hk'.blk h.k h.p, h.p, h.v.keep h.av hk', h.av, owns_keep h.a hk ha, ⟨us, owns_keep t1 hk ht, t2.keep hk'⟩, h.ins.keep hk', h.outs.keep hk'⟩
theorem GrS.old (h : GrS P w p n uv va vt b1 d1 b2 d2) (hb : Below w.heap.size w w') : GrS P w' p n uv va vt b1 d1 b2 d2 := h.keep (Keep.of (P := fun _ => True) hb) (fun _ _ => trivial) (fun _ _ => trivial) (fun _ _ => trivial)
theorem GrS.mono (h : GrS P w p n uv va vt b1 d1 b2 d2) (hq : ∀ b, P b → Q b) : GrS Q w p n uv va vt b1 d1 b2 d2 := by
  obtain ⟨us, t1, t2⟩ := h.t
  exact ⟨h.k, hq _ h.p, h.v, h.av.mono hq, h.a, ⟨us, t1, t2.mono hq⟩, h.ins.mono hq, h.outs.mono hq⟩
theorem GraphAt.keep (h : GraphAt P w p n va vt) (hk : Keep Q w w') (hq : ∀ b, P b → Q b) (ha : ∀ b, va.ownBlock = some b → Q b) (ht : ∀ b, vt.ownBlock = some b → Q b) : GraphAt P w' p n va vt := by
  obtain ⟨uv, b1, d1, b2, d2, h⟩ := h
  exact ⟨uv, b1, d1, b2, d2, h.keep hk hq ha ht⟩
theorem GraphAt.old (h : GraphAt P w p n va vt) (hb : Below w.heap.size w w') : GraphAt P w' p n va vt := by
  obtain ⟨uv, b1, d1, b2, d2, h⟩ := h
  exact ⟨uv, b1, d1, b2, d2, h.old hb⟩
theorem GraphAt.mono (h : GraphAt P w p n va vt) (hq : ∀ b, P b → Q b) : GraphAt Q w p n va vt := by
  obtain ⟨uv, b1, d1, b2, d2, h⟩ := h
  exact ⟨uv, b1, d1, b2, d2, h.mono hq⟩
theorem GrS.shape (h : GrS P w p n uv va vt b1 d1 b2 d2) : ∃ vq aq tq vc ac tc, uv = .slice vq n.v.length vc ∧ va = .slice aq n.a.length ac ∧ vt = .slice tq n.t.length tc := by
  obtain ⟨us, t1, t2⟩ := h.t
  obtain ⟨vq, vc, e1⟩ := h.v.shape
  obtain ⟨aq, ac, e2⟩ := own_shape h.a
  obtain ⟨tq, tc, e3⟩ := own_shape t1
  exact ⟨vq, aq, tq, vc, ac, tc, e1, e2, e3⟩
theorem GrS.net {vq aq tq : Option Addr} {vc ac tc : Nat} (h : GrS P w p n (.slice vq n.v.length vc) (.slice aq n.a.length ac) (.slice tq n.t.length tc) b1 d1 b2 d2) (hn : GrN n) : NetS w n vq aq tq vc ac tc := by
  obtain ⟨us, t1, t2⟩ := h.t
  have h1 := hn.few.v
  have h2 := hn.few.a
  have h3 := hn.few.t
  exact ⟨h.v, tris_of_owns h.a (by omega), (tabs_of_rowsP (P := fun _ => True) t1 (fun _ _ => trivial) (t2.mono (fun _ _ => trivial)) (by omega)).tabs⟩
theorem GraphAt.arcs (h : GraphAt P w p n va vt) : MutR w va := by
  obtain ⟨uv, b1, d1, b2, d2, h⟩ := h
  exact ⟨_, _, _, Or.inl h.a⟩
theorem GraphAt.tabs (h : GraphAt P w p n va vt) : MutR w vt := by
  obtain ⟨uv, b1, d1, b2, d2, h⟩ := h
  obtain ⟨us, t1, -⟩ := h.t
  exact ⟨_, _, _, Or.inr t1⟩
end

end Go.Proofs.YtgihaakgadmidaaGreat

/-
  Rows that are cloned: slices.Clone of vertices, arcs, tables, numbers.
-/
namespace Go.Proofs.YtgihaakgadmidaaGreat
open Go.RowKit

/-- The cells of a row that lies at a. -/
def CellsOf (w : World) (a : Option Addr) (n : Nat) (xs : List Value) : Prop := n = 0 ∨ ∃ b o, a = some ⟨b, o, none⟩ ∧ ∀ j u, xs[j]? = some u → w.cell? ⟨b, o + j, none⟩ = some u
theorem CellsOf.below {w w' : World} {a : Option Addr} {n : Nat} {xs : List Value} (h : CellsOf w a n xs) (hb : Below w.heap.size w w') : CellsOf w' a n xs := by
  rcases h with h | ⟨b, o, e, hc⟩
  · exact Or.inl h
  · exact Or.inr ⟨b, o, e, fun j u hu => (hb.cell (World.block_lt_of_cell? w _ (hc j u hu))).trans (hc j u hu)⟩
theorem Tris.cells {w : World} {q : Option Addr} {n c : Nat} {l : List Tri} (h : Tris w (.slice q n c) l) : CellsOf w q n (flatT l) := by
  rcases h with ⟨rfl, p, c', e, -⟩ | ⟨hl, b, o, c', -, -, e, hc⟩
  · injection e with e1 e2
    exact Or.inl e2
  · injection e with e1 e2
    refine Or.inr ⟨b, o, e1, fun j u hu => ?_⟩
    have hj : j < l.length * 3 := by rw [← flatT_length]; exact (List.getElem?_eq_some_iff.1 hu).1
    obtain ⟨x, y, z⟩ := hc (j / 3) (by omega)
    obtain ⟨x', y', z'⟩ := flatT_at l (j / 3) (by omega)
    have h3 : j % 3 = 0 ∨ j % 3 = 1 ∨ j % 3 = 2 := by omega
    rcases h3 with h3 | h3 | h3
    · have e1 : j = j / 3 * 3 := by omega
      rw [e1] at hu ⊢
      rw [x'] at hu
      rw [← hu]; exact x
    · have e1 : j = j / 3 * 3 + 1 := by omega
      rw [e1] at hu ⊢
      rw [y'] at hu
      rw [← hu, ← Nat.add_assoc]; exact y
    · have e1 : j = j / 3 * 3 + 2 := by omega
      rw [e1] at hu ⊢
      rw [z'] at hu
      rw [← hu, ← Nat.add_assoc]; exact z
theorem flatB_length : ∀ (l : List Tab) (us : List Value), us.length = l.length → (flatB l us).length = l.length * 3
  | [], [], _ => rfl
  | [], _ :: _, h => by simp at h
  | _ :: _, [], h => by simp at h
  | x :: r, y :: us, h => by
    rw [flatB, List.length_cons, List.length_cons, List.length_cons, flatB_length r us (by simpa using h), List.length_cons]; omega
/-- Rows of tables: their rows' values. -/
theorem Tabs.rows {w : World} {q : Option Addr} {n c : Nat} {l : List Tab} (h : Tabs w (.slice q n c) l) : ∃ us : List Value, us.length = l.length ∧ CellsOf w q n (flatB l us) ∧ ∀ (i : Nat) (t : Tab) (u : Value), l[i]? = some t → us[i]? = some u → I64s w u t.2.2 := by
  rcases h with ⟨rfl, p, c', e, -⟩ | ⟨hl, b, o, c', -, -, e, hc⟩
  · injection e with e1 e2
    exact ⟨[], rfl, Or.inl e2, fun i t u h => by simp at h⟩
  · injection e with e1 e2
    have hall : ∃ g : Nat → Value, ∀ i (h : i < l.length), w.cell? ⟨b, o + i * 3, none⟩ = some (.int .i64 l[i].1) ∧ w.cell? ⟨b, o + i * 3 + 1, none⟩ = some (.int .i64 l[i].2.1) ∧ w.cell? ⟨b, o + i * 3 + 2, none⟩ = some (g i) ∧ I64s w (g i) l[i].2.2 :=
      ⟨fun i => if h : i < l.length then (hc i h).choose else undef, fun i h => by simp only [h, dif_pos]; exact (hc i h).choose_spec⟩
    obtain ⟨g, hg⟩ := hall
    have hlen : ((List.range l.length).map g).length = l.length := by simp
    refine ⟨(List.range l.length).map g, hlen, Or.inr ⟨b, o, e1, fun j u hu => ?_⟩, fun i t u h1 h2 => ?_⟩
    · have hj : j < l.length * 3 := by rw [← flatB_length l _ hlen]; exact (List.getElem?_eq_some_iff.1 hu).1
      have hj3 : j / 3 < l.length := by omega
      obtain ⟨x, y, z, -⟩ := hg (j / 3) hj3
      obtain ⟨x', y', z'⟩ := flatB_at l _ (j / 3) hj3 (by rw [hlen]; exact hj3)
      have h3 : j % 3 = 0 ∨ j % 3 = 1 ∨ j % 3 = 2 := by omega
      rcases h3 with h3 | h3 | h3
      · have e1 : j = j / 3 * 3 := by omega
        rw [e1] at hu ⊢
        rw [x'] at hu
        rw [← hu]; exact x
      · have e1 : j = j / 3 * 3 + 1 := by omega
        rw [e1] at hu ⊢
        rw [y'] at hu
        rw [← hu, ← Nat.add_assoc]; exact y
      · have e1 : j = j / 3 * 3 + 2 := by omega
        rw [e1] at hu ⊢
        rw [z'] at hu
        rw [← hu, ← Nat.add_assoc, z]
        simp
    · have hi : i < l.length := (List.getElem?_eq_some_iff.1 h1).1
      rw [List.getElem?_eq_getElem hi] at h1
      simp [hi] at h2
      obtain ⟨-, -, -, hk⟩ := hg i hi
      injection h1 with h1
      rw [← h1, ← h2]
      exact hk
theorem I64s.cells {w : World} {q : Option Addr} {n c : Nat} {l : List Int} (h : I64s w (.slice q n c) l) : CellsOf w q n (l.map (Value.int .i64)) := by
  rcases h with ⟨rfl, p, c', e, -⟩ | ⟨hl, b, o, c', -, -, e, hc⟩
  · injection e with e1 e2
    exact Or.inl e2
  · injection e with e1 e2
    refine Or.inr ⟨b, o, e1, fun j u hu => ?_⟩
    obtain ⟨hj, hu⟩ := List.getElem?_eq_some_iff.1 hu
    have hj' : j < l.length := by simpa using hj
    rw [hc j hj', ← hu, List.getElem_map]
/-- A row copied behind an empty literal. -/
theorem copyR {t e : TypeId} {z : Value} {size bytes : Nat} (ht : Tryz.prog.underlying t = some (.slice e)) (hinf : (Tryz.prog.info? e).map (fun i => (i.zero, i.size, i.bytes)) = some (some z, size, bytes)) (hzs : z.cells.size = size) (hsz : 0 < size) (hby : bytes ≤ 1000) {W : World} {base : Nat} {a : Option Addr} {n c : Nat} {xs : List Value}
    (hx : xs.length = n * size) (hv : CellsOf W a n xs) (ha : a = none → n = 0) (hs : n ≤ 100000) {g : Nat} (hE : W.ownsRow base e size (.slice (some ⟨g, 0, none⟩) 0 0) 0 []) (hb : base ≤ W.heap.size) :
    ∃ v' w', (Builtin.append_ #[t, t] t #[.slice (some ⟨g, 0, none⟩) 0 0, .slice a n c]).run Tryz.prog W = .ok v' w' ∧ w'.ownsRow base e size v' n xs ∧ Below W.heap.size W w' := by
  obtain ⟨i0, hi, hz0, hz1, hz2⟩ := info_parts hinf
  subst hz1
  subst hz2
  have emp : ∀ (ad : Addr) (c : Nat), (Builtin.append_ #[t, t] t #[.slice (some ⟨g, 0, none⟩) 0 0, .slice (some ad) 0 c]).run Tryz.prog W = .ok (.slice (some ⟨g, 0, none⟩) 0 0) W := fun ad c => by
    have := run_append_room_cells (P := Tryz.prog) (w := W) t t e i0 ht hi g 0 0 0 ad 0 c [] (by simp) (by intro j u h; simp at h) (by intro u h; cases h) (by omega) (by intro j h; simp at h) (by intro j h; simp at h)
    simpa [World.setCells] using this
  by_cases h0 : n = 0
  · subst h0
    obtain rfl : xs = [] := List.length_eq_zero_iff.1 (by omega)
    refine ⟨.slice (some ⟨g, 0, none⟩) 0 0, W, ?_, hE, Below.refl _ _⟩
    cases a with
    | none => simp [Builtin.append_, run_underlying ht, sizeOf, typeInfo, hi, Builtin.lenOf, Builtin.firstCells, storeCells]
    | some ad => exact emp ad c
  · rcases hv with h | ⟨b, o, rfl, hc⟩
    · exact absurd h h0
    · have hb0 : n * i0.bytes ≤ 100000 * 1000 := Nat.mul_le_mul hs hby
      obtain ⟨v', w', hr, h1, h2⟩ := run_append_arg_grows (P := Tryz.prog) (w := W) t t e i0 z i0.size i0.bytes ht hi hz0 rfl rfl hzs hsz ⟨g, 0, none⟩ 0 0 [] (by simp) (by intro j u h; simp at h) ⟨b, o, none⟩ n c xs hx
        (fun j u hu => by
          have ea : (⟨b, o, none⟩ : Addr).add j = ⟨b, o + j, none⟩ := by unfold Addr.add; split <;> simp_all
          rw [ea]
          exact hc j u hu) (by omega) (by simp [maxLen]; omega) (by rw [Nat.zero_add]; omega)
      rw [List.nil_append, Nat.zero_add] at h1
      refine ⟨v', w', hr, ?_, (Below.refl _ _).grown h2 (Nat.le_refl _) (by intro k hk; cases hk)⟩
      refine ⟨h1.1, h1.2.imp id ?_⟩
      rintro ⟨g', cap, cur, e1, hg, r⟩
      exact ⟨g', cap, cur, e1, by omega, r⟩
/-- v points to a block of the call's own. -/
def PtrC (W : World) (cs : Array Value) (t : TypeId) (v : Value) (w : World) : Prop := ∃ b, v = .pointer (some ⟨b, 0, none⟩) ∧ W.heap.size ≤ b ∧ Blk w b cs t
theorem PtrC.below {W w w' : World} {cs : Array Value} {t : TypeId} {v : Value} (h : PtrC W cs t v w) (hb : Below w.heap.size w w') : PtrC W cs t v w' := by
  obtain ⟨b, e, h1, h2⟩ := h
  exact ⟨b, e, h1, h2.keep hb⟩
theorem infoPTab : (Tryz.prog.info? 103).map (fun i => (i.zero, i.size, i.bytes)) = some (some (.agg #[.int .i64 0, .int .i64 0, .slice none 0 0]), 3, 40) := by kernel_rfl

set_option maxHeartbeats 1000000 in
set_option maxRecDepth 100000 in
theorem cloneV (a : Option Addr) (n c : Nat) (xs : List Value) (w : World) (hx : xs.length = n * 3) (hv : CellsOf w a n xs) (ha : a = none → n = 0) (hs : n ≤ 100000) :
    Calls Tryz.prog 83 #[.slice a n c] w fun e w' => ∃ v, e = .returned v ∧ w'.ownsRow w.heap.size 102 3 v n xs ∧ Below w.heap.size w w' := by
  cases a with
  | none =>
    obtain rfl : n = 0 := ha rfl
    obtain rfl : xs = [] := List.length_eq_zero_iff.1 (by omega)
    clear hx hv ha hs
    have hq := Lib.run_eql_slice_nil (P := Tryz.prog) w 58 102 none 0 c 0 0 Tryz.underlying58
    go_enter Tryz.func83, Tryz.ntmps83
    go_wp2
    go_ret
    exact ⟨_, rfl, World.ownsRow_nil _ _ _ _, Below.refl _ _⟩
  | some p =>
    obtain ⟨v', w1, hr, h1, h2⟩ := copyR (c := c) (base := w.heap.size) Tryz.underlying58 infoVert rfl (by decide) (by decide) (W := w.alloc (.cells #[] 102)) hx (hv.below (below_new _)) ha hs (g := w.heap.size) (World.ownsRow_lit w #[] 0 (Nat.le_refl _) (by simp [maxLen]) (by simp)) (by simp)
    have HR := Lib.hid hr
    have HO := Lib.hid h1
    have HB : Hid (Below w.heap.size w w1) := Lib.hid ((below_new _).trans (h2.mono (by simp)))
    clear hv hr h1 h2 hx ha hs
    have hq := Lib.run_eql_slice_nil (P := Tryz.prog) w 58 102 (some p) n c 0 0 Tryz.underlying58
    go_enter Tryz.func83, Tryz.ntmps83
    go_wp2_with (at_builtin; refine wpList_append_run (by rfl) _ _ _ rfl _ _ _ rfl rfl HR.out ?_)
    go_wp2
    go_ret
    exact ⟨_, rfl, HO.out, HB.out⟩

set_option maxHeartbeats 1000000 in
set_option maxRecDepth 100000 in
theorem cloneA (a : Option Addr) (n c : Nat) (xs : List Value) (w : World) (hx : xs.length = n * 3) (hv : CellsOf w a n xs) (ha : a = none → n = 0) (hs : n ≤ 100000) :
    Calls Tryz.prog 84 #[.slice a n c] w fun e w' => ∃ v, e = .returned v ∧ w'.ownsRow w.heap.size 98 3 v n xs ∧ Below w.heap.size w w' := by
  cases a with
  | none =>
    obtain rfl : n = 0 := ha rfl
    obtain rfl : xs = [] := List.length_eq_zero_iff.1 (by omega)
    clear hx hv ha hs
    have hq := Lib.run_eql_slice_nil (P := Tryz.prog) w 59 98 none 0 c 0 0 Tryz.underlying59
    go_enter Tryz.func84, Tryz.ntmps84
    go_wp2
    go_ret
    exact ⟨_, rfl, World.ownsRow_nil _ _ _ _, Below.refl _ _⟩
  | some p =>
    obtain ⟨v', w1, hr, h1, h2⟩ := copyR (c := c) (base := w.heap.size) Tryz.underlying59 infoArc rfl (by decide) (by decide) (W := w.alloc (.cells #[] 98)) hx (hv.below (below_new _)) ha hs (g := w.heap.size) (World.ownsRow_lit w #[] 0 (Nat.le_refl _) (by simp [maxLen]) (by simp)) (by simp)
    have HR := Lib.hid hr
    have HO := Lib.hid h1
    have HB : Hid (Below w.heap.size w w1) := Lib.hid ((below_new _).trans (h2.mono (by simp)))
    clear hv hr h1 h2 hx ha hs
    have hq := Lib.run_eql_slice_nil (P := Tryz.prog) w 59 98 (some p) n c 0 0 Tryz.underlying59
    go_enter Tryz.func84, Tryz.ntmps84
    go_wp2_with (at_builtin; refine wpList_append_run (by rfl) _ _ _ rfl _ _ _ rfl rfl HR.out ?_)
    go_wp2
    go_ret
    exact ⟨_, rfl, HO.out, HB.out⟩

set_option maxHeartbeats 1000000 in
set_option maxRecDepth 100000 in
theorem cloneB (a : Option Addr) (n c : Nat) (xs : List Value) (w : World) (hx : xs.length = n * 3) (hv : CellsOf w a n xs) (ha : a = none → n = 0) (hs : n ≤ 100000) :
    Calls Tryz.prog 85 #[.slice a n c] w fun e w' => ∃ v, e = .returned v ∧ w'.ownsRow w.heap.size 103 3 v n xs ∧ Below w.heap.size w w' := by
  cases a with
  | none =>
    obtain rfl : n = 0 := ha rfl
    obtain rfl : xs = [] := List.length_eq_zero_iff.1 (by omega)
    clear hx hv ha hs
    have hq := Lib.run_eql_slice_nil (P := Tryz.prog) w 60 103 none 0 c 0 0 Tryz.underlying60
    go_enter Tryz.func85, Tryz.ntmps85
    go_wp2
    go_ret
    exact ⟨_, rfl, World.ownsRow_nil _ _ _ _, Below.refl _ _⟩
  | some p =>
    obtain ⟨v', w1, hr, h1, h2⟩ := copyR (c := c) (base := w.heap.size) Tryz.underlying60 infoPTab rfl (by decide) (by decide) (W := w.alloc (.cells #[] 103)) hx (hv.below (below_new _)) ha hs (g := w.heap.size) (World.ownsRow_lit w #[] 0 (Nat.le_refl _) (by simp [maxLen]) (by simp)) (by simp)
    have HR := Lib.hid hr
    have HO := Lib.hid h1
    have HB : Hid (Below w.heap.size w w1) := Lib.hid ((below_new _).trans (h2.mono (by simp)))
    clear hv hr h1 h2 hx ha hs
    have hq := Lib.run_eql_slice_nil (P := Tryz.prog) w 60 103 (some p) n c 0 0 Tryz.underlying60
    go_enter Tryz.func85, Tryz.ntmps85
    go_wp2_with (at_builtin; refine wpList_append_run (by rfl) _ _ _ rfl _ _ _ rfl rfl HR.out ?_)
    go_wp2
    go_ret
    exact ⟨_, rfl, HO.out, HB.out⟩

set_option maxHeartbeats 1000000 in
set_option maxRecDepth 100000 in
theorem cloneI (a : Option Addr) (n c : Nat) (xs : List Value) (w : World) (hx : xs.length = n * 1) (hv : CellsOf w a n xs) (ha : a = none → n = 0) (hs : n ≤ 100000) :
    Calls Tryz.prog 92 #[.slice a n c] w fun e w' => ∃ v, e = .returned v ∧ w'.ownsRow w.heap.size 3 1 v n xs ∧ Below w.heap.size w w' := by
  cases a with
  | none =>
    obtain rfl : n = 0 := ha rfl
    obtain rfl : xs = [] := List.length_eq_zero_iff.1 (by omega)
    clear hx hv ha hs
    have hq := Lib.run_eql_slice_nil (P := Tryz.prog) w 43 3 none 0 c 0 0 Tryz.underlying43
    go_enter Tryz.func92, Tryz.ntmps92
    go_wp2
    go_ret
    exact ⟨_, rfl, World.ownsRow_nil _ _ _ _, Below.refl _ _⟩
  | some p =>
    obtain ⟨v', w1, hr, h1, h2⟩ := copyR (c := c) (base := w.heap.size) Tryz.underlying43 infoInt rfl (by decide) (by decide) (W := w.alloc (.cells #[] 3)) hx (hv.below (below_new _)) ha hs (g := w.heap.size) (World.ownsRow_lit w #[] 0 (Nat.le_refl _) (by simp [maxLen]) (by simp)) (by simp)
    have HR := Lib.hid hr
    have HO := Lib.hid h1
    have HB : Hid (Below w.heap.size w w1) := Lib.hid ((below_new _).trans (h2.mono (by simp)))
    clear hv hr h1 h2 hx ha hs
    have hq := Lib.run_eql_slice_nil (P := Tryz.prog) w 43 3 (some p) n c 0 0 Tryz.underlying43
    go_enter Tryz.func92, Tryz.ntmps92
    go_wp2_with (at_builtin; refine wpList_append_run (by rfl) _ _ _ rfl _ _ _ rfl rfl HR.out ?_)
    go_wp2
    go_ret
    exact ⟨_, rfl, HO.out, HB.out⟩

end Go.Proofs.YtgihaakgadmidaaGreat
