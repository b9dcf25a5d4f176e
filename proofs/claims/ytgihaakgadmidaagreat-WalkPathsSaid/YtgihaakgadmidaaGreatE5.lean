/-
  The graph's calls, by values; the law's own Same: is a graph just that net?
-/
import Derived.Test.YtgihaakgadmidaaGreatE3
import Derived.Test.YtgihaakgadmidaaGreatLaw3O
import Derived.Test.YtgihaakgadmidaaGreatD1
import Derived.Test.YtgihaakgadmidaaGreatIntsIn
import Derived.Test.YtgihaakgadmidaaGreatE4
namespace Go.Proofs.YtgihaakgadmidaaGreat
open Go.RowKit

theorem bOn6 {w0 w w' : World} (h : Below w0.heap.size w0 w) (hb : Below w.heap.size w w') : Below w0.heap.size w0 w' := h.trans (hb.mono h.size)
section
variable {P : Nat → Prop} {w : World} {p : Nat} {n : NetD} {va vt : Value}
theorem vArcs (h : GraphAt P w p n va vt) : Calls Tryz.prog 62 #[gp p] w fun e w' => e = .returned (.int .i64 n.a.length) ∧ Below w.heap.size w w' := by
  obtain ⟨uv, b1, d1, b2, d2, h⟩ := h
  exact (garcs_is h).mono (fun e w2 h => ⟨h.1, h.2 ▸ Below.refl _ _⟩)
theorem vFrom (h : GraphAt P w p n va vt) {k : Nat} (hk : k < n.a.length) {X : Int} (hX : n.a[k].1 = X) : Calls Tryz.prog 45 #[gp p, .int .i64 k] w fun e w' => e = .returned (.int .i64 X) ∧ Below w.heap.size w w' := by
  obtain ⟨uv, b1, d1, b2, d2, h⟩ := h
  exact (hX ▸ gfrom_in h k hk).mono (fun e w2 h => ⟨h.1, h.2 ▸ Below.refl _ _⟩)
theorem vTo (h : GraphAt P w p n va vt) {k : Nat} (hk : k < n.a.length) {X : Int} (hX : n.a[k].2.1 = X) : Calls Tryz.prog 57 #[gp p, .int .i64 k] w fun e w' => e = .returned (.int .i64 X) ∧ Below w.heap.size w w' := by
  obtain ⟨uv, b1, d1, b2, d2, h⟩ := h
  exact (hX ▸ gto_in h k hk).mono (fun e w2 h => ⟨h.1, h.2 ▸ Below.refl _ _⟩)
theorem vWeight (h : GraphAt P w p n va vt) {k : Nat} (hk : k < n.a.length) {X : Int} (hX : n.a[k].2.2 = X) : Calls Tryz.prog 60 #[gp p, .int .i64 k] w fun e w' => e = .returned (.int .i64 X) ∧ Below w.heap.size w w' := by
  obtain ⟨uv, b1, d1, b2, d2, h⟩ := h
  exact (hX ▸ gweight_in h k hk).mono (fun e w2 h => ⟨h.1, h.2 ▸ Below.refl _ _⟩)
theorem vWeight0 (h : GraphAt P w p n va vt) {a : Int} (ha : n.there a = false) : Calls Tryz.prog 60 #[gp p, .int .i64 a] w fun e w' => e = .returned (.int .i64 (1152921504606846976)) ∧ Below w.heap.size w w' := by
  obtain ⟨uv, b1, d1, b2, d2, h⟩ := h
  exact (gweight_out h a ha).mono (fun e w2 h => ⟨h.1, h.2 ▸ Below.refl _ _⟩)
theorem vTurnG (h : GraphAt P w p n va vt) (hn : GrN n) {a b X : Int} (hX : n.turn a b = X) : Calls Tryz.prog 46 #[gp p, .int .i64 a, .int .i64 b] w fun e w' => e = .returned (.int .i64 X) ∧ Below w.heap.size w w' := by
  obtain ⟨uv, b1, d1, b2, d2, h⟩ := h
  rw [← hX]
  exact gturn_any h hn a b
theorem vInsG (h : GraphAt P w p n va vt) (hn : GrN n) (x : Int) {l : List Int} (hl : insL n.a x = l) : Calls Tryz.prog 44 #[gp p, .int .i64 x] w fun e w' => ∃ v, e = .returned v ∧ I64s w' v l ∧ Below w.heap.size w w' := by
  obtain ⟨uv, b1, d1, b2, d2, h⟩ := h
  rw [← hl]
  exact gins_any h hn x
theorem vOutsG (h : GraphAt P w p n va vt) (hn : GrN n) (x : Int) {l : List Int} (hl : outsL n.a x = l) : Calls Tryz.prog 56 #[gp p, .int .i64 x] w fun e w' => ∃ v, e = .returned v ∧ I64s w' v l ∧ Below w.heap.size w w' := by
  obtain ⟨uv, b1, d1, b2, d2, h⟩ := h
  rw [← hl]
  exact gouts_any h hn x
end

end Go.Proofs.YtgihaakgadmidaaGreat

/-
  A law's one graph: what is carried from call to call.
-/
namespace Go.Proofs.YtgihaakgadmidaaGreat
open Go.RowKit

/-- A graph that was made behind w0, and nothing that was there in w0 has turned. -/
structure Gr1 (w0 w : World) (p : Nat) (n : NetD) (va vt : Value) : Prop where
  g : GraphAt (Off [va, vt]) w p n va vt
  n : GrN n
  b : Below w0.heap.size w0 w
  o : ∀ b, b < w0.heap.size → Off [va, vt] b
section
variable {w0 w w' : World} {p : Nat} {n m : NetD} {va vt v : Value}
theorem Gr1.old (h : Gr1 w0 w p n va vt) (hb : Below w.heap.size w w') : Gr1 w0 w' p n va vt := ⟨h.g.old hb, h.n, bOn6 h.b hb, h.o⟩
theorem Gr1.mut (h : Gr1 w0 w p n va vt) : ∀ v ∈ [va, vt], MutR w v := by
  intro v hv
  simp at hv
  rcases hv with rfl | rfl
  · exact h.g.arcs
  · exact h.g.tabs
/-- A block of another kind stays. -/
theorem Gr1.blk (h : Gr1 w0 w p n va vt) (hk : Keep (Off [va, vt]) w w') {b : Nat} {cs : Array Value} {t : TypeId} (hb : Blk w b cs t) (h1 : 98 ≠ t) (h2 : 103 ≠ t) : Blk w' b cs t := hk.blk hb (off_blk h.mut hb h1 h2)
theorem Off.two {va vt : Value} {b : Nat} (h1 : ∀ x, va.ownBlock = some x → x ≠ b) (h2 : ∀ x, vt.ownBlock = some x → x ≠ b) : Off [va, vt] b := by
  intro v hv e
  simp at hv
  rcases hv with rfl | rfl
  · exact h1 b e rfl
  · exact h2 b e rfl
theorem vNewG (hb0 : Below w0.heap.size w0 w) (h : NetV w v n) (hn : GrN n) (hok : chkN n = fltOK) :
    Calls Tryz.prog 24 #[v] w fun e w' => ∃ p va vt, e = .returned (.tuple #[gp p, .nilIface]) ∧ Gr1 w0 w' p n va vt ∧ Below w.heap.size w w' := by
  refine (gnew_ok h hn hok).mono ?_
  rintro e w' ⟨p, va, vt, h1, h2, h3, h4, h5⟩
  have hz := hb0.size
  exact ⟨p, va, vt, h1, ⟨h2.mono (fun b h => h.1), hn, bOn6 hb0 h5, fun b hb => Off.two (fun x e => by have := h3 x e; omega) (fun x e => by have := h4 x e; omega)⟩, h5⟩
end

end Go.Proofs.YtgihaakgadmidaaGreat
