/-
  The document's CopyNet: another net, whose rows are its own.
-/
import Derived.Test.YtgihaakgadmidaaGreatLaw3R
namespace Go.Proofs.YtgihaakgadmidaaGreat
open Go.RowKit

/-- A net's rows are a call's own. -/
structure OwnN (w : World) (base : Nat) (n : NetD) (uv ua ut : Value) (us : List Value) : Prop where
  v : w.ownsRow base 70 3 uv n.v.length (flatT n.v)
  a : w.ownsRow base 65 3 ua n.a.length (flatT n.a)
  t : w.ownsRow base 68 3 ut n.t.length (flatB n.t us)
  r : RowsI w n.t us
def Emp3 (base : Nat) (e : TypeId) (s : Nat) (v : Value) (w : World) : Prop := ∃ g, v = .slice (some ⟨g, 0, none⟩) 0 0 ∧ w.ownsRow base e s v 0 []
theorem Emp3.below {base : Nat} {e : TypeId} {s : Nat} {v : Value} {w w' : World} (h : Emp3 base e s v w) (hb : Below w.heap.size w w') : Emp3 base e s v w' := by
  obtain ⟨g, h1, h2⟩ := h
  exact ⟨g, h1, owns_below h2 hb⟩
theorem Emp3.new {base : Nat} {e : TypeId} {s : Nat} {w : World} (hb : base ≤ w.heap.size) : Emp3 base e s (.slice (some ⟨w.heap.size, 0, none⟩) 0 0) (w.alloc (.cells #[] e)) :=
  ⟨w.heap.size, rfl, World.ownsRow_lit w #[] 0 hb (by simp [maxLen]) (by simp)⟩
def CopyAgg (base : Nat) (n : NetD) (v : Value) (w : World) : Prop := ∃ q0 c0 q1 c1, v = .agg #[.slice q0 n.v.length c0, .slice q1 n.a.length c1, .slice none 0 0] ∧ w.ownsRow base 70 3 (.slice q0 n.v.length c0) n.v.length (flatT n.v) ∧ w.ownsRow base 65 3 (.slice q1 n.a.length c1) n.a.length (flatT n.a)
theorem CopyAgg.below {base : Nat} {n : NetD} {v : Value} {w w' : World} (h : CopyAgg base n v w) (hb : Below w.heap.size w w') : CopyAgg base n v w' := by
  obtain ⟨q0, c0, q1, c1, e, h1, h2⟩ := h
  exact ⟨q0, c0, q1, c1, e, owns_below h1 hb, owns_below h2 hb⟩
def PtrRNet (W : World) (v : Value) (w : World) : Prop := ∃ b, v = .pointer (some ⟨b, 0, none⟩) ∧ W.heap.size ≤ b ∧ Blk w b #[.slice none 0 0, .slice none 0 0, .slice none 0 0] 26
theorem PtrRNet.below {W w w' : World} {v : Value} (h : PtrRNet W v w) (hb : Below w.heap.size w w') : PtrRNet W v w' := by
  obtain ⟨b, e, h1, h2⟩ := h
  exact ⟨b, e, h1, h2.keep hb⟩

end Go.Proofs.YtgihaakgadmidaaGreat
