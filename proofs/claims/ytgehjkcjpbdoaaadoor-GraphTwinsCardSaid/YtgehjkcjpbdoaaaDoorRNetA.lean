/-
  The document's nets: which arcs end, begin, at a vertex; a number's place in a row; is it an arc?
-/
import Derived.Test.YtgehjkcjpbdoaaaDoorA1
import Derived.Test.YtgehjkcjpbdoaaaDoorCarry
import Derived.Lib.Hide
import Derived.WalkSmall
namespace Go.Proofs.YtgehjkcjpbdoaaaDoor
open Go.RowKit

/-- What a call answers that tells a row of numbers. -/
def IntsPost (l : List Int) (w : World) (ev : Ending) (w' : World) : Prop := ∃ v, ev = .returned v ∧ I64s w' v l ∧ Below w.heap.size w w'
/-- A net's value. -/
abbrev netVal (n : NetD) (vq aq tq : Option Addr) (vc ac tc : Nat) : Value := .agg #[.slice vq n.v.length vc, .slice aq n.a.length ac, .slice tq n.t.length tc]
theorem below_new {w : World} (a : Obj) : Below w.heap.size w (w.alloc a) := (Below.refl _ _).alloc (Nat.le_refl _) _

theorem infoInt : (Tryd.prog.info? 3).map (fun i => (i.zero, i.size, i.bytes)) = some (some (.int .i64 0), 1, 8) := by kernel_rfl
theorem own_ne {w : World} {base : Nat} {e : TypeId} {size : Nat} {v : Value} {n : Nat} {xs : List Value} (h : w.ownsRow base e size v n xs) {b : Nat} (hb : b < base) : v.ownBlock ≠ some b := by
  rcases h.2 with ⟨rfl, _⟩ | ⟨g, cap, cur, rfl, hg, _⟩
  · simp [Value.ownBlock]
  · simp only [Value.ownBlock, ne_eq, Option.some.injEq]; omega
theorem own_ge {w : World} {base : Nat} {e : TypeId} {size : Nat} {v : Value} {n : Nat} {xs : List Value} (h : w.ownsRow base e size v n xs) : ∀ g, v.ownBlock = some g → base ≤ g := by
  intro g hg
  rcases h.2 with ⟨rfl, _⟩ | ⟨g', cap, cur, rfl, hb, _⟩
  · simp [Value.ownBlock] at hg
  · simp only [Value.ownBlock, Option.some.injEq] at hg; omega
theorem Blk.grownO {w w' : World} {b : Nat} {cs : Array Value} {t : TypeId} {r : Option Nat} (h : Blk w b cs t) (hg : w.grownBy w' r) (hne : r ≠ some b) : Blk w' b cs t := (hg.block b h.lt hne.symm).trans h
theorem below_grownO {w W0 wr : World} {r : Option Nat} (hb : Below w.heap.size w W0) (hg : W0.grownBy wr r) (h : ∀ g, r = some g → w.heap.size ≤ g) : Below w.heap.size w wr :=
  hb.grown hg hb.size (fun g hr => h g (by simpa using hr))
theorem ints_of_owns {w : World} {base : Nat} {e : TypeId} {v : Value} {n : Nat} {l : List Int} (h : w.ownsRow base e 1 v n (l.map (Value.int .i64))) (hl : l.length ≤ 9223372036854775807) : I64s w v l := by
  have hn : n = l.length := by have := h.1; simp at this; omega
  subst hn
  rcases h.2 with ⟨rfl, e⟩ | ⟨g, cap, cur, rfl, _, _, hnc, hcm, _, _⟩
  · have : l = [] := List.length_eq_zero_iff.1 e
    subst this
    exact Or.inl ⟨rfl, none, 0, rfl, fun _ => rfl⟩
  · refine Or.inr ⟨hl, g, 0, cap, hnc, by unfold maxLen at hcm; omega, rfl, fun i hi => ?_⟩
    rw [Nat.zero_add, h.cellAt i (by omega)]
    simp [hi]
/-- One more is looked at: kept, or not. -/
theorem idx_take {p : Tri → Bool} {l : List Tri} {k : Nat} (h : k < l.length) : idxFrom p 0 (l.take (k + 1)) = idxFrom p 0 (l.take k) ++ (if p l[k] = true then [(k : Int)] else []) := by
  rw [take_snoc l k h, idxFrom_snoc, List.length_take, Nat.min_eq_left (by omega), Int.zero_add]
theorem idx_le {p : Tri → Bool} {l : List Tri} {k : Nat} (h : k ≤ l.length) : (idxFrom p 0 (l.take k)).length ≤ k := by
  have := idxFrom_length p 0 (l.take k)
  rw [List.length_take] at this
  omega

set_option maxHeartbeats 1000000 in
theorem rthere_any (n : NetD) (vq aq tq : Option Addr) (vc ac tc : Nat) (k : Int) (w : World) :
    Calls Tryd.prog 62 #[netVal n vq aq tq vc ac tc, .int .i64 k] w fun e w' => e = .returned (.bool (n.there k)) ∧ Below w.heap.size w w' := by
  have hres : ∃ r, n.there k = r := ⟨_, rfl⟩
  obtain ⟨r, er⟩ := hres
  rw [er]
  unfold NetD.there at er
  by_cases h0 : 0 ≤ k
  · by_cases h1 : k < n.a.length
    · obtain rfl : r = true := by rw [← er]; simp [h0, h1]
      clear er
      have d0 : decide (0 ≤ k) = true := by simpa using h0
      go_enter Tryd.func62, Tryd.ntmps62
      go_wp2
      go_ret
      exact ⟨rfl, below_new _⟩
    · obtain rfl : r = false := by rw [← er]; simp; omega
      clear er
      have d0 : decide (0 ≤ k) = true := by simpa using h0
      have d1 : decide (k < (n.a.length : Int)) = false := by simp; omega
      go_enter Tryd.func62, Tryd.ntmps62
      go_wp2
      go_ret
      exact ⟨rfl, below_new _⟩
  · obtain rfl : r = false := by rw [← er]; simp; omega
    clear er
    have d0 : decide (0 ≤ k) = false := by simp; omega
    go_enter Tryd.func62, Tryd.ntmps62
    go_wp2
    go_ret
    exact ⟨rfl, below_new _⟩

end Go.Proofs.YtgehjkcjpbdoaaaDoor
