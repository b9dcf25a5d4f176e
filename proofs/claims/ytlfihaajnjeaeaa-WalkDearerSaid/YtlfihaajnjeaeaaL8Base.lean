/-
  What the laws of the least walks have in common.
-/
import Derived.Test.YtlfihaajnjeaeaaK8
import Derived.IntWalk
namespace Go.Proofs.Ytlfihaajnjeaeaa
open HP Go.RowKit

theorem quiet_add8 (a b x : Int) (w : World) (h0 : -9223372036854775808 ≤ a) (h1 : a ≤ 9223372036854775807) (h2 : -9223372036854775808 ≤ b) (h3 : b ≤ 9223372036854775807) (hx : addC a b = x) :
    Calls Try.prog 11 #[.int .i64 a, .int .i64 b] w fun e w' => e = .returned (.int .i64 x) ∧ w' = w := (add_any a b w h0 h1 h2 h3).mono (fun e w' h => ⟨by rw [h.1, hx], h.2.symm⟩)
theorem I64s.cellsAt {w : World} {q : Option Addr} {n c : Nat} {l : List Int} (h : I64s w (.slice q n c) l) (h0 : 0 < l.length) : ∃ b o, q = some ⟨b, o, none⟩ ∧ b < w.heap.size ∧ ∀ i, i < l.length → w.cell? ⟨b, o + i, none⟩ = some (.int .i64 (ctL l i)) := by
  rcases h with ⟨rfl, _⟩ | ⟨_, b, o, c', _, _, e, hc⟩
  · simp at h0
  · injection e with e1
    exact ⟨b, o, e1, World.block_lt_of_cell? w _ (hc 0 h0), fun i hi => by rw [ctL_at hi]; exact hc i hi⟩
theorem rem8 {a : Int} {N : Nat} (h : 0 ≤ a) (hN : 0 < N) : ∃ s : Nat, a.tmod (N : Int) = (s : Int) ∧ s < N := by
  have h1 : 0 ≤ a % (N : Int) := Int.emod_nonneg _ (by omega)
  have h2 : a % (N : Int) < (N : Int) := Int.emod_lt_of_pos _ (by omega)
  exact ⟨(a % (N : Int)).toNat, by rw [Int.tmod_eq_emod_of_nonneg h]; omega, by omega⟩

end Go.Proofs.Ytlfihaajnjeaeaa
