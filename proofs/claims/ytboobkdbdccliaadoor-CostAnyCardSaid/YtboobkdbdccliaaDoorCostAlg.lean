/-
  The algebra of costs: no program stands here.
-/
import Derived.Test.YtboobkdbdccliaaDoorCostM
namespace Go.Proofs.YtboobkdbdccliaaDoor

theorem hld_cases (a : Int) (h : 0 ≤ a) : (a ≤ 1152921504606846976 ∧ hld a = a) ∨ (1152921504606846976 < a ∧ hld a = 1152921504606846976) := by
  by_cases h1 : a ≤ 1152921504606846976
  · exact Or.inl ⟨h1, hld_in a h h1⟩
  · exact Or.inr ⟨by omega, hld_big a (by omega)⟩
theorem addC_comm (a b : Int) : addC a b = addC b a := by unfold addC; rw [Int.add_comm]
theorem addC_assoc (a b c : Int) : addC (addC a b) c = addC a (addC b c) := by
  unfold addC
  have ha := hld_lo a
  have hb := hld_lo b
  have hc := hld_lo c
  rw [hld_hld, hld_hld]
  generalize hld a = x at *
  generalize hld b = y at *
  generalize hld c = z at *
  have h1 := hld_cases (x + y) (by omega)
  have h2 := hld_cases (y + z) (by omega)
  have h3 := hld_cases (hld (x + y) + z) (by omega)
  have h4 := hld_cases (x + hld (y + z)) (by omega)
  omega
theorem addC_zero (a : Int) : addC a 0 = hld a := by
  unfold addC
  rw [show hld 0 = 0 from rfl, Int.add_zero, hld_hld]
theorem addC_ge (a b : Int) : hld a ≤ addC a b := by
  have ha := hld_hi a
  have hb := hld_lo b
  have ha' := hld_lo a
  unfold addC
  have := hld_cases (hld a + hld b) (by omega)
  omega
theorem addC_inf (a : Int) : addC a 1152921504606846976 = 1152921504606846976 := by
  have ha := hld_lo a
  unfold addC
  rw [show hld 1152921504606846976 = 1152921504606846976 from rfl]
  have := hld_cases (hld a + 1152921504606846976) (by omega)
  omega
theorem addC_in (a b : Int) : hld (addC a b) = addC a b := hld_hld _
theorem sumC_three (a b c : Int) : sumC 0 [c, a, b] = addC (addC a b) c := by
  show addC (addC (addC 0 c) a) b = _
  rw [addC_comm 0 c, addC_zero, addC_assoc (hld c) a b, addC_comm (hld c), show addC (addC a b) (hld c) = addC (addC a b) c by unfold addC; rw [hld_hld c]]


end Go.Proofs.YtboobkdbdccliaaDoor
