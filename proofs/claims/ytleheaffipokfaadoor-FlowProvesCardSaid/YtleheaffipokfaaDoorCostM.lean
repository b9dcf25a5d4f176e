/-
  Plain mathematics of costs: no program stands here.
-/
import Derived.WalkKit
namespace Go.Proofs.YtleheaffipokfaaDoor

theorem ret_int {k : IntKind} {a b : Int} (h : a = b) : Ending.returned (.int k a) = .returned (.int k b) := by rw [h]
theorem ret_bool {a b : Bool} (h : a = b) : Ending.returned (.bool a) = .returned (.bool b) := by rw [h]
theorem ret_str {a b : ByteArray} (h : a = b) : Ending.returned (.string a) = .returned (.string b) := by rw [h]
theorem ret_tup1 {k : IntKind} {a b : Int} {x : Value} (h : a = b) : Ending.returned (.tuple #[.int k a, x]) = .returned (.tuple #[.int k b, x]) := by rw [h]
theorem ret_int_int {k l : IntKind} {a b c d : Int} (h : a = b) (h' : c = d) : Ending.returned (.tuple #[.int k a, .int l c]) = .returned (.tuple #[.int k b, .int l d]) := by rw [h, h']

/-- A number, held to what a cost may be. -/
def hld (a : Int) : Int := if a < 0 then 0 else if 1152921504606846976 < a then 1152921504606846976 else a
theorem hld_lo (a : Int) : 0 ≤ hld a := by unfold hld; split <;> (try split) <;> omega
theorem hld_hi (a : Int) : hld a ≤ 1152921504606846976 := by unfold hld; split <;> (try split) <;> omega
theorem hld_in (a : Int) (h : 0 ≤ a) (h' : a ≤ 1152921504606846976) : hld a = a := by unfold hld; split <;> (try split) <;> omega
theorem hld_hld (a : Int) : hld (hld a) = hld a := hld_in _ (hld_lo a) (hld_hi a)
theorem hld_neg (a : Int) (h : a < 0) : hld a = 0 := by unfold hld; rw [if_pos h]
theorem hld_big (a : Int) (h : 1152921504606846976 < a) : hld a = 1152921504606846976 := by unfold hld; split <;> (try split) <;> omega
/-- The sum of two, held. -/
def addC (a b : Int) : Int := hld (hld a + hld b)
theorem addC_lo (a b : Int) : 0 ≤ addC a b := hld_lo _
theorem addC_hi (a b : Int) : addC a b ≤ 1152921504606846976 := hld_hi _
/-- The sum of a row, from a beginning on. -/
def sumC (c : Int) (l : List Int) : Int := l.foldl addC c
theorem sumC_nil (c : Int) : sumC c [] = c := rfl
theorem sumC_snoc (c : Int) (l : List Int) (a : Int) : sumC c (l ++ [a]) = addC (sumC c l) a := by simp [sumC]
theorem sumC_lo (c : Int) (h : 0 ≤ c) (l : List Int) : 0 ≤ sumC c l := by
  induction l generalizing c with
  | nil => exact h
  | cons a r ih => exact ih (addC c a) (addC_lo _ _)
theorem sumC_hi (c : Int) (h : c ≤ 1152921504606846976) (l : List Int) : sumC c l ≤ 1152921504606846976 := by
  induction l generalizing c with
  | nil => exact h
  | cons a r ih => exact ih (addC c a) (addC_hi _ _)
/-- The least one's place and cost, so far (-1: none yet); k: the next one's place. -/
def leastStep (p : Int × Int) (k : Int) (a : Int) : Int × Int := if p.1 < 0 ∨ hld a < p.2 then (k, hld a) else p
def leastGo : Int × Int → Int → List Int → Int × Int
  | p, _, [] => p
  | p, k, a :: r => leastGo (leastStep p k a) (k + 1) r
def leastC (l : List Int) : Int × Int := leastGo (-1, 1152921504606846976) 0 l
theorem leastGo_snoc (p : Int × Int) (k : Int) (l : List Int) (a : Int) : leastGo p k (l ++ [a]) = leastStep (leastGo p k l) (k + l.length) a := by
  induction l generalizing p k with
  | nil => simp [leastGo]
  | cons b r ih => simp only [List.cons_append, leastGo, ih, List.length_cons]; congr 1; omega
theorem leastC_snoc (l : List Int) (a : Int) : leastC (l ++ [a]) = leastStep (leastC l) l.length a := by
  unfold leastC; rw [leastGo_snoc]; simp
theorem leastGo_bd (p : Int × Int) (k : Int) (l : List Int) (h : -1 ≤ p.1 ∧ p.1 < k ∧ 0 ≤ p.2 ∧ p.2 ≤ 1152921504606846976) :
    -1 ≤ (leastGo p k l).1 ∧ (leastGo p k l).1 < k + l.length ∧ 0 ≤ (leastGo p k l).2 ∧ (leastGo p k l).2 ≤ 1152921504606846976 := by
  induction l generalizing p k with
  | nil => obtain ⟨a, b, c, d⟩ := h; exact ⟨a, by simpa [leastGo] using b, c, d⟩
  | cons x r ih =>
    have h0 := hld_lo x
    have h1 := hld_hi x
    have := ih (leastStep p k x) (k + 1) (by unfold leastStep; split <;> (try simp only []) <;> omega)
    rw [List.length_cons]
    unfold leastGo
    omega
theorem leastC_bd (l : List Int) : -1 ≤ (leastC l).1 ∧ (leastC l).1 < l.length ∧ 0 ≤ (leastC l).2 ∧ (leastC l).2 ≤ 1152921504606846976 := by
  by_cases h : l = []
  · subst h; simp [leastC, leastGo]
  · have hl : 0 < l.length := List.length_pos_iff.2 h
    cases l with
    | nil => exact absurd rfl h
    | cons a r =>
      have h0 := hld_lo a
      have h1 := hld_hi a
      have := leastGo_bd (leastStep (-1, 1152921504606846976) 0 a) (0 + 1) r (by unfold leastStep; split <;> (try simp only []) <;> omega)
      rw [List.length_cons]
      unfold leastC leastGo
      omega
/-- May it be a weight? -/
def wgt (a : Int) : Bool := (decide (0 ≤ a) && decide (a ≤ 2147483648)) || decide (a = 1152921504606846976)
theorem take_snoc {α : Type} (l : List α) (k : Nat) (h : k < l.length) : l.take (k + 1) = l.take k ++ [l[k]] := by
  rw [List.take_succ_eq_append_getElem h]

end Go.Proofs.YtleheaffipokfaaDoor
