/-
  Plain mathematics of tables of turns: no program stands here.
-/
import Derived.Test.YtleheaffipokfaaDoorCostM
namespace Go.Proofs.YtleheaffipokfaaDoor

/-- What it costs to turn. -/
def turnAt (I O : Int) (l : List Int) (x y : Int) : Int := if x < 0 ∨ I ≤ x ∨ y < 0 ∨ O ≤ y then 1152921504606846976 else l.getD (x * O + y).toNat 0
/-- How many are forbidden. -/
def bansC (l : List Int) : Int := ((l.filter fun a => decide (a = 1152921504606846976)).length : Int)
theorem bansC_lo (l : List Int) : 0 ≤ bansC l := by unfold bansC; omega
theorem bansC_hi (l : List Int) : bansC l ≤ l.length := by
  have := List.length_filter_le (fun a : Int => decide (a = 1152921504606846976)) l
  unfold bansC; omega
theorem bansC_snoc (l : List Int) (a : Int) : bansC (l ++ [a]) = bansC l + (if a = 1152921504606846976 then 1 else 0) := by
  unfold bansC
  rw [List.filter_append, List.length_append]
  by_cases h : a = 1152921504606846976 <;> simp [h]
/-- What is wrong with a table first: a place and an Errno (0: nothing). -/
def badAt : Int → List Int → Int × Int
  | _, [] => (0, 0)
  | k, a :: r => if wgt a = false then (k, 8) else badAt (k + 1) r
def chkT (I O : Int) (l : List Int) : Int × Int :=
  if I < 0 ∨ 16 < I then (0, 1) else if O < 0 ∨ 16 < O then (1, 1) else if ¬ (l.length : Int) = I * O then (2, 9) else badAt 3 l
theorem badAt_ok (k : Int) (l : List Int) (h : l.all wgt = true) : badAt k l = (0, 0) := by
  induction l generalizing k with
  | nil => rfl
  | cons a r ih =>
    simp only [List.all_cons, Bool.and_eq_true] at h
    unfold badAt
    rw [if_neg (by rw [h.1]; decide), ih _ h.2]
theorem badAt_at (k : Int) (l r : List Int) (a : Int) (h : l.all wgt = true) (ha : wgt a = false) : badAt k (l ++ a :: r) = (k + l.length, 8) := by
  induction l generalizing k with
  | nil => simp [badAt, ha]
  | cons b s ih =>
    simp only [List.all_cons, Bool.and_eq_true] at h
    rw [List.cons_append]
    unfold badAt
    rw [if_neg (by rw [h.1]; decide), ih _ h.2, List.length_cons]
    simp; omega
theorem badAt_zero (k : Int) (l : List Int) (h : (badAt k l).2 = 0) : l.all wgt = true := by
  induction l generalizing k with
  | nil => rfl
  | cons a r ih =>
    unfold badAt at h
    by_cases ha : wgt a = false
    · rw [if_pos ha] at h; simp at h
    · rw [if_neg ha] at h
      simp only [List.all_cons, Bool.and_eq_true]
      exact ⟨by simpa using ha, ih _ h⟩
def turnB : ByteArray := ⟨#[116, 117, 114, 110]⟩
/-- The parts of a Fault of package turn, by its place and Errno (0: none). -/
def turnW (p : Int × Int) : List (ByteArray × Int) := if p.2 = 0 then [] else [(turnB, p.1)]
/-- What a table that may be is. -/
theorem chkT_ok {I O : Int} {l : List Int} (h : (chkT I O l).2 = 0) : 0 ≤ I ∧ I ≤ 16 ∧ 0 ≤ O ∧ O ≤ 16 ∧ (l.length : Int) = I * O ∧ l.all wgt = true := by
  unfold chkT at h
  split at h
  · simp at h
  · split at h
    · simp at h
    · split at h
      · simp at h
      · rename_i h1 h2 h3
        exact ⟨by omega, by omega, by omega, by omega, by omega, badAt_zero _ _ h⟩
/-- What is wrong with a turn that is put in: a place and an Errno (0: nothing). -/
def withW (I O x y c : Int) : Int × Int :=
  if x < 0 ∨ I ≤ x then (0, 5) else if y < 0 ∨ O ≤ y then (1, 5) else if wgt c = false then (2, 8) else (0, 0)
/-- The table with it. -/
def withT (I O : Int) (l : List Int) (x y c : Int) : Int × Int × List Int := if (withW I O x y c).2 = 0 then (I, O, l.set (x * O + y).toNat c) else (0, 0, [])
/-- The place of a turn lies in the row. -/
theorem place_lt {I O x y n : Int} (hn : n = I * O) (h : 0 ≤ x ∧ x < I ∧ 0 ≤ y ∧ y < O) : 0 ≤ x * O ∧ x * O + y < n := by
  obtain ⟨a, b, c, d⟩ := h
  have h1 : 0 ≤ x * O := Int.mul_nonneg a (by omega)
  have h2 : (x + 1) * O ≤ I * O := Int.mul_le_mul_of_nonneg_right (by omega) (by omega)
  rw [Int.add_mul, Int.one_mul] at h2
  omega
theorem size_le {I O : Int} (h : 0 ≤ I ∧ I ≤ 16 ∧ 0 ≤ O ∧ O ≤ 16) : 0 ≤ I * O ∧ I * O ≤ 256 := by
  obtain ⟨a, b, c, d⟩ := h
  have h1 : 0 ≤ I * O := Int.mul_nonneg a c
  have h2 : I * O ≤ 16 * O := Int.mul_le_mul_of_nonneg_right b c
  omega

end Go.Proofs.YtleheaffipokfaaDoor
