/-
  Plain mathematics of tables that are made: free, and without a way back.
-/
import Derived.Test.YtleheaffipokfaaDoorTabM
namespace Go.Proofs.YtleheaffipokfaaDoor

/-- The table without a way back, of n, after k rounds. -/
def backL (n : Nat) : Nat → List Int
  | 0 => List.replicate (n * n) 0
  | k + 1 => (backL n k).set (k * n + k) 1152921504606846976
theorem backL_length (n k : Nat) : (backL n k).length = n * n := by
  induction k with
  | zero => simp [backL]
  | succ k ih => simp [backL, ih]
theorem backL_lt (n k : Nat) (h : k < n) : k * n + k < n * n := by
  have h1 : (k + 1) * n ≤ n * n := Nat.mul_le_mul_right n h
  rw [Nat.add_mul, Nat.one_mul] at h1
  omega
theorem backL_zero (n k i : Nat) (h : ∀ j, j < k → i ≠ j * n + j) : (backL n k).getD i 0 = 0 := by
  induction k with
  | zero =>
    simp only [backL, List.getD_eq_getElem?_getD, List.getElem?_replicate]
    split <;> rfl
  | succ k ih =>
    have h1 := h k (Nat.lt_succ_self k)
    simp only [backL, List.getD_eq_getElem?_getD]
    rw [List.getElem?_set_ne (Ne.symm h1)]
    simpa [List.getD_eq_getElem?_getD] using ih fun j hj => h j (Nat.lt_succ_of_lt hj)
theorem wgt_zero : wgt 0 = true := by decide
theorem wgt_inf : wgt 1152921504606846976 = true := by decide
theorem backL_wgt (n k : Nat) : (backL n k).all wgt = true := by
  induction k with
  | zero =>
    rw [List.all_eq_true]
    intro x hx
    obtain rfl := List.eq_of_mem_replicate hx
    exact wgt_zero
  | succ k ih =>
    rw [List.all_eq_true] at ih ⊢
    intro x hx
    rcases List.mem_or_eq_of_mem_set hx with h | rfl
    · exact ih x h
    · exact wgt_inf
theorem replicate_wgt (n : Nat) : (List.replicate n (0 : Int)).all wgt = true := by
  rw [List.all_eq_true]
  intro x hx
  obtain rfl := List.eq_of_mem_replicate hx
  exact wgt_zero
theorem bansC_cons (a : Int) (l : List Int) : bansC (a :: l) = (if a = 1152921504606846976 then 1 else 0) + bansC l := by
  unfold bansC
  by_cases h : a = 1152921504606846976
  · simp [h]; omega
  · simp [h]
/-- One more that is forbidden. -/
theorem bansC_set (l : List Int) (i : Nat) (h : i < l.length) (c : Int) : bansC (l.set i c) = bansC l - (if l.getD i 0 = 1152921504606846976 then 1 else 0) + (if c = 1152921504606846976 then 1 else 0) := by
  induction l generalizing i with
  | nil => simp at h
  | cons a r ih =>
    cases i with
    | zero =>
      simp only [List.set_cons_zero, List.getD_cons_zero, bansC_cons]
      split <;> split <;> omega
    | succ i =>
      simp only [List.set_cons_succ, List.getD_cons_succ, bansC_cons, ih i (by simpa using h)]
      omega
theorem bansC_replicate (n : Nat) : bansC (List.replicate n (0 : Int)) = 0 := by
  induction n with
  | zero => rfl
  | succ n ih => rw [List.replicate_succ, bansC_cons, ih]; simp
theorem bansC_backL (n k : Nat) (h : k ≤ n) : bansC (backL n k) = k := by
  induction k with
  | zero => exact bansC_replicate _
  | succ k ih =>
    have h1 := ih (by omega)
    have h2 := backL_lt n k (by omega)
    simp only [backL]
    rw [bansC_set _ _ (by rw [backL_length]; exact h2), backL_zero n k _ (fun j hj e => by
      have : j * n ≤ k * n := Nat.mul_le_mul_right n (by omega)
      omega), h1]
    simp
theorem in64_backL (n k : Nat) : ∀ x ∈ backL n k, -9223372036854775808 ≤ x ∧ x ≤ 9223372036854775807 := by
  induction k with
  | zero =>
    intro x hx
    obtain rfl := List.eq_of_mem_replicate hx
    omega
  | succ k ih =>
    intro x hx
    rcases List.mem_or_eq_of_mem_set hx with h | rfl
    · exact ih x h
    · omega
theorem chkT_mk {I O : Int} {l : List Int} (h0 : 0 ≤ I ∧ I ≤ 16) (h1 : 0 ≤ O ∧ O ≤ 16) (hn : (l.length : Int) = I * O) (hw : l.all wgt = true) : chkT I O l = (0, 0) := by
  unfold chkT
  rw [if_neg (by omega), if_neg (by omega), if_neg (by simpa using hn)]
  exact badAt_ok _ _ hw
theorem chkT_set {I O : Int} {l : List Int} (h : chkT I O l = (0, 0)) (i : Nat) (c : Int) (hc : wgt c = true) : chkT I O (l.set i c) = (0, 0) := by
  obtain ⟨q0, q1, q2, q3, hn, hall⟩ := chkT_ok (I := I) (O := O) (l := l) (by rw [h])
  refine chkT_mk ⟨q0, q1⟩ ⟨q2, q3⟩ (by rw [List.length_set]; exact hn) ?_
  rw [List.all_eq_true] at hall ⊢
  intro x hx
  rcases List.mem_or_eq_of_mem_set hx with h | rfl
  · exact hall x h
  · exact hc

end Go.Proofs.YtleheaffipokfaaDoor
