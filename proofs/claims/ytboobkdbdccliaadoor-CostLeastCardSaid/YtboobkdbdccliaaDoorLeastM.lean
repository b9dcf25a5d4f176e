/-
  The least of a row, plainly: it is in the row, none is less, none ahead is as little; of two parts both. Sums of two parts.
-/
import Derived.Test.YtboobkdbdccliaaDoorCostAlg
namespace Go.Proofs.YtboobkdbdccliaaDoor

/-- The least, by itself. -/
def mn (l : List Int) : Int := l.foldr (fun x m => min (hld x) m) 1152921504606846976
theorem mn_le (l : List Int) : mn l ≤ 1152921504606846976 := by
  cases l with
  | nil => exact Int.le_refl _
  | cons a r => exact Int.le_trans (Int.min_le_left _ _) (hld_hi a)
theorem mn_lo (l : List Int) : 0 ≤ mn l := by
  induction l with
  | nil => decide
  | cons a r ih => have := hld_lo a; show 0 ≤ min (hld a) (mn r); omega
theorem mn_append (l m : List Int) : mn (l ++ m) = min (mn l) (mn m) := by
  induction l with
  | nil => show mn m = min 1152921504606846976 (mn m); have := mn_le m; omega
  | cons a r ih => show min (hld a) (mn (r ++ m)) = min (min (hld a) (mn r)) (mn m); rw [ih]; omega
theorem leastGo_snd (p : Int × Int) (k : Int) (l : List Int) (hk : 0 ≤ k) (h0 : p.1 < 0 → p.2 = 1152921504606846976) (h1 : p.2 ≤ 1152921504606846976) : (leastGo p k l).2 = min p.2 (mn l) := by
  induction l generalizing p k with
  | nil => show p.2 = min p.2 1152921504606846976; omega
  | cons a r ih =>
    have ha := hld_hi a
    show (leastGo (leastStep p k a) (k + 1) r).2 = min p.2 (min (hld a) (mn r))
    have hs : (leastStep p k a).2 = min p.2 (hld a) := by
      unfold leastStep
      split
      · rename_i hh; rcases hh with hh | hh
        · have := h0 hh; show hld a = _; omega
        · show hld a = _; omega
      · rename_i hh; omega
    rw [ih (leastStep p k a) (k + 1) (by omega) (by
      unfold leastStep
      split
      · intro hh; simp only at hh; omega
      · exact h0) (by rw [hs]; omega), hs]
    omega
theorem leastC_snd (l : List Int) : (leastC l).2 = mn l := by
  unfold leastC
  rw [leastGo_snd _ 0 l (Int.le_refl _) (fun _ => rfl) (Int.le_refl _)]
  have := mn_le l
  show min 1152921504606846976 (mn l) = mn l
  omega
theorem leastC_parts (l : List Int) (k : Nat) : (leastC [(leastC (l.take k)).2, (leastC (l.drop k)).2]).2 = (leastC l).2 := by
  have e : mn l = min (mn (l.take k)) (mn (l.drop k)) := by rw [← mn_append, List.take_append_drop]
  rw [leastC_snd, leastC_snd, leastC_snd, leastC_snd, e]
  have h1 := mn_lo (l.take k)
  have h2 := mn_le (l.take k)
  have h3 := mn_lo (l.drop k)
  have h4 := mn_le (l.drop k)
  show min (hld (mn (l.take k))) (min (hld (mn (l.drop k))) 1152921504606846976) = _
  rw [hld_in _ h1 h2, hld_in _ h3 h4]
  omega
/-- Where the least is. -/
def LeastAt (l : List Int) (p : Int × Int) : Prop :=
  ∃ i : Nat, i < l.length ∧ p.1 = i ∧ hld (l.getD i 0) = p.2 ∧ (∀ k, k < l.length → p.2 ≤ hld (l.getD k 0)) ∧ ∀ k, k < i → p.2 < hld (l.getD k 0)
theorem leastC_at : ∀ (n : Nat) (l : List Int), l.length = n → l ≠ [] → LeastAt l (leastC l)
  | 0, l, hn, hne => absurd (List.length_eq_zero_iff.1 hn) hne
  | n + 1, l, hn, hne => by
    rcases List.eq_nil_or_concat l with rfl | ⟨r, a, rfl⟩
    · exact absurd rfl hne
    · rw [List.concat_eq_append] at *
      have hlen : r.length = n := by simpa using hn
      rw [leastC_snoc]
      have last : (r ++ [a]).getD r.length 0 = a := by simp [List.getD]
      have old : ∀ k, k < r.length → (r ++ [a]).getD k 0 = r.getD k 0 := fun k hk => by simp [List.getD, List.getElem?_append_left hk]
      by_cases hr : r = []
      · subst hr
        refine ⟨0, by simp, by simp [leastStep, leastC, leastGo], by simp [leastStep, leastC, leastGo, List.getD], fun k hk => ?_, fun k hk => by omega⟩
        obtain rfl : k = 0 := by simpa using hk
        simp [leastStep, leastC, leastGo, List.getD]
      · obtain ⟨i, hi, h1, h2, h3, h4⟩ := leastC_at n r hlen hr
        unfold leastStep
        split
        · rename_i hh
          have hlt : hld a < (leastC r).2 := by
            rcases hh with hh | hh
            · omega
            · exact hh
          refine ⟨r.length, by simp, rfl, by rw [last], fun k hk => ?_, fun k hk => ?_⟩
          · by_cases hkr : k < r.length
            · rw [old k hkr]; have := h3 k hkr; show hld a ≤ _; omega
            · obtain rfl : k = r.length := by rw [List.length_append, List.length_singleton] at hk; omega
              rw [last]; exact Int.le_refl _
          · rw [old k hk]; have := h3 k hk; show hld a < _; omega
        · rename_i hh
          refine ⟨i, by rw [List.length_append]; omega, h1, by rw [old i hi]; exact h2, fun k hk => ?_, fun k hk => by rw [old k (by omega)]; exact h4 k hk⟩
          by_cases hkr : k < r.length
          · rw [old k hkr]; exact h3 k hkr
          · obtain rfl : k = r.length := by rw [List.length_append, List.length_singleton] at hk; omega
            rw [last]; omega
theorem sumC_from (c : Int) (l : List Int) (h : 0 ≤ c) (h' : c ≤ 1152921504606846976) : sumC c l = addC c (sumC 0 l) := by
  induction l generalizing c with
  | nil => show c = addC c 0; rw [addC_zero, hld_in c h h']
  | cons a r ih =>
    show sumC (addC c a) r = addC c (sumC (addC 0 a) r)
    rw [ih _ (addC_lo _ _) (addC_hi _ _), ih _ (addC_lo _ _) (addC_hi _ _), ← addC_assoc c (addC 0 a), ← addC_assoc c 0 a, addC_zero, hld_in c h h']
theorem sumC_parts (l : List Int) (k : Nat) : sumC 0 [sumC 0 (l.take k), sumC 0 (l.drop k)] = sumC 0 l := by
  have e : sumC 0 l = addC (sumC 0 (l.take k)) (sumC 0 (l.drop k)) := by
    rw [← sumC_from _ _ (sumC_lo 0 (Int.le_refl 0) _) (sumC_hi 0 (by omega) _)]
    unfold sumC
    rw [← List.foldl_append, List.take_append_drop]
  rw [e]
  show addC (addC 0 (sumC 0 (l.take k))) (sumC 0 (l.drop k)) = _
  rw [addC_comm 0, addC_zero, hld_in _ (sumC_lo 0 (Int.le_refl 0) _) (sumC_hi 0 (by omega) _)]

end Go.Proofs.YtboobkdbdccliaaDoor
