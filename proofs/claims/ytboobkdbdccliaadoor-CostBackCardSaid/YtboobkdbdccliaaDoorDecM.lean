/-
  Plain mathematics: a number's digits, read as a number, and back.
-/
import Derived.Test.YtboobkdbdccliaaDoorTextM
import Derived.Lib.ItoaNum
import Derived.Lib.ItoaLen
namespace Go.Proofs.YtboobkdbdccliaaDoor

theorem digit_back (c : UInt8) (h0 : 48 ≤ c.toNat) (h1 : c.toNat ≤ 57) : UInt8.ofNat (48 + (c.toNat - 48)) = c := by
  rw [show 48 + (c.toNat - 48) = c.toNat by omega]
  exact UInt8.ofNat_toNat
theorem decV_pos (l : List UInt8) (hd : l.all isDig = true) (hh : l.headD 48 ≠ 48) : 1 ≤ decV l := by
  cases l with
  | nil => exact absurd rfl hh
  | cons c r =>
    have hc : isDig c = true := by rw [List.all_cons, Bool.and_eq_true] at hd; exact hd.1
    have hb := isDig_bd c hc
    have hc' : c.toNat ≠ 48 := fun e => hh (by
      show c = 48
      rw [← UInt8.toNat_inj]; exact e)
    have := decV_append [c] r
    have e : decV [c] = c.toNat - 48 := by simp [decV]
    simp only [List.singleton_append] at this
    omega
theorem digits_dec : ∀ (n : Nat) (l : List UInt8), l.length = n → l ≠ [] → l.all isDig = true → (l.headD 48 ≠ 48 ∨ l.length = 1) → Lib.decDigits (decV l) = l
  | 0, l, hn, hne, _, _ => absurd (List.length_eq_zero_iff.1 hn) hne
  | n + 1, l, hn, hne, hd, hh => by
    rcases List.eq_nil_or_concat l with rfl | ⟨r, c, rfl⟩
    · exact absurd rfl hne
    · rw [List.concat_eq_append] at *
      rw [List.all_append, Bool.and_eq_true] at hd
      obtain ⟨hr, hc⟩ := hd
      have hb := isDig_bd c (by simpa using hc)
      rw [decV_snoc]
      by_cases hr0 : r = []
      · subst hr0
        have e : decV [] = 0 := rfl
        rw [e, Lib.decDigits, dif_pos (by omega)]
        simp only [Nat.mul_zero, Nat.zero_add, List.nil_append]
        rw [digit_back c hb.1 hb.2]
      · have hlen : r.length = n := by simpa using hn
        have hpos : 0 < r.length := List.length_pos_iff.2 hr0
        have hh' : r.headD 48 ≠ 48 := by
          rcases hh with h | h
          · cases r with
            | nil => exact absurd rfl hr0
            | cons a t => exact h
          · exfalso; rw [List.length_append, List.length_singleton] at h; omega
        have h1 := decV_pos r hr hh'
        have ih := digits_dec n r hlen hr0 hr (Or.inl hh')
        rw [Lib.decDigits, dif_neg (by omega), show (10 * decV r + (c.toNat - 48)) / 10 = decV r by omega, show (10 * decV r + (c.toNat - 48)) % 10 = c.toNat - 48 by omega, ih, digit_back c hb.1 hb.2]
theorem numB_dec (l : List UInt8) (h : numB l = true) : Lib.decDigits (decV l) = l := by
  unfold numB at h
  simp only [Bool.and_eq_true, Bool.not_eq_true'] at h
  obtain ⟨⟨h1, h2⟩, h3⟩ := h
  have hne : l ≠ [] := by intro e; rw [e] at h1; cases h1
  refine digits_dec _ l rfl hne h3 ?_
  cases l with
  | nil => exact absurd rfl hne
  | cons c r =>
    simp only [List.headD_cons, List.length_cons] at h2 ⊢
    by_cases hr : r.length = 0
    · right; omega
    · left
      intro e
      rw [e] at h2
      simp at h2
      exact hr (by rw [h2]; rfl)
/-- A number's digits are digits, none ahead that need not be, and come to the number. -/
theorem decDigits_props (u : Nat) : Lib.decDigits u ≠ [] ∧ (Lib.decDigits u).all isDig = true ∧ decV (Lib.decDigits u) = u ∧ (1 ≤ u → (Lib.decDigits u).headD 48 ≠ 48) ∧ (u = 0 → Lib.decDigits u = [48]) := by
  induction u using Nat.strongRecOn with
  | ind u ihu =>
    by_cases h : u < 10
    · rw [Lib.decDigits, dif_pos h]
      have hc : (UInt8.ofNat (48 + u)).toNat = 48 + u := by simp; omega
      refine ⟨by simp, ?_, ?_, fun h1 => ?_, fun h0 => by subst h0; rfl⟩
      · rw [List.all_cons, List.all_nil, Bool.and_true]; exact isDig_of _ (by rw [hc]; omega) (by rw [hc]; omega)
      · show 10 * 0 + ((UInt8.ofNat (48 + u)).toNat - 48) = u
        rw [hc]; omega
      · simp only [List.headD_cons]
        intro e
        have := congrArg UInt8.toNat e
        rw [hc] at this
        simp at this
        omega
    · have ih := ihu (u / 10) (by omega)
      obtain ⟨i1, i2, i3, i4, -⟩ := ih
      have e : Lib.decDigits u = Lib.decDigits (u / 10) ++ [UInt8.ofNat (48 + u % 10)] := by
        rw [Lib.decDigits.eq_1 u, dif_neg h]
      have hc : (UInt8.ofNat (48 + u % 10)).toNat = 48 + u % 10 := by simp; omega
      rw [e]
      refine ⟨by simp, ?_, ?_, fun h1 => ?_, fun h0 => by omega⟩
      · rw [List.all_append, i2, List.all_cons, List.all_nil, Bool.and_true, Bool.true_and]
        exact isDig_of _ (by rw [hc]; omega) (by rw [hc]; omega)
      · rw [decV_snoc, i3, hc]; omega
      · cases hx : Lib.decDigits (u / 10) with
        | nil => exact absurd hx i1
        | cons a t =>
          rw [hx] at i4
          exact i4 (by omega)
theorem decDigits_numB (u : Nat) : numB (Lib.decDigits u) = true := by
  obtain ⟨h1, h2, h3, h4, h5⟩ := decDigits_props u
  unfold numB
  rw [h2, Bool.and_true, Bool.and_eq_true]
  constructor
  · cases hx : Lib.decDigits u with
    | nil => exact absurd hx h1
    | cons a t => rfl
  · by_cases hu : u = 0
    · rw [h5 hu]; rfl
    · have := h4 (by omega)
      cases hx : Lib.decDigits u with
      | nil => exact absurd hx h1
      | cons a t =>
        rw [hx] at this
        simp only [List.headD_cons] at this ⊢
        have e : (a == 48) = false := by simpa using this
        rw [e]; rfl

end Go.Proofs.YtboobkdbdccliaaDoor
