/-
  Plain mathematics of decimal texts: no program stands here.
-/
import Derived.Test.YtboobkdbdccliaaDoorCostM
namespace Go.Proofs.YtboobkdbdccliaaDoor

/-- Is the byte a decimal digit? -/
def isDig (c : UInt8) : Bool := decide (48 ≤ c.toNat) && decide (c.toNat ≤ 57)
/-- Decimal digits, one at least, without a nought ahead of others. -/
def numB (l : List UInt8) : Bool := !l.isEmpty && !(l.headD 0 == 48 && decide (1 < l.length)) && l.all isDig
/-- What the digits come to. -/
def decV (l : List UInt8) : Nat := l.foldl (fun n c => 10 * n + (c.toNat - 48)) 0
theorem decV_snoc (l : List UInt8) (c : UInt8) : decV (l ++ [c]) = 10 * decV l + (c.toNat - 48) := by simp [decV]
theorem decV_foldl (n : Nat) (l : List UInt8) : n ≤ l.foldl (fun n c => 10 * n + (c.toNat - 48)) n := by
  induction l generalizing n with
  | nil => exact Nat.le_refl _
  | cons c r ih => exact Nat.le_trans (by omega) (ih (10 * n + (c.toNat - 48)))
theorem decV_append (l m : List UInt8) : decV l ≤ decV (l ++ m) := by
  unfold decV; rw [List.foldl_append]; exact decV_foldl _ _
theorem decV_take (l : List UInt8) (k : Nat) : decV (l.take k) ≤ decV l := by
  have := decV_append (l.take k) (l.drop k)
  rwa [List.take_append_drop] at this
theorem take_snocB (s : ByteArray) (k : Nat) (h : k < s.size) : s.data.toList.take (k + 1) = s.data.toList.take k ++ [s[k]] := by
  rw [List.take_succ_eq_append_getElem (by simpa using h)]; rfl
theorem all_getB (s : ByteArray) (k : Nat) (h : k < s.size) (ha : s.data.toList.all isDig = true) : isDig s[k] = true := by
  rw [List.all_eq_true] at ha
  exact ha _ (by
    have : s[k] = s.data.toList[k]'(by simpa using h) := rfl
    rw [this]; exact List.getElem_mem _)
theorem isDig_bd (c : UInt8) (h : isDig c = true) : 48 ≤ c.toNat ∧ c.toNat ≤ 57 := by simpa [isDig] using h
theorem not_all_getB (s : ByteArray) (k : Nat) (h : k < s.size) (hb : isDig s[k] = false) : s.data.toList.all isDig = false := by
  rw [← Bool.not_eq_true]
  intro ha
  rw [all_getB s k h ha] at hb
  cases hb
theorem sizeL (s : ByteArray) : s.data.toList.length = s.size := by simp
theorem empty_size (s : ByteArray) : (s.toList = []) ↔ s.size = 0 := by
  rw [ByteArray.toList_eq, ← List.length_eq_zero_iff, sizeL]
theorem headD_get (l : List UInt8) (h : 0 < l.length) : l.headD 0 = l[0] := by
  cases l with
  | nil => cases h
  | cons c r => rfl
theorem numB_split (s : ByteArray) (h : 0 < s.size) : numB s.data.toList = if s[0].toNat = 48 ∧ 1 < s.size then false else s.data.toList.all isDig := by
  have hl := sizeL s
  have e0 : s.data.toList.headD 0 = s[0] := by
    have : s[0] = s.data.toList[0]'(by rw [hl]; exact h) := rfl
    rw [this]
    exact headD_get _ _
  have e1 : s.data.toList.isEmpty = false := by
    rw [← Bool.not_eq_true, List.isEmpty_iff, ← List.length_eq_zero_iff, hl]; omega
  have e2 : (s[0] == 48) = decide (s[0].toNat = 48) := by
    rw [Bool.eq_iff_iff]; simp [← UInt8.toNat_inj]
  unfold numB
  rw [e0, e1, hl, e2]
  split <;> rename_i hh
  · simp [hh.1, hh.2]
  · simp only [Bool.not_false, Bool.true_and]
    rw [show (decide (s[0].toNat = 48) && decide (1 < s.size)) = false by simp; omega]
    rfl
theorem isDig_of (c : UInt8) (h : 48 ≤ c.toNat) (h' : c.toNat ≤ 57) : isDig c = true := by simp [isDig, h, h']
theorem isDig_not (c : UInt8) (h : c.toNat < 48 ∨ 57 < c.toNat) : isDig c = false := by
  rw [← Bool.not_eq_true]; intro e; have := isDig_bd c e; omega
/-- The first k bytes are digits. -/
def DigTo (s : ByteArray) (k : Nat) : Prop := (s.data.toList.take k).all isDig = true
theorem digTo_zero (s : ByteArray) : DigTo s 0 := rfl
theorem digTo_succ (s : ByteArray) (k : Nat) (h : DigTo s k) (hlt : k < s.size) (d0 : 48 ≤ (s[k].toNat : Int)) (d1 : (s[k].toNat : Int) ≤ 57) : DigTo s (k + 1) := by
  unfold DigTo at *
  rw [take_snocB s k hlt, List.all_append, h]; simp [isDig_of s[k] (by omega) (by omega)]
theorem digTo_all (s : ByteArray) (k : Nat) (h : DigTo s k) (hk : ¬ k < s.size) : s.data.toList.all isDig = true := by
  unfold DigTo at h
  rwa [List.take_of_length_le (by rw [sizeL]; omega)] at h
theorem decV_succ (s : ByteArray) (k : Nat) (h : k < s.size) : decV (s.data.toList.take (k + 1)) = 10 * decV (s.data.toList.take k) + (s[k].toNat - 48) := by
  rw [take_snocB s k h, decV_snoc]
theorem decV_whole (s : ByteArray) (k : Nat) (hk : ¬ k < s.size) : decV (s.data.toList.take k) = decV s.data.toList := by
  rw [List.take_of_length_le (by rw [sizeL]; omega)]
theorem dig_bdB (s : ByteArray) (k : Nat) (h : k < s.size) (ha : s.data.toList.all isDig = true) : 48 ≤ (s[k].toNat : Int) ∧ (s[k].toNat : Int) ≤ 57 := by
  have := isDig_bd _ (all_getB s k h ha)
  omega
theorem numB_all (l : List UInt8) (h : numB l = true) : l.all isDig = true := by
  unfold numB at h
  simp only [Bool.and_eq_true] at h
  exact h.2
/-- The first k digits come to c. -/
def DecTo (s : ByteArray) (k : Nat) (c : Int) : Prop := (decV (s.data.toList.take k) : Int) = c
theorem decTo_zero (s : ByteArray) : DecTo s 0 0 := rfl
theorem decTo_nonneg {s : ByteArray} {k : Nat} {c : Int} (h : DecTo s k c) : 0 ≤ c := by unfold DecTo at h; omega
theorem decTo_succ {s : ByteArray} {k : Nat} {c : Int} (h : DecTo s k c) (hlt : k < s.size) (d0 : 48 ≤ (s[k].toNat : Int)) : DecTo s (k + 1) (10 * c + ((s[k].toNat : Int) - 48)) := by
  unfold DecTo at *
  rw [decV_succ s k hlt]
  omega
theorem decTo_le {s : ByteArray} {k : Nat} {c : Int} (h : DecTo s k c) : c ≤ (decV s.data.toList : Int) := by
  unfold DecTo at h
  have := decV_take s.data.toList k
  omega
theorem decTo_end {s : ByteArray} {k : Nat} {c : Int} (h : DecTo s k c) (hk : ¬ k < s.size) : c = (decV s.data.toList : Int) := by
  unfold DecTo at h
  rw [← h, decV_whole s k hk]

end Go.Proofs.YtboobkdbdccliaaDoor
