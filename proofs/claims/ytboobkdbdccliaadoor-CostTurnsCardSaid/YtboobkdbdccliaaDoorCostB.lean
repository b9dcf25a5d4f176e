/-
  Rows of numbers: sums, and the least one.
-/
import Derived.Test.YtboobkdbdccliaaDoorCostA
import Derived.Lib.Hide
namespace Go.Proofs.YtboobkdbdccliaaDoor
open Go.RowKit

/-- The value v is a row of 64-bit numbers, read in world w. -/
def I64s (w : World) (v : Value) (l : List Int) : Prop :=
  (l = [] ∧ ∃ p c, v = .slice p 0 c ∧ (p = none → c = 0)) ∨ (l.length ≤ 9223372036854775807 ∧ ∃ b o c, l.length ≤ c ∧ c ≤ 9223372036854775807 ∧ v = .slice (some ⟨b, o, none⟩) l.length c ∧ ∀ i (h : i < l.length), w.cell? ⟨b, o + i, none⟩ = some (.int .i64 l[i]))
/-- All of them are 64-bit numbers. -/
def In64 (l : List Int) : Prop := ∀ x ∈ l, -9223372036854775808 ≤ x ∧ x ≤ 9223372036854775807

set_option maxHeartbeats 400000 in
theorem sum_none (p : Option Addr) (c : Nat) (w : World) :
    Calls Tryd.prog 16 #[.slice p 0 c] w fun e w' => e = .returned (.int .i64 0) ∧ w = w' := by
  go_enter Tryd.func16, Tryd.ntmps16
  go_wp2
  refine wp_loop_rounds 1 ?_
  rw [rounds_succ]
  go_wp2
  go_ret
  exact ⟨rfl, rfl⟩

set_option maxHeartbeats 400000 in
theorem sum_some (b o c : Nat) (l : List Int) (w : World) (hl : l.length ≤ 9223372036854775807) (hc : ∀ i (h : i < l.length), w.cell? ⟨b, o + i, none⟩ = some (.int .i64 l[i])) (hin : In64 l) :
    Calls Tryd.prog 16 #[.slice (some ⟨b, o, none⟩) l.length c] w fun e w' => e = .returned (.int .i64 (sumC 0 l)) ∧ w = w' := by
  have HC := Lib.hid hc
  clear hc
  go_enter Tryd.func16, Tryd.ntmps16
  go_wp2
  go_loop [3, 8] (fun s i => ∃ k : Nat, k ≤ l.length ∧ i = .int .i64 k ∧ s = .int .i64 (sumC 0 (l.take k))) (fun _ i => l.length - (intOf i).toNat)
  case atStart => exact ⟨0, Nat.zero_le _, rfl, rfl⟩
  case round =>
    obtain ⟨k, hk, rfl, rfl⟩ := hrel
    have s0 := sumC_lo 0 (Int.le_refl 0) (l.take k)
    have s1 := sumC_hi 0 (by omega) (l.take k)
    by_cases hlt : k < l.length
    · have g := HC.out k hlt
      obtain ⟨x0, x1⟩ := hin _ (List.getElem_mem hlt)
      have HS : Hid (sumC 0 (l.take (k + 1)) = addC (sumC 0 (l.take k)) l[k]) := by rw [take_snoc l k hlt]; exact sumC_snoc _ _ _
      go_wp2_with (go_at_call 14; refine (add_any _ _ _ (by omega) (by omega) (by omega) (by omega)).mono ?_; rintro e w' ⟨rfl, rfl⟩)
      go_round
      case rel => exact ⟨k + 1, by omega, by go_num, by rw [HS.out]⟩
      case measure => simp [intOf]; omega
    · go_wp2
      go_ret
      exact ⟨ret_int (by rw [List.take_of_length_le (by omega)]), rfl⟩

theorem sum_any (v : Value) (l : List Int) (w : World) (h : I64s w v l) (hin : In64 l) :
    Calls Tryd.prog 16 #[v] w fun e w' => e = .returned (.int .i64 (sumC 0 l)) ∧ w = w' := by
  rcases h with ⟨rfl, p, c, rfl, -⟩ | ⟨hl, b, o, c, -, -, rfl, hc⟩
  · exact sum_none p c w
  · exact sum_some b o c l w hl hc hin

set_option maxHeartbeats 400000 in
theorem rsum_none (p : Option Addr) (c : Nat) (w : World) :
    Calls Tryd.prog 17 #[.slice p 0 c] w fun e w' => e = .returned (.int .i64 0) ∧ w = w' := by
  go_enter Tryd.func17, Tryd.ntmps17
  go_wp2
  refine wp_loop_rounds 1 ?_
  rw [rounds_succ]
  go_wp2
  go_ret
  exact ⟨rfl, rfl⟩

set_option maxHeartbeats 400000 in
theorem rsum_some (b o c : Nat) (l : List Int) (w : World) (hl : l.length ≤ 9223372036854775807) (hc : ∀ i (h : i < l.length), w.cell? ⟨b, o + i, none⟩ = some (.int .i64 l[i])) (hin : In64 l) :
    Calls Tryd.prog 17 #[.slice (some ⟨b, o, none⟩) l.length c] w fun e w' => e = .returned (.int .i64 (sumC 0 l)) ∧ w = w' := by
  have HC := Lib.hid hc
  clear hc
  go_enter Tryd.func17, Tryd.ntmps17
  go_wp2
  go_loop [3, 4] (fun s i => ∃ k : Nat, k ≤ l.length ∧ i = .int .i64 k ∧ s = .int .i64 (sumC 0 (l.take k))) (fun _ i => l.length - (intOf i).toNat)
  case atStart => exact ⟨0, Nat.zero_le _, rfl, rfl⟩
  case round =>
    obtain ⟨k, hk, rfl, rfl⟩ := hrel
    have s0 := sumC_lo 0 (Int.le_refl 0) (l.take k)
    have s1 := sumC_hi 0 (by omega) (l.take k)
    by_cases hlt : k < l.length
    · have g := HC.out k hlt
      obtain ⟨x0, x1⟩ := hin _ (List.getElem_mem hlt)
      have HS : Hid (sumC 0 (l.take (k + 1)) = addC (sumC 0 (l.take k)) l[k]) := by rw [take_snoc l k hlt]; exact sumC_snoc _ _ _
      go_wp2_with (go_at_call 15; refine (radd_any _ _ _ (by omega) (by omega) (by omega) (by omega)).mono ?_; rintro e w' ⟨rfl, rfl⟩)
      go_round
      case rel => exact ⟨k + 1, by omega, by go_num, by rw [HS.out]⟩
      case measure => simp [intOf]; omega
    · go_wp2
      go_ret
      exact ⟨ret_int (by rw [List.take_of_length_le (by omega)]), rfl⟩

theorem rsum_any (v : Value) (l : List Int) (w : World) (h : I64s w v l) (hin : In64 l) :
    Calls Tryd.prog 17 #[v] w fun e w' => e = .returned (.int .i64 (sumC 0 l)) ∧ w = w' := by
  rcases h with ⟨rfl, p, c, rfl, -⟩ | ⟨hl, b, o, c, -, -, rfl, hc⟩
  · exact rsum_none p c w
  · exact rsum_some b o c l w hl hc hin

/-! ### the least one -/
set_option maxHeartbeats 400000 in
theorem least_none (p : Option Addr) (c : Nat) (w : World) :
    Calls Tryd.prog 10 #[.slice p 0 c] w fun e w' => e = .returned (.tuple #[.int .i64 (-1), .int .i64 1152921504606846976]) ∧ w = w' := by
  go_enter Tryd.func10, Tryd.ntmps10
  go_wp2
  refine wp_loop_rounds 1 ?_
  rw [rounds_succ]
  go_wp2
  go_ret2
  exact ⟨rfl, rfl⟩

set_option maxHeartbeats 400000 in
theorem least_some (b o c : Nat) (l : List Int) (w : World) (hl : l.length ≤ 9223372036854775807) (hc : ∀ i (h : i < l.length), w.cell? ⟨b, o + i, none⟩ = some (.int .i64 l[i])) (hin : In64 l) :
    Calls Tryd.prog 10 #[.slice (some ⟨b, o, none⟩) l.length c] w fun e w' => e = .returned (.tuple #[.int .i64 (leastC l).1, .int .i64 (leastC l).2]) ∧ w = w' := by
  have HC := Lib.hid hc
  clear hc
  go_enter Tryd.func10, Tryd.ntmps10
  go_wp2
  go_loop [4, 5, 11] (fun a s i => ∃ k : Nat, k ≤ l.length ∧ i = .int .i64 k ∧ a = .int .i64 (leastC (l.take k)).1 ∧ s = .int .i64 (leastC (l.take k)).2) (fun _ _ i => l.length - (intOf i).toNat)
  case atStart => exact ⟨0, Nat.zero_le _, rfl, rfl, rfl⟩
  case round =>
    obtain ⟨k, hk, rfl, rfl, rfl⟩ := hrel
    obtain ⟨s0, s1, s2, s3⟩ := leastC_bd (l.take k)
    by_cases hlt : k < l.length
    · have g := HC.out k hlt
      obtain ⟨x0, x1⟩ := hin _ (List.getElem_mem hlt)
      have HS : leastC (l.take (k + 1)) = leastStep (leastC (l.take k)) k l[k] := by
        rw [take_snoc l k hlt, leastC_snoc, List.length_take, Nat.min_eq_left hk]
      unfold leastStep at HS
      generalize leastC (l.take k) = P at *
      obtain ⟨A, S⟩ := P
      by_cases h1 : A < 0
      · rw [if_pos (Or.inl h1)] at HS
        have HT := Lib.hid HS
        clear HS
        go_wp2_with (go_at_call 12; refine (held_any _ _ (by omega) (by omega)).mono ?_; rintro e w' ⟨rfl, rfl⟩)
        go_round
        case rel => exact ⟨k + 1, by omega, by go_num, by rw [HT.out], by rw [HT.out]⟩
        case measure => simp [intOf]; omega
      · by_cases h2 : hld l[k] < S
        · rw [if_pos (Or.inr h2)] at HS
          have HT := Lib.hid HS
          clear HS
          go_wp2_with (go_at_call 12; refine (held_any _ _ (by omega) (by omega)).mono ?_; rintro e w' ⟨rfl, rfl⟩)
          go_round
          case rel => exact ⟨k + 1, by omega, by go_num, by rw [HT.out], by rw [HT.out]⟩
          case measure => simp [intOf]; omega
        · rw [if_neg (by rintro (h | h) <;> contradiction)] at HS
          have HT := Lib.hid HS
          clear HS
          go_wp2_with (go_at_call 12; refine (held_any _ _ (by omega) (by omega)).mono ?_; rintro e w' ⟨rfl, rfl⟩)
          go_round
          case rel => exact ⟨k + 1, by omega, by go_num, by rw [HT.out], by rw [HT.out]⟩
          case measure => simp [intOf]; omega
    · go_wp2
      go_ret2
      exact ⟨ret_int_int (by rw [List.take_of_length_le (by omega)]) (by rw [List.take_of_length_le (by omega)]), rfl⟩

theorem least_any (v : Value) (l : List Int) (w : World) (h : I64s w v l) (hin : In64 l) :
    Calls Tryd.prog 10 #[v] w fun e w' => e = .returned (.tuple #[.int .i64 (leastC l).1, .int .i64 (leastC l).2]) ∧ w = w' := by
  rcases h with ⟨rfl, p, c, rfl, -⟩ | ⟨hl, b, o, c, -, -, rfl, hc⟩
  · exact least_none p c w
  · exact least_some b o c l w hl hc hin

set_option maxHeartbeats 400000 in
theorem rleast_none (p : Option Addr) (c : Nat) (w : World) :
    Calls Tryd.prog 11 #[.slice p 0 c] w fun e w' => e = .returned (.tuple #[.int .i64 (-1), .int .i64 1152921504606846976]) ∧ w = w' := by
  go_enter Tryd.func11, Tryd.ntmps11
  go_wp2
  refine wp_loop_rounds 1 ?_
  rw [rounds_succ]
  go_wp2
  go_ret2
  exact ⟨rfl, rfl⟩

set_option maxHeartbeats 400000 in
theorem rleast_some (b o c : Nat) (l : List Int) (w : World) (hl : l.length ≤ 9223372036854775807) (hc : ∀ i (h : i < l.length), w.cell? ⟨b, o + i, none⟩ = some (.int .i64 l[i])) (hin : In64 l) :
    Calls Tryd.prog 11 #[.slice (some ⟨b, o, none⟩) l.length c] w fun e w' => e = .returned (.tuple #[.int .i64 (leastC l).1, .int .i64 (leastC l).2]) ∧ w = w' := by
  have HC := Lib.hid hc
  clear hc
  go_enter Tryd.func11, Tryd.ntmps11
  go_wp2
  go_loop [4, 5, 6] (fun a s i => ∃ k : Nat, k ≤ l.length ∧ i = .int .i64 k ∧ a = .int .i64 (leastC (l.take k)).1 ∧ s = .int .i64 (leastC (l.take k)).2) (fun _ _ i => l.length - (intOf i).toNat)
  case atStart => exact ⟨0, Nat.zero_le _, rfl, rfl, rfl⟩
  case round =>
    obtain ⟨k, hk, rfl, rfl, rfl⟩ := hrel
    obtain ⟨s0, s1, s2, s3⟩ := leastC_bd (l.take k)
    by_cases hlt : k < l.length
    · have g := HC.out k hlt
      obtain ⟨x0, x1⟩ := hin _ (List.getElem_mem hlt)
      have HS : leastC (l.take (k + 1)) = leastStep (leastC (l.take k)) k l[k] := by
        rw [take_snoc l k hlt, leastC_snoc, List.length_take, Nat.min_eq_left hk]
      unfold leastStep at HS
      generalize leastC (l.take k) = P at *
      obtain ⟨A, S⟩ := P
      by_cases h1 : A < 0
      · rw [if_pos (Or.inl h1)] at HS
        have HT := Lib.hid HS
        clear HS
        go_wp2_with (go_at_call 13; refine (rheld_any _ _ (by omega) (by omega)).mono ?_; rintro e w' ⟨rfl, rfl⟩)
        go_round
        case rel => exact ⟨k + 1, by omega, by go_num, by rw [HT.out], by rw [HT.out]⟩
        case measure => simp [intOf]; omega
      · by_cases h2 : hld l[k] < S
        · rw [if_pos (Or.inr h2)] at HS
          have HT := Lib.hid HS
          clear HS
          go_wp2_with (go_at_call 13; refine (rheld_any _ _ (by omega) (by omega)).mono ?_; rintro e w' ⟨rfl, rfl⟩)
          go_round
          case rel => exact ⟨k + 1, by omega, by go_num, by rw [HT.out], by rw [HT.out]⟩
          case measure => simp [intOf]; omega
        · rw [if_neg (by rintro (h | h) <;> contradiction)] at HS
          have HT := Lib.hid HS
          clear HS
          go_wp2_with (go_at_call 13; refine (rheld_any _ _ (by omega) (by omega)).mono ?_; rintro e w' ⟨rfl, rfl⟩)
          go_round
          case rel => exact ⟨k + 1, by omega, by go_num, by rw [HT.out], by rw [HT.out]⟩
          case measure => simp [intOf]; omega
    · go_wp2
      go_ret2
      exact ⟨ret_int_int (by rw [List.take_of_length_le (by omega)]) (by rw [List.take_of_length_le (by omega)]), rfl⟩

theorem rleast_any (v : Value) (l : List Int) (w : World) (h : I64s w v l) (hin : In64 l) :
    Calls Tryd.prog 11 #[v] w fun e w' => e = .returned (.tuple #[.int .i64 (leastC l).1, .int .i64 (leastC l).2]) ∧ w = w' := by
  rcases h with ⟨rfl, p, c, rfl, -⟩ | ⟨hl, b, o, c, -, -, rfl, hc⟩
  · exact rleast_none p c w
  · exact rleast_some b o c l w hl hc hin

end Go.Proofs.YtboobkdbdccliaaDoor
