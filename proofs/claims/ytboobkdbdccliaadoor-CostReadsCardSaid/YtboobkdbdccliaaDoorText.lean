/-
  Texts as costs: what each call does.
-/
import Derived.Test.YtboobkdbdccliaaDoorCostB
import Derived.Test.YtboobkdbdccliaaDoorTextM
import Derived.BigQuiet
namespace Go.Proofs.YtboobkdbdccliaaDoor
open Go.RowKit

set_option maxHeartbeats 400000 in
theorem number_empty (s : ByteArray) (w : World) (h : s.size = 0) :
    Calls Tryd.prog 28 #[.string s] w fun e w' => e = .returned (.bool false) ∧ w = w' := by
  have he : s.toList = [] := (empty_size s).2 h
  go_enter Tryd.func28, Tryd.ntmps28
  go_wp2
  go_ret
  exact ⟨rfl, rfl⟩

set_option maxHeartbeats 1000000 in
theorem number_any (s : ByteArray) (w : World) (hs : s.size ≤ 9223372036854775807) :
    Calls Tryd.prog 28 #[.string s] w fun e w' => e = .returned (.bool (numB s.data.toList)) ∧ w = w' := by
  by_cases h : s.size = 0
  · refine (number_empty s w h).mono ?_
    rintro e w' ⟨rfl, rfl⟩
    have he : s.toList = [] := (empty_size s).2 h
    rw [ByteArray.toList_eq] at he
    exact ⟨by rw [he]; rfl, rfl⟩
  · have h1 : s.toList.isEmpty = false := by
      rw [← Bool.not_eq_true, List.isEmpty_iff, empty_size]; exact h
    have h2 : ¬ s.toList = [] := fun e => h ((empty_size s).1 e)
    have h0 : 0 < s.size := by omega
    have HN := Lib.hid (numB_split s h0)
    by_cases hz : (s[0].toNat : Int) = 48 ∧ 1 < (s.size : Int)
    · obtain ⟨z0, z1⟩ := hz
      go_enter Tryd.func28, Tryd.ntmps28
      go_wp2
      go_ret
      exact ⟨ret_bool (by rw [HN.out, if_pos ⟨by omega, by omega⟩]), rfl⟩
    · have HZ : Hid (numB s.data.toList = s.data.toList.all isDig) := Lib.hid (by rw [HN.out, if_neg (by omega)])
      have hcase : ((s[0].toNat : Int) = 48 ∧ (s.size : Int) ≤ 1) ∨ (¬ (s[0].toNat : Int) = 48 ∧ (s.size : Int) ≤ 1) ∨ (¬ (s[0].toNat : Int) = 48 ∧ 1 < (s.size : Int)) := by omega
      clear hz
      rcases hcase with ⟨z0, z1⟩ | ⟨z0, z1⟩ | ⟨z0, z1⟩
      all_goals
        go_enter Tryd.func28, Tryd.ntmps28
        go_wp2
        go_loop [3, 18] (fun _ i => ∃ k : Nat, k ≤ s.size ∧ i = .int .i64 k ∧ DigTo s k) (fun _ i => s.size - (intOf i).toNat)
        case atStart => exact ⟨0, Nat.zero_le _, rfl, digTo_zero s⟩
        case round =>
          obtain ⟨k, hk, rfl, ha⟩ := hrel
          by_cases hlt : k < s.size
          · by_cases hd : 48 ≤ (s[k].toNat : Int) ∧ (s[k].toNat : Int) ≤ 57
            · obtain ⟨d0, d1⟩ := hd
              go_wp2
              go_round
              case rel => exact ⟨k + 1, by omega, by go_num, digTo_succ s k ha hlt d0 d1⟩
              case measure => simp [intOf]; omega
            · have HF : Hid (numB s.data.toList = false) := Lib.hid (by rw [HZ.out]; exact not_all_getB s k hlt (isDig_not _ (by omega)))
              by_cases hd1 : (s[k].toNat : Int) < 48
              · clear hd
                go_wp2
                go_ret
                exact ⟨ret_bool HF.out.symm, rfl⟩
              · have hd2 : 57 < (s[k].toNat : Int) := by omega
                clear hd
                go_wp2
                go_ret
                exact ⟨ret_bool HF.out.symm, rfl⟩
          · go_wp2
            go_ret
            exact ⟨ret_bool (by rw [HZ.out, digTo_all s k ha hlt]), rfl⟩

set_option maxHeartbeats 400000 in
theorem digits_empty (s : ByteArray) (w : World) (h : s.size = 0) :
    Calls Tryd.prog 30 #[.string s] w fun e w' => e = .returned (.bool false) ∧ w = w' := by
  have he : s.toList = [] := (empty_size s).2 h
  go_enter Tryd.func30, Tryd.ntmps30
  go_wp2
  go_ret
  exact ⟨rfl, rfl⟩

set_option maxHeartbeats 1000000 in
theorem digits_any (s : ByteArray) (w : World) (hs : s.size ≤ 9223372036854775807) :
    Calls Tryd.prog 30 #[.string s] w fun e w' => e = .returned (.bool (numB s.data.toList)) ∧ w = w' := by
  by_cases h : s.size = 0
  · refine (digits_empty s w h).mono ?_
    rintro e w' ⟨rfl, rfl⟩
    have he : s.toList = [] := (empty_size s).2 h
    rw [ByteArray.toList_eq] at he
    exact ⟨by rw [he]; rfl, rfl⟩
  · have h1 : s.toList.isEmpty = false := by
      rw [← Bool.not_eq_true, List.isEmpty_iff, empty_size]; exact h
    have h2 : ¬ s.toList = [] := fun e => h ((empty_size s).1 e)
    have h0 : 0 < s.size := by omega
    have HN := Lib.hid (numB_split s h0)
    by_cases hz : (s[0].toNat : Int) = 48 ∧ 1 < (s.size : Int)
    · obtain ⟨z0, z1⟩ := hz
      go_enter Tryd.func30, Tryd.ntmps30
      go_wp2
      go_ret
      exact ⟨ret_bool (by rw [HN.out, if_pos ⟨by omega, by omega⟩]), rfl⟩
    · have HZ : Hid (numB s.data.toList = s.data.toList.all isDig) := Lib.hid (by rw [HN.out, if_neg (by omega)])
      have hcase : ((s[0].toNat : Int) = 48 ∧ (s.size : Int) ≤ 1) ∨ (¬ (s[0].toNat : Int) = 48 ∧ (s.size : Int) ≤ 1) ∨ (¬ (s[0].toNat : Int) = 48 ∧ 1 < (s.size : Int)) := by omega
      clear hz
      rcases hcase with ⟨z0, z1⟩ | ⟨z0, z1⟩ | ⟨z0, z1⟩
      all_goals
        go_enter Tryd.func30, Tryd.ntmps30
        go_wp2
        go_loop [3] (fun i => ∃ k : Nat, k ≤ s.size ∧ i = .int .i64 k ∧ DigTo s k) (fun i => s.size - (intOf i).toNat)
        case atStart => exact ⟨0, Nat.zero_le _, rfl, digTo_zero s⟩
        case round =>
          obtain ⟨k, hk, rfl, ha⟩ := hrel
          by_cases hlt : k < s.size
          · by_cases hd : 48 ≤ (s[k].toNat : Int) ∧ (s[k].toNat : Int) ≤ 57
            · obtain ⟨d0, d1⟩ := hd
              go_wp2
              go_round
              case rel => exact ⟨k + 1, by omega, by go_num, digTo_succ s k ha hlt d0 d1⟩
              case measure => simp [intOf]; omega
            · have HF : Hid (numB s.data.toList = false) := Lib.hid (by rw [HZ.out]; exact not_all_getB s k hlt (isDig_not _ (by omega)))
              by_cases hd1 : (s[k].toNat : Int) < 48
              · clear hd
                go_wp2
                go_ret
                exact ⟨ret_bool HF.out.symm, rfl⟩
              · have hd2 : 57 < (s[k].toNat : Int) := by omega
                clear hd
                go_wp2
                go_ret
                exact ⟨ret_bool HF.out.symm, rfl⟩
          · go_wp2
            go_ret
            exact ⟨ret_bool (by rw [HZ.out, digTo_all s k ha hlt]), rfl⟩

end Go.Proofs.YtboobkdbdccliaaDoor
