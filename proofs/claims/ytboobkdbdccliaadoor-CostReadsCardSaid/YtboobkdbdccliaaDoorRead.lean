/-
  cost.Read, and the document's own reading of a cost.
-/
import Derived.Test.YtboobkdbdccliaaDoorText
import Derived.Test.YtboobkdbdccliaaDoorErrM
namespace Go.Proofs.YtboobkdbdccliaaDoor
open Go.RowKit

/-- The bytes of the word cost. -/
def costB : ByteArray := ⟨#[99, 111, 115, 116]⟩

theorem fault_any (e : Int) (w : World) :
    Calls Tryd.prog 29 #[.int .i64 e] w fun ev w' => ev = .returned (.iface 57 (.pointer (some ⟨w.heap.size, 0, none⟩))) ∧ w' = w.alloc (.cells #[.string costB, .int .i64 0, .iface 52 (.int .i64 e)] 61) := by
  go_enter Tryd.func29, Tryd.ntmps29
  go_wp2
  go_ret
  exact ⟨rfl, rfl⟩

/-- The world behind the document's own At: a Wrong's two cells, and its one part. -/
def atWorld (p : ByteArray) (n e : Int) (w : World) : World := (w.alloc (.cells #[.slice (some ⟨w.heap.size + 1, 0, none⟩) 1 1, .int .i64 e] 40)).alloc (.cells #[.string p, .int .i64 n] 63)
theorem atWorld_below (p : ByteArray) (n e : Int) (w : World) : Below w.heap.size w (atWorld p n e w) := ((Below.refl _ _).alloc (Nat.le_refl _) _).alloc (by simp) _
theorem atWorld_size (p : ByteArray) (n e : Int) (w : World) : (atWorld p n e w).heap.size = w.heap.size + 1 + 1 := by simp [atWorld]
theorem atWorld_wrong (p : ByteArray) (n e : Int) (w : World) : WrongV (atWorld p n e w) (.agg #[.slice (some ⟨w.heap.size + 1, 0, none⟩) 1 1, .int .i64 e]) [(p, n)] e := by
  refine ⟨_, rfl, Or.inr ⟨by simp, w.heap.size + 1, 0, 1, rfl, fun i h => ?_, fun i h => ?_⟩⟩
  · obtain rfl : i = 0 := by simpa using h
    simp [atWorld]
  · obtain rfl : i = 0 := by simpa using h
    simp [atWorld]
theorem at_any (p : ByteArray) (n e : Int) (w : World) :
    Calls Tryd.prog 25 #[.string p, .int .i64 n, .int .i64 e] w fun ev w' => ev = .returned (.agg #[.slice (some ⟨w.heap.size + 1, 0, none⟩) 1 1, .int .i64 e]) ∧ w' = (w.alloc (.cells #[.slice (some ⟨w.heap.size + 1, 0, none⟩) 1 1, .int .i64 e] 40)).alloc (.cells #[.string p, .int .i64 n] 63) := by
  go_enter Tryd.func25, Tryd.ntmps25
  go_wp2
  exact bodyPost_ret (v := .agg #[.slice (some ⟨w.heap.size + 1, 0, none⟩) 1 1, .int .i64 e]) (by simp [results, Tryd.results25, go_sem]) rfl ⟨rfl, rfl⟩

/-- What a text is as a cost: it, and the Errno (0: none). -/
def readC (l : List UInt8) : Int × Int :=
  if l = [45] then (1152921504606846976, 0) else if numB l = false then (0, 2) else if (decV l : Int) < 1152921504606846976 then ((decV l : Int), 0) else (0, 8)

set_option maxHeartbeats 400000 in
theorem read_dash (s : ByteArray) (w : World) (h : s.toList = [45]) :
    Calls Tryd.prog 22 #[.string s] w fun e w' => e = .returned (.tuple #[.int .i64 1152921504606846976, .nilIface]) ∧ w = w' := by
  have h' : (s.toList == [45]) = true := by rw [h]; rfl
  clear h
  go_enter Tryd.func22, Tryd.ntmps22
  go_wp2_with fail
  go_ret2
  exact ⟨rfl, rfl⟩

set_option maxHeartbeats 400000 in
theorem read_form (s : ByteArray) (w : World) (hs : s.size ≤ 9223372036854775807) (h : ¬ s.toList = [45]) (hn : numB s.data.toList = false) :
    Calls Tryd.prog 22 #[.string s] w fun e w' => e = .returned (.tuple #[.int .i64 0, .iface 57 (.pointer (some ⟨w.heap.size, 0, none⟩))]) ∧ w' = w.alloc (.cells #[.string costB, .int .i64 0, .iface 52 (.int .i64 2)] 61) := by
  have h' : (s.toList == [45]) = false := by simpa using h
  clear h
  go_enter Tryd.func22, Tryd.ntmps22
  go_wp2_with (first | (go_at_call 28; refine (number_any s _ hs).mono ?_; rintro e w' ⟨rfl, rfl⟩) | (go_at_call 29; refine (fault_any _ _).mono ?_; rintro e w' ⟨rfl, rfl⟩))
  go_ret2
  exact ⟨rfl, rfl⟩

/-- What cost.Read of digits comes to: the number, where it is below Inf (v: it), else an error. -/
def ReadPost (v : Int) (w : World) (e : Ending) (w' : World) : Prop :=
  (v < 1152921504606846976 ∧ e = .returned (.tuple #[.int .i64 v, .nilIface]) ∧ w = w') ∨
  (1152921504606846976 ≤ v ∧ e = .returned (.tuple #[.int .i64 0, .iface 57 (.pointer (some ⟨w.heap.size, 0, none⟩))]) ∧ w' = w.alloc (.cells #[.string costB, .int .i64 0, .iface 52 (.int .i64 8)] 61))

set_option maxHeartbeats 1000000 in
theorem read_num (s : ByteArray) (w : World) (hs : s.size ≤ 9223372036854775807) (h : ¬ s.toList = [45]) (hn : numB s.data.toList = true) :
    Calls Tryd.prog 22 #[.string s] w (ReadPost (decV s.data.toList) w) := by
  have h' : (s.toList == [45]) = false := by simpa using h
  have ha := Lib.hid (numB_all _ hn)
  clear h
  go_enter Tryd.func22, Tryd.ntmps22
  go_wp2_with (go_at_call 28; refine (number_any s _ hs).mono ?_; rintro e w' ⟨rfl, rfl⟩)
  go_loop [4, 5, 14] (fun c _ i => ∃ (k : Nat) (C : Int), k ≤ s.size ∧ i = .int .i64 k ∧ c = .int .u64 C ∧ DecTo s k C ∧ C < 1152921504606846976) (fun _ _ i => s.size - (intOf i).toNat)
  case atStart => exact ⟨0, 0, by omega, rfl, rfl, decTo_zero s, by omega⟩
  case round =>
    obtain ⟨k, C, hk, rfl, rfl, hD, hD1⟩ := hrel
    have e0 := decTo_nonneg hD
    by_cases hlt : k < s.size
    · obtain ⟨d0, d1⟩ := dig_bdB s k hlt ha.out
      have HS := decTo_succ hD hlt d0
      by_cases hx : 10 * C + ((s[k].toNat : Int) - 48) < 1152921504606846976
      · go_wp2_with fail
        go_round
        case rel => exact ⟨k + 1, _, by omega, by go_num, rfl, HS, hx⟩
        case measure => simp [intOf]; omega
      · have HB : Hid (1152921504606846976 ≤ (decV s.data.toList : Int)) := Lib.hid (by have h1 := decTo_le HS; omega)
        go_wp2_with (go_at_call 29; refine (fault_any _ _).mono ?_; rintro e w' ⟨rfl, rfl⟩)
        go_ret2
        exact Or.inr ⟨HB.out, rfl, rfl⟩
    · have HE := Lib.hid (decTo_end hD hlt)
      go_wp2_with fail
      go_ret2
      exact Or.inl ⟨by rw [← HE.out]; exact hD1, ret_tup1 HE.out, rfl⟩

/-- What the document's Value of digits comes to. -/
def ValuePost (v most : Int) (w : World) (e : Ending) (w' : World) : Prop :=
  ((v ≤ most ∧ e = .returned (.tuple #[.int .i64 v, .bool true])) ∨ (most < v ∧ e = .returned (.tuple #[.int .i64 0, .bool false]))) ∧ w = w'

set_option maxHeartbeats 1000000 in
theorem value_any (s : ByteArray) (most : Int) (w : World) (hs : s.size ≤ 9223372036854775807) (m0 : 9 ≤ most) (m1 : most ≤ 9223372036854775807) (hall : s.data.toList.all isDig = true) :
    Calls Tryd.prog 31 #[.string s, .int .i64 most] w (ValuePost (decV s.data.toList) most w) := by
  have ha := Lib.hid hall
  clear hall
  go_enter Tryd.func31, Tryd.ntmps31
  go_wp2_with fail
  go_loop [6, 7, 8] (fun n i _ => ∃ (k : Nat) (C : Int), k ≤ s.size ∧ i = .int .i64 k ∧ n = .int .i64 C ∧ DecTo s k C ∧ C ≤ most) (fun _ i _ => s.size - (intOf i).toNat)
  case atStart => exact ⟨0, 0, by omega, rfl, rfl, decTo_zero s, by omega⟩
  case round =>
    obtain ⟨k, C, hk, rfl, rfl, hD, hD1⟩ := hrel
    have e0 := decTo_nonneg hD
    by_cases hlt : k < s.size
    · obtain ⟨d0, d1⟩ := dig_bdB s k hlt ha.out
      have HS := decTo_succ hD hlt d0
      by_cases hx : C ≤ most / 10
      · by_cases hy : 10 * C ≤ most - ((s[k].toNat : Int) - 48)
        · go_wp2_with fail
          go_round
          case rel => exact ⟨k + 1, _, by omega, by go_num, rfl, HS, by omega⟩
          case measure => simp [intOf]; omega
        · have HB : Hid (most < (decV s.data.toList : Int)) := Lib.hid (by have h2 := decTo_le HS; omega)
          go_wp2_with fail
          go_ret2
          exact ⟨Or.inr ⟨HB.out, rfl⟩, rfl⟩
      · have HB : Hid (most < (decV s.data.toList : Int)) := Lib.hid (by have h2 := decTo_le HS; omega)
        go_wp2_with fail
        go_ret2
        exact ⟨Or.inr ⟨HB.out, rfl⟩, rfl⟩
    · have HE := Lib.hid (decTo_end hD hlt)
      go_wp2_with fail
      go_ret2
      exact ⟨Or.inl ⟨by rw [← HE.out]; exact hD1, ret_tup1 HE.out⟩, rfl⟩

end Go.Proofs.YtboobkdbdccliaaDoor
