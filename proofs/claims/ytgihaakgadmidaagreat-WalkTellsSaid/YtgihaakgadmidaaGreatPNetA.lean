/-
  The program's own nets: its small functions; which arcs end, begin, at a vertex.
-/
import Derived.Test.YtgihaakgadmidaaGreatRNetA
import Derived.Test.YtgihaakgadmidaaGreatA1
import Derived.Test.YtgihaakgadmidaaGreatA2
namespace Go.Proofs.YtgihaakgadmidaaGreat
open Go.RowKit
theorem namong_is (i n : Int) (b : Bool) (w : World) (h : decide (0 ≤ i ∧ i < n) = b) : Calls Tryz.prog 98 #[.int .i64 i, .int .i64 n] w fun e w' => e = .returned (.bool b) ∧ w = w' := by
  by_cases h0 : 0 ≤ i
  · by_cases h1 : i < n
    · obtain rfl : b = true := by rw [← h]; simp [h0, h1]
      clear h
      have d0 : decide (0 ≤ i) = true := by simpa using h0
      go_enter Tryz.func98, Tryz.ntmps98
      go_wp2
      go_ret
      exact ⟨rfl, rfl⟩
    · obtain rfl : b = false := by rw [← h]; simp; omega
      clear h
      have d0 : decide (0 ≤ i) = true := by simpa using h0
      have d1 : decide (i < n) = false := by simp; omega
      go_enter Tryz.func98, Tryz.ntmps98
      go_wp2
      go_ret
      exact ⟨rfl, rfl⟩
  · obtain rfl : b = false := by rw [← h]; simp; omega
    clear h
    have d0 : decide (0 ≤ i) = false := by simp; omega
    go_enter Tryz.func98, Tryz.ntmps98
    go_wp2
    go_ret
    exact ⟨rfl, rfl⟩
theorem ncoord_is (x : Int) (b : Bool) (w : World) (h : coordB x = b) : Calls Tryz.prog 97 #[.int .i64 x] w fun e w' => e = .returned (.bool b) ∧ w = w' := by
  unfold coordB at h
  by_cases h0 : -1048576 ≤ x
  · by_cases h1 : x ≤ 1048576
    · obtain rfl : b = true := by rw [← h]; simp [h0, h1]
      clear h
      have d0 : decide (-1048576 ≤ x) = true := by simpa using h0
      go_enter Tryz.func97, Tryz.ntmps97
      go_wp2
      go_ret
      exact ⟨rfl, rfl⟩
    · obtain rfl : b = false := by rw [← h]; simp [h0]; omega
      clear h
      have d0 : decide (-1048576 ≤ x) = true := by simpa using h0
      have d1 : decide (x ≤ 1048576) = false := by simpa using h1
      go_enter Tryz.func97, Tryz.ntmps97
      go_wp2
      go_ret
      exact ⟨rfl, rfl⟩
  · obtain rfl : b = false := by rw [← h]; simp; omega
    clear h
    have d0 : decide (-1048576 ≤ x) = false := by simpa using h0
    go_enter Tryz.func97, Tryz.ntmps97
    go_wp2
    go_ret
    exact ⟨rfl, rfl⟩
theorem nfault_any (p : ByteArray) (n : Int) (t : TypeId) (u : Value) (w : World) :
    Calls Tryz.prog 95 #[.string p, .int .i64 n, .iface t u] w fun ev w' => ev = .returned (.iface 156 (.pointer (some ⟨w.heap.size, 0, none⟩))) ∧ w' = w.alloc (.cells #[.string p, .int .i64 n, .iface t u] 158) := by
  go_enter Tryz.func95, Tryz.ntmps95
  go_wp2
  go_ret
  exact ⟨rfl, rfl⟩
end Go.Proofs.YtgihaakgadmidaaGreat
