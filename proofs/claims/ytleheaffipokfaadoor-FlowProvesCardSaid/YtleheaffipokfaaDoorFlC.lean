/-
  What may be handed in: the program's check.
-/
import Derived.Test.YtleheaffipokfaaDoorFlW
import Derived.Test.YtleheaffipokfaaDoorErrM
namespace Go.Proofs.YtleheaffipokfaaDoor
open Go.RowKit

/-- What may be handed in, but for a vertex in both sets. -/
structure OkA (n : Int) (l : List (Int × Int)) (src dst : List Int) : Prop where
  n0 : 0 ≤ n
  e : ∀ x, x ∈ l → (0 ≤ x.1 ∧ x.1 < n) ∧ (0 ≤ x.2 ∧ x.2 < n)
  s : ∀ x, x ∈ src → 0 ≤ x ∧ x < n
  d : ∀ x, x ∈ dst → 0 ≤ x ∧ x < n
/-- A vertex is in both. -/
def Twice (src dst : List Int) : Prop := ∃ x, x ∈ src ∧ x ∈ dst
/-- What tells an error. -/
def FaultAt (w : World) (g : Nat) (p : ByteArray) (n e : Int) : Prop := Blk w g #[.string p, .int .i64 n, .iface 58 (.int .i64 e)] 63
def ErrPost (w : World) (p : ByteArray) (n c : Int) (e : Ending) (w' : World) : Prop := ∃ g, e = .returned (.iface 59 (pt g)) ∧ FaultAt w' g p n c ∧ Below w.heap.size w w'
/-- No error just where Q holds. -/
def NilPost (w : World) (Q : Prop) (e : Ending) (w' : World) : Prop := Below w.heap.size w w' ∧ ((Q ∧ e = .returned .nilIface) ∨ (¬ Q ∧ ∃ g, e = .returned (.iface 59 (pt g))))
theorem among_is (i n : Int) (b : Bool) (w : World) (h : decide (0 ≤ i ∧ i < n) = b) : Calls Tryd.prog 27 #[.int .i64 i, .int .i64 n] w fun e w' => e = .returned (.bool b) ∧ w = w' := by
  by_cases h0 : 0 ≤ i
  · by_cases h1 : i < n
    · obtain rfl : b = true := by rw [← h]; simp; omega
      clear h
      go_enter Tryd.func27, Tryd.ntmps27
      go_wp2
      go_ret
      exact ⟨rfl, rfl⟩
    · obtain rfl : b = false := by rw [← h]; simp; omega
      have d1 : decide (i < n) = false := by simpa using h1
      clear h
      go_enter Tryd.func27, Tryd.ntmps27
      go_wp2
      go_ret
      exact ⟨rfl, rfl⟩
  · obtain rfl : b = false := by rw [← h]; simp; omega
    have d1 : decide (0 ≤ i) = false := by simpa using h0
    clear h
    go_enter Tryd.func27, Tryd.ntmps27
    go_wp2
    go_ret
    exact ⟨rfl, rfl⟩
theorem fault_is (p : ByteArray) (n c : Int) (w : World) :
    Calls Tryd.prog 28 #[.string p, .int .i64 n, .iface 58 (.int .i64 c)] w (ErrPost w p n c) := by
  go_enter Tryd.func28, Tryd.ntmps28
  go_wp2
  go_ret
  exact ⟨_, rfl, Blk.new _ _ _ _ rfl, below_alloc1 _⟩
theorem counts_is (n : Int) (m : Nat) (w : World) (hn : n ≤ 4096) (hm : m ≤ 16384) :
    Calls Tryd.prog 26 #[.int .i64 n, .int .i64 m] w (NilPost w (0 ≤ n)) := by
  by_cases h0 : n < 0
  · go_enter Tryd.func26, Tryd.ntmps26
    go_wp2_with fail
    refine (fault_is _ _ _ _).mono ?_
    rintro e w' ⟨g, rfl, -, hb⟩
    have HB := Lib.hid hb
    clear hb
    go_wp2_with fail
    go_ret
    exact ⟨HB.out, Or.inr ⟨by omega, _, rfl⟩⟩
  · have d0 : decide (n < 0) = false := by simpa using h0
    have hmi : (m : Int) ≤ 16384 := by omega
    have HN0 : Hid (0 ≤ n) := Lib.hid (by omega)
    go_enter Tryd.func26, Tryd.ntmps26
    go_wp2_with fail
    go_ret
    exact ⟨Below.refl _ _, Or.inl ⟨by first | exact HN0.out | trivial, rfl⟩⟩
set_option maxHeartbeats 2000000 in
set_option maxRecDepth 100000 in
theorem checkSet_is {w : World} {v : Value} {l : List Int} (p : ByteArray) (n : Int) (h : I64s w v l) (hl : l.length ≤ 1000000) :
    Calls Tryd.prog 29 #[.string p, .int .i64 n, v] w (NilPost w (∀ x, x ∈ l → 0 ≤ x ∧ x < n)) := by
  obtain ⟨q, c, rfl⟩ := h.shape
  have HV := Lib.hid h
  clear h
  go_enter Tryd.func29, Tryd.ntmps29
  go_wp2_with fail
  go_loopw [7, 8, 11] (fun _ _ iv wr => ∃ k : Nat, k ≤ l.length ∧ iv = .int .i64 k ∧ Hid (∀ x, x ∈ l.take k → 0 ≤ x ∧ x < n) ∧ wr = w) (fun _ _ iv _ => l.length - (intOf iv).toNat)
  case atStart => exact ⟨0, Nat.zero_le _, rfl, Lib.hid (by simp), rfl⟩
  case round =>
    obtain ⟨k, hk, rfl, HK, rfl⟩ := hrel
    by_cases hlt : k < l.length
    · have hki : (k : Int) < (l.length : Int) := by omega
      obtain ⟨eb, eo, rfl, ec⟩ := HV.out.at hlt
      obtain ⟨x, hx⟩ : ∃ x, l[k] = x := ⟨_, rfl⟩
      rw [hx] at ec
      have HX := Lib.hid hx
      have hel := World.block_lt_of_cell? wr _ ec
      clear hx
      by_cases hin : 0 ≤ x ∧ x < n
      · have hd : decide (0 ≤ x ∧ x < n) = true := by simpa using hin
        have HN : Hid (∀ y, y ∈ l.take (k + 1) → 0 ≤ y ∧ y < n) := Lib.hid fun y hy => by
          rw [List.take_succ_eq_append_getElem hlt, HX.out] at hy
          rcases List.mem_append.1 hy with hy | hy
          · exact HK.out y hy
          · simp at hy
            exact hy ▸ hin
        have HD := Lib.hid hd
        clear hin hd
        go_wp2_with fail
        refine (among_is x n true _ HD.out).mono ?_
        rintro e w' ⟨rfl, rfl⟩
        go_wp2_with fail
        go_roundw
        case rel => exact ⟨k + 1, hlt, by go_num, HN, (by first | rfl | trivial)⟩
        case measure => simp [intOf]; omega
      · have HD : Hid (decide (0 ≤ x ∧ x < n) = false) := Lib.hid (by simpa using hin)
        have HNO : Hid (¬ ∀ x, x ∈ l → 0 ≤ x ∧ x < n) := Lib.hid fun h => hin (h x (by rw [← HX.out]; exact List.getElem_mem hlt))
        clear hin
        go_wp2_with fail
        refine (among_is x n false _ HD.out).mono ?_
        rintro e w' ⟨rfl, rfl⟩
        go_wp2_with fail
        refine (fault_is _ _ _ _).mono ?_
        rintro e w' ⟨g, rfl, -, hb⟩
        have HB := Lib.hid hb
        clear hb
        go_wp2_with fail
        go_ret
        exact ⟨HB.out, Or.inr ⟨HNO.out, _, rfl⟩⟩
    · obtain rfl : k = l.length := by omega
      have HA : Hid (∀ x, x ∈ l → 0 ≤ x ∧ x < n) := Lib.hid (by have := HK.out; rwa [List.take_length] at this)
      go_wp2_with fail
      go_ret
      exact ⟨Below.refl _ _, Or.inl ⟨HA.out, rfl⟩⟩
end Go.Proofs.YtleheaffipokfaaDoor
