/-
  The document's own SameInts: are two rows of numbers alike?
-/
import Derived.Test.YtleheaffipokfaaTabM
import Derived.Test.YtleheaffipokfaaWgt
import Derived.Test.YtleheaffipokfaaI64
import Derived.Test.YtleheaffipokfaaAtW
import Derived.Lib.Hide
import Derived.Deep.QuietTactic
import Derived.BigQuiet
import Derived.WalkSmall
namespace Go.Proofs.Ytleheaffipokfaa
open Go.RowKit

set_option maxHeartbeats 1000000 in
theorem sameints_any (v u : Value) (l m : List Int) (w : World) (hv : I64s w v l) (hu : I64s w u m) :
    Calls Try.prog 11 #[v, u] w fun e w' => e = .returned (.bool (decide (l = m))) ∧ Below w.heap.size w w' := by
  by_cases hlen : l.length = m.length
  case neg =>
    have hne : Hid (decide (l = m) = false) := decide_eq_false (fun h => hlen (by rw [h]))
    obtain ⟨q, c, rfl⟩ := hv.shape
    obtain ⟨q', c', rfl⟩ := hu.shape
    clear hv hu
    have hlen' : ¬ (l.length : Int) = m.length := by omega
    go_enter Try.func11, Try.ntmps11
    go_wp2
    go_ret
    exact ⟨ret_bool hne.out.symm, Below.refl _ _⟩
  case pos =>
  rcases hv with ⟨rfl, p, c, rfl, -⟩ | ⟨hl, b, o, c, -, -, rfl, hc⟩
  · obtain ⟨q', c', rfl⟩ := hu.shape
    obtain rfl : m = [] := List.eq_nil_of_length_eq_zero (by simpa using hlen.symm)
    clear hu hlen
    go_enter Try.func11, Try.ntmps11
    go_wp2
    refine wp_loop_rounds 1 ?_
    rw [rounds_succ]
    go_wp2
    go_ret
    exact ⟨rfl, Below.refl _ _⟩
  rcases hu with ⟨rfl, p, c', rfl, -⟩ | ⟨hl', b', o', c', -, -, rfl, hc'⟩
  · obtain rfl : l = [] := List.eq_nil_of_length_eq_zero (by simpa using hlen)
    clear hc hlen
    go_enter Try.func11, Try.ntmps11
    go_wp2
    refine wp_loop_rounds 1 ?_
    rw [rounds_succ]
    go_wp2
    go_ret
    exact ⟨rfl, Below.refl _ _⟩
  have HC := Lib.hid hc
  have HC' := Lib.hid hc'
  have HL := Lib.hid hlen
  clear hc hc'
  have hz : (l.length : Int) = m.length := by omega
  rw [← hlen] at hl' ⊢
  clear hlen hz
  go_enter Try.func11, Try.ntmps11
  go_wp2
  go_loopw [5] (fun i wr => ∃ k : Nat, k ≤ l.length ∧ i = .int .i64 k ∧ Hid (l.take k = m.take k) ∧ Hid (Below w.heap.size w wr)) (fun i _ => l.length - (intOf i).toNat)
  case atStart => exact ⟨0, Nat.zero_le _, rfl, rfl, Below.refl _ _⟩
  case round =>
    obtain ⟨k, hk, rfl, HS, HB⟩ := hrel
    by_cases hlt : k < l.length
    · have hlt' : k < m.length := by rw [← HL.out]; exact hlt
      have g := (HB.out.cell (World.block_lt_of_cell? w _ (HC.out k hlt))).trans (HC.out k hlt)
      have g' := (HB.out.cell (World.block_lt_of_cell? w _ (HC'.out k hlt'))).trans (HC'.out k hlt')
      have hki : (k : Int) < l.length := by omega
      by_cases he : l[k] = m[k]
      · have HN : Hid (l.take (k + 1) = m.take (k + 1)) := by rw [take_snoc l k hlt, take_snoc m k hlt', HS.out, he]; exact rfl
        go_wp2
        go_quiet (fail)
        go_wp2
        go_roundw
        case rel => exact ⟨k + 1, by omega, by go_num, HN, below_drewN HB.out _⟩
        case measure => simp [intOf]; omega
      · have HN : Hid (decide (l = m) = false) := decide_eq_false (fun h => he (by subst h; rfl))
        go_wp2
        go_quiet (fail)
        go_wp2
        go_ret
        exact ⟨ret_bool HN.out.symm, below_drewN HB.out _⟩
    · have HN : Hid (decide (l = m) = true) := by
        have := HS.out
        rw [List.take_of_length_le (by omega), List.take_of_length_le (by rw [← HL.out]; omega)] at this
        exact decide_eq_true this
      go_wp2
      go_ret
      exact ⟨ret_bool HN.out.symm, HB.out⟩

end Go.Proofs.Ytleheaffipokfaa
