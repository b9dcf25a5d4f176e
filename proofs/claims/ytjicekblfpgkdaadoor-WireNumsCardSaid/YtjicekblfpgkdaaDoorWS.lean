/-
  Sums of bytes, the program's and the document's.
-/
import Derived.Test.YtjicekblfpgkdaaDoorWU
namespace Go.Proofs.YtjicekblfpgkdaaDoor
open Go.RowKit

/-- Four bytes were told. -/
theorem sum_post (l : List Int) (A C a0 a1 c0 c1 : Int) (w : World) (hS : sumP (0, 0) l = (A, C)) (e0 : A % 256 = a0) (e1 : A / 256 = a1) (e2 : C % 256 = c0) (e3 : C / 256 = c1) :
    RowPost (sumB l) w (.returned (.slice (some ⟨w.heap.size, 0, none⟩) 4 4)) (w.alloc (.cells #[.int .u8 a0, .int .u8 a1, .int .u8 c0, .int .u8 c1] 5)) := by
  have e : sumB l = [a0, a1, c0, c1] := by unfold sumB; rw [hS, e0, e1, e2, e3]
  rw [e]
  exact ⟨_, _, rfl, U8at.lit w [a0, a1, c0, c1] (by simp) _ rfl, Or.inr (Nat.le_refl _), below_new8 _⟩
theorem sum_step {l : List Int} {k : Nat} (hk : k < l.length) {A C : Int} (h : sumP (0, 0) (l.take k) = (A, C)) : sumP (0, 0) (l.take (k + 1)) = ((A + l[k]) % 257, (C + (A + l[k]) % 257) % 257) := by
  rw [List.take_succ_eq_append_getElem hk, sumP_snoc, h]
theorem sum_in {l : List Int} {A C : Int} (h : sumP (0, 0) l = (A, C)) : (0 ≤ A ∧ A ≤ 256) ∧ (0 ≤ C ∧ C ≤ 256) := by
  have := sumP_in l (0, 0) (by simp)
  rw [h] at this
  exact this

theorem wsum_none (p : Option Addr) (c : Nat) (w : World) : Calls Tryd.prog 21 #[.slice p 0 c] w (RowPost (sumB []) w) := by
  go_enter Tryd.func21, Tryd.ntmps21
  go_wp2
  refine wp_loop_rounds 1 ?_
  rw [rounds_succ]
  go_wp2
  go_ret
  exact sum_post [] 0 0 0 0 0 0 w rfl rfl rfl rfl rfl
set_option maxRecDepth 100000 in
set_option maxHeartbeats 1000000 in
theorem wsum_some (b o c : Nat) (l : List Int) (w : World) (hl : l.length ≤ 9223372036854775807) (hc : ∀ i (h : i < l.length), w.cell? ⟨b, o + i, none⟩ = some (.int .u8 l[i])) (hin : In8 l) :
    Calls Tryd.prog 21 #[.slice (some ⟨b, o, none⟩) l.length c] w (RowPost (sumB l) w) := by
  have HC := Lib.hid hc
  clear hc
  go_enter Tryd.func21, Tryd.ntmps21
  go_wp2
  go_loop [3, 4, 9] (fun a c i => ∃ (k : Nat) (A C : Int), k ≤ l.length ∧ i = .int .i64 k ∧ a = .int .i64 A ∧ c = .int .i64 C ∧ Hid (sumP (0, 0) (l.take k) = (A, C))) (fun _ _ i => l.length - (intOf i).toNat)
  case atStart => exact ⟨0, 0, 0, Nat.zero_le _, rfl, rfl, rfl, Lib.hid rfl⟩
  case round =>
    obtain ⟨k, A, C, hk, rfl, rfl, rfl, HS⟩ := hrel
    obtain ⟨⟨a0, a1⟩, c0, c1⟩ := sum_in HS.out
    by_cases hlt : k < l.length
    · have g := HC.out k hlt
      obtain ⟨x0, x1⟩ := hin _ (List.getElem_mem hlt)
      have HT := Lib.hid (sum_step hlt HS.out)
      obtain ⟨X, hX⟩ : ∃ X, l[k] = X := ⟨_, rfl⟩
      rw [hX] at g x0 x1 HT
      obtain ⟨A', hA⟩ : ∃ A', (A + X) % 257 = A' := ⟨_, rfl⟩
      obtain ⟨C', hC⟩ : ∃ C', (C + A') % 257 = C' := ⟨_, rfl⟩
      rw [hA, hC] at HT
      have q0 : (A + X).tmod 257 = A' := (Int.tmod_eq_emod_of_nonneg (by omega)).trans hA
      have q1 : (C + A').tmod 257 = C' := (Int.tmod_eq_emod_of_nonneg (by omega)).trans hC
      have q2 : 0 ≤ A' ∧ A' ≤ 256 := by omega
      obtain ⟨q3, q4⟩ := q2
      clear HS hX
      go_wp2
      go_round
      case rel => exact ⟨k + 1, A', C', by omega, by go_num, rfl, rfl, HT⟩
      case measure => simp [intOf]; omega
    · obtain rfl : k = l.length := by omega
      have HS' : Hid (sumP (0, 0) l = (A, C)) := Lib.hid (by have := HS.out; rwa [List.take_length] at this)
      obtain ⟨d0, hd0⟩ : ∃ X, A % 256 = X := ⟨_, rfl⟩
      obtain ⟨d1, hd1⟩ : ∃ X, A / 256 = X := ⟨_, rfl⟩
      obtain ⟨d2, hd2⟩ : ∃ X, C % 256 = X := ⟨_, rfl⟩
      obtain ⟨d3, hd3⟩ : ∃ X, C / 256 = X := ⟨_, rfl⟩
      have HD := Lib.hid (sum_post l A C d0 d1 d2 d3 w HS'.out hd0 hd1 hd2 hd3)
      have q0 : 0 ≤ d1 ∧ d1 ≤ 1 := by omega
      have q1 : 0 ≤ d3 ∧ d3 ≤ 1 := by omega
      have q2 : d1 % 256 = d1 := by omega
      have q3 : d3 % 256 = d3 := by omega
      clear HS HS'
      go_wp2
      go_ret
      exact HD.out
theorem wsum_any (v : Value) (l : List Int) (w : World) (h : U8s w v l) (hin : In8 l) : Calls Tryd.prog 21 #[v] w (RowPost (sumB l) w) := by
  obtain ⟨x, h⟩ := h
  rcases h with ⟨rfl, p, c, rfl, -⟩ | ⟨hl, o, c, -, -, rfl, -, hc⟩
  · exact wsum_none p c w
  · exact wsum_some x o c l w hl hc hin

theorem rsum8_none (p : Option Addr) (c : Nat) (w : World) : Calls Tryd.prog 22 #[.slice p 0 c] w (RowPost (sumB []) w) := by
  go_enter Tryd.func22, Tryd.ntmps22
  go_wp2
  refine wp_loop_rounds 1 ?_
  rw [rounds_succ]
  go_wp2
  go_ret
  exact sum_post [] 0 0 0 0 0 0 w rfl rfl rfl rfl rfl
set_option maxRecDepth 100000 in
set_option maxHeartbeats 1000000 in
theorem rsum8_some (b o c : Nat) (l : List Int) (w : World) (hl : l.length ≤ 9223372036854775807) (hc : ∀ i (h : i < l.length), w.cell? ⟨b, o + i, none⟩ = some (.int .u8 l[i])) (hin : In8 l) :
    Calls Tryd.prog 22 #[.slice (some ⟨b, o, none⟩) l.length c] w (RowPost (sumB l) w) := by
  have HC := Lib.hid hc
  clear hc
  go_enter Tryd.func22, Tryd.ntmps22
  go_wp2
  go_loop [3, 4, 5] (fun a c i => ∃ (k : Nat) (A C : Int), k ≤ l.length ∧ i = .int .i64 k ∧ a = .int .i64 A ∧ c = .int .i64 C ∧ Hid (sumP (0, 0) (l.take k) = (A, C))) (fun _ _ i => l.length - (intOf i).toNat)
  case atStart => exact ⟨0, 0, 0, Nat.zero_le _, rfl, rfl, rfl, Lib.hid rfl⟩
  case round =>
    obtain ⟨k, A, C, hk, rfl, rfl, rfl, HS⟩ := hrel
    obtain ⟨⟨a0, a1⟩, c0, c1⟩ := sum_in HS.out
    by_cases hlt : k < l.length
    · have g := HC.out k hlt
      obtain ⟨x0, x1⟩ := hin _ (List.getElem_mem hlt)
      have HT := Lib.hid (sum_step hlt HS.out)
      obtain ⟨X, hX⟩ : ∃ X, l[k] = X := ⟨_, rfl⟩
      rw [hX] at g x0 x1 HT
      obtain ⟨A', hA⟩ : ∃ A', (A + X) % 257 = A' := ⟨_, rfl⟩
      obtain ⟨C', hC⟩ : ∃ C', (C + A') % 257 = C' := ⟨_, rfl⟩
      rw [hA, hC] at HT
      have q0 : (A + X).tmod 257 = A' := (Int.tmod_eq_emod_of_nonneg (by omega)).trans hA
      have q1 : (C + A').tmod 257 = C' := (Int.tmod_eq_emod_of_nonneg (by omega)).trans hC
      have q2 : 0 ≤ A' ∧ A' ≤ 256 := by omega
      obtain ⟨q3, q4⟩ := q2
      clear HS hX
      go_wp2
      go_round
      case rel => exact ⟨k + 1, A', C', by omega, by go_num, rfl, rfl, HT⟩
      case measure => simp [intOf]; omega
    · obtain rfl : k = l.length := by omega
      have HS' : Hid (sumP (0, 0) l = (A, C)) := Lib.hid (by have := HS.out; rwa [List.take_length] at this)
      obtain ⟨d0, hd0⟩ : ∃ X, A % 256 = X := ⟨_, rfl⟩
      obtain ⟨d1, hd1⟩ : ∃ X, A / 256 = X := ⟨_, rfl⟩
      obtain ⟨d2, hd2⟩ : ∃ X, C % 256 = X := ⟨_, rfl⟩
      obtain ⟨d3, hd3⟩ : ∃ X, C / 256 = X := ⟨_, rfl⟩
      have HD := Lib.hid (sum_post l A C d0 d1 d2 d3 w HS'.out hd0 hd1 hd2 hd3)
      have q0 : 0 ≤ d0 ∧ d0 ≤ 255 := by omega
      have q1 : 0 ≤ d1 ∧ d1 ≤ 1 := by omega
      have q2 : 0 ≤ d2 ∧ d2 ≤ 255 := by omega
      have q3 : 0 ≤ d3 ∧ d3 ≤ 1 := by omega
      have r0 : A.tmod 256 = d0 := (Int.tmod_eq_emod_of_nonneg a0).trans hd0
      have r1 : A.tdiv 256 = d1 := (Int.tdiv_eq_ediv_of_nonneg a0).trans hd1
      have r2 : C.tmod 256 = d2 := (Int.tmod_eq_emod_of_nonneg c0).trans hd2
      have r3 : C.tdiv 256 = d3 := (Int.tdiv_eq_ediv_of_nonneg c0).trans hd3
      have s0 : d0 % 256 = d0 := by omega
      have s1 : d1 % 256 = d1 := by omega
      have s2 : d2 % 256 = d2 := by omega
      have s3 : d3 % 256 = d3 := by omega
      clear HS HS'
      go_wp2
      go_ret
      exact HD.out
theorem rsum8_any (v : Value) (l : List Int) (w : World) (h : U8s w v l) (hin : In8 l) : Calls Tryd.prog 22 #[v] w (RowPost (sumB l) w) := by
  obtain ⟨x, h⟩ := h
  rcases h with ⟨rfl, p, c, rfl, -⟩ | ⟨hl, o, c, -, -, rfl, -, hc⟩
  · exact rsum8_none p c w
  · exact rsum8_some x o c l w hl hc hin

end Go.Proofs.YtjicekblfpgkdaaDoor
