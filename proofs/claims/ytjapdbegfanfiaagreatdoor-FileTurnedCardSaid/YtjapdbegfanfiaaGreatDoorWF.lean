/-
  What bytes begin with, as a number: the program's first.
-/
import Derived.Test.YtjapdbegfanfiaaGreatDoorWU
import Derived.OwnWalk
namespace Go.Proofs.YtjapdbegfanfiaaGreatDoor
open Go.RowKit

/-- A byte's seven bits, put to a number that is below them. -/
theorem or_at {k : Nat} (hk : k ≤ 9) {V X : Int} (v0 : 0 ≤ V) (v1 : V < 2 ^ (7 * k)) (x0 : 0 ≤ X) (x1 : X ≤ 127) (h : k ≤ 8 ∨ X ≤ 1) : bits BinOp.or IntKind.u64 V (IntKind.u64.wrap (X * 2 ^ (7 * k))) = V + X * 2 ^ (7 * k) := by
  obtain ⟨v, rfl⟩ := Int.eq_ofNat_of_zero_le v0
  obtain ⟨x, rfl⟩ := Int.eq_ofNat_of_zero_le x0
  have e : ((x : Int) * 2 ^ (7 * k)) = ((x * 2 ^ (7 * k) : Nat) : Int) := by simp
  have e2 : ((2 : Int) ^ (7 * k)) = ((2 ^ (7 * k) : Nat) : Int) := by simp
  have hv : v < 2 ^ (7 * k) := by rw [e2] at v1; omega
  have hx : x * 2 ^ (7 * k) < 18446744073709551616 := by
    rcases Nat.lt_or_ge k 9 with h9 | h9
    · have h1 : (2 : Nat) ^ (7 * k) ≤ 2 ^ 56 := Nat.pow_le_pow_right (by decide) (by omega)
      have h2 : x * 2 ^ (7 * k) ≤ 127 * 2 ^ 56 := Nat.mul_le_mul (by omega) h1
      omega
    · obtain rfl : k = 9 := by omega
      have h2 : x * 2 ^ (7 * 9) ≤ 1 * 2 ^ 63 := Nat.mul_le_mul (by omega) (Nat.le_refl _)
      omega
  rw [e, wrap_u64n, Int.emod_eq_of_lt (by omega) (by omega), orSum (7 * k) v x (by omega) hv hx]
  simp

/-- Ahead of byte k. -/
structure FirstAt (l : List Int) (k : Nat) (V : Int) : Prop where
  lo : 0 ≤ V
  hi : V ≤ 18446744073709551615
  err : (rd l).2.2 = (rdF (10 - k) (decide (k = 0)) (l.drop k)).2.2
  val : k ≤ 9 → V < 2 ^ (7 * k) ∧ (rd l).1 = V + 2 ^ (7 * k) * (rdF (10 - k) (decide (k = 0)) (l.drop k)).1 ∧ (rd l).2.1 = k + (rdF (10 - k) (decide (k = 0)) (l.drop k)).2.1
theorem FirstAt.zero (l : List Int) : FirstAt l 0 0 := ⟨by omega, by omega, rfl, fun _ => ⟨by simp, by show (rd l).1 = 0 + 2 ^ (7 * 0) * (rd l).1; simp, by show (rd l).2.1 = 0 + (rd l).2.1; simp⟩⟩
theorem FirstAt.more {l : List Int} {k : Nat} {V X Y : Int} (h : FirstAt l k V) (hk : k ≤ 9) (hl : k < l.length) (hX : l[k] = X) (x0 : 128 ≤ X) (x1 : X ≤ 255)
    (hY : bits BinOp.or IntKind.u64 V (IntKind.u64.wrap ((X - 128) * 2 ^ (7 * k))) = Y) : FirstAt l (k + 1) Y := by
  obtain ⟨h1, h2, h3, h4⟩ := h
  obtain ⟨h5, h6, h7⟩ := h4 hk
  have e : 10 - k = (9 - k) + 1 := by omega
  have e3 : 10 - (k + 1) = 9 - k := by omega
  have e2 : decide (k + 1 = 0) = false := by simp
  rw [List.drop_eq_getElem_cons hl, hX, e, rdF_more (by omega)] at h3 h6 h7
  refine ⟨?_, ?_, ?_, fun h9 => ?_⟩
  · rw [← hY]; exact bits_lo_u64 ..
  · rw [← hY]; exact bits_hi_u64 ..
  · rw [e3, e2]; exact h3
  · rw [e3, e2]
    have hor := or_at hk h1 h5 (show 0 ≤ X - 128 by omega) (by omega) (Or.inl (show k ≤ 8 by omega))
    rw [hor] at hY
    have hp : (2 : Int) ^ (7 * (k + 1)) = 128 * 2 ^ (7 * k) := by rw [show 7 * (k + 1) = 7 * k + 7 by omega, Int.pow_add]; omega
    have h8 := congrArg (fun x : Int => x) h6
    simp only at h6 h7
    refine ⟨?_, ?_, ?_⟩
    · rw [hp, ← hY]
      have : (X - 128) * 2 ^ (7 * k) ≤ 127 * 2 ^ (7 * k) := Int.mul_le_mul_of_nonneg_right (by omega) (Int.le_of_lt (Int.pow_pos (by decide)))
      omega
    · rw [h6, ← hY, hp, Int.mul_add, ← Int.mul_assoc, Int.mul_comm (2 ^ (7 * k)) (X - 128), Int.mul_comm (2 ^ (7 * k)) 128, Int.add_assoc]
    · rw [h7]; omega
/-- The last one. -/
theorem FirstAt.last {l : List Int} {k : Nat} {V X Y : Int} (h : FirstAt l k V) (hk : k ≤ 9) (hl : k < l.length) (hX : l[k] = X) (x0 : 0 ≤ X) (x1 : X < 128)
    (hY : bits BinOp.or IntKind.u64 V (IntKind.u64.wrap (X * 2 ^ (7 * k))) = Y) :
    (if (¬ (k : Int) = 0 ∧ X = 0) ∨ ((k : Int) = 9 ∧ 1 < X) then 2 else 0) = (rd l).2.2 ∧ 0 ≤ Y ∧ Y ≤ 18446744073709551615 ∧ ((rd l).2.2 = 0 → Y = (rd l).1 ∧ (k : Int) + 1 = (rd l).2.1) := by
  obtain ⟨h1, h2, h3, h4⟩ := h
  obtain ⟨h5, h6, h7⟩ := h4 hk
  have e : 10 - k = (9 - k) + 1 := by omega
  rw [List.drop_eq_getElem_cons hl, hX, e, rdF_last (by omega)] at h3 h6 h7
  simp only at h3 h6 h7
  have hE : (if (¬ (k : Int) = 0 ∧ X = 0) ∨ ((k : Int) = 9 ∧ 1 < X) then (2 : Int) else 0) = (rd l).2.2 := by
    rw [h3]
    by_cases hc : (¬ (k : Int) = 0 ∧ X = 0) ∨ ((k : Int) = 9 ∧ 1 < X)
    · rw [if_pos hc, if_pos]
      rcases hc with ⟨ha, hb⟩ | ⟨ha, hb⟩
      · exact Or.inl ⟨by simp; omega, hb⟩
      · exact Or.inr ⟨by omega, hb⟩
    · rw [if_neg hc, if_neg]
      rintro (⟨ha, hb⟩ | ⟨ha, hb⟩)
      · have : ¬ k = 0 := by simpa using ha
        exact hc (Or.inl ⟨by omega, hb⟩)
      · exact hc (Or.inr ⟨by omega, hb⟩)
  refine ⟨hE, ?_, ?_, fun h0 => ?_⟩
  · rw [← hY]; exact bits_lo_u64 ..
  · rw [← hY]; exact bits_hi_u64 ..
  · rw [← hE] at h0
    have hc : ¬ ((¬ (k : Int) = 0 ∧ X = 0) ∨ ((k : Int) = 9 ∧ 1 < X)) := fun hc => by rw [if_pos hc] at h0; omega
    rw [or_at hk h1 h5 x0 (by omega) (by omega)] at hY
    refine ⟨?_, by rw [h7]; omega⟩
    rw [h6, ← hY, Int.mul_comm]
theorem FirstAt.short {l : List Int} {V : Int} (h : FirstAt l l.length V) (h10 : l.length < 10) : (rd l).2.2 = 3 := by
  have h3 := h.err
  rw [List.drop_length, show 10 - l.length = (9 - l.length) + 1 by omega] at h3
  exact h3
theorem FirstAt.form {l : List Int} {V : Int} (h : FirstAt l 10 V) : (rd l).2.2 = 2 := h.err

theorem last_is (i : Int) (c E : Int) (w : World) (h0 : 0 ≤ i) (h1 : i ≤ 9) (c0 : 0 ≤ c) (c1 : c ≤ 127) (hE : (if (¬ i = 0 ∧ c = 0) ∨ (i = 9 ∧ 1 < c) then 2 else 0) = E) : Calls Tryz.prog 107 #[.int .i64 i, .int .u8 c] w fun e w' => e = .returned (.int .i64 E) ∧ w = w' := by
  have := last_any i c w h0 h1 c0 c1
  rw [hE] at this
  exact this
/-- What first answers. -/
def FirstPost (l : List Int) (w : World) (ev : Ending) (w' : World) : Prop :=
  ∃ V S : Int, ev = .returned (.tuple #[.int .u64 V, .int .i64 S, .int .i64 (rd l).2.2]) ∧ w = w' ∧ 0 ≤ V ∧ V ≤ 18446744073709551615 ∧ 0 ≤ S ∧ S ≤ 10 ∧ ((rd l).2.2 = 0 → V = (rd l).1 ∧ S = (rd l).2.1)

theorem first_none (p : Option Addr) (c : Nat) (w : World) : Calls Tryz.prog 100 #[.slice p 0 c] w (FirstPost [] w) := by
  go_enter Tryz.func100, Tryz.ntmps100
  go_wp2
  refine wp_loop_rounds 1 ?_
  rw [rounds_succ]
  go_wp2
  go_ret3
  exact ⟨0, 0, rfl, rfl, by omega, by omega, by omega, by omega, fun h => by simp [rd, rdF] at h⟩
set_option maxRecDepth 100000 in
set_option maxHeartbeats 2000000 in
theorem first_some (b o c : Nat) (l : List Int) (w : World) (hl : l.length ≤ 9223372036854775807) (hcap : l.length ≤ c) (hc : ∀ i (h : i < l.length), w.cell? ⟨b, o + i, none⟩ = some (.int .u8 l[i])) (hin : In8 l) :
    Calls Tryz.prog 100 #[.slice (some ⟨b, o, none⟩) l.length c] w (FirstPost l w) := by
  have HC := Lib.hid hc
  clear hc
  by_cases h10 : l.length ≤ 10
  · go_enter Tryz.func100, Tryz.ntmps100
    go_wp2
    go_loop [5, 14] (fun v i => ∃ (k : Nat) (V : Int), k ≤ l.length ∧ i = .int .i64 k ∧ v = .int .u64 V ∧ Hid (FirstAt l k V)) (fun _ i => l.length - (intOf i).toNat)
    case atStart => exact ⟨0, 0, Nat.zero_le _, rfl, rfl, Lib.hid (FirstAt.zero l)⟩
    case round =>
      obtain ⟨k, V, hk, rfl, rfl, HF⟩ := hrel
      have v0 := HF.out.lo
      have v1 := HF.out.hi
      by_cases hlt : k < l.length
      · have g := HC.out k hlt
        obtain ⟨x0, x1⟩ := hin _ (List.getElem_mem hlt)
        obtain ⟨X, hX⟩ : ∃ X, l[k] = X := ⟨_, rfl⟩
        rw [hX] at g x0 x1
        by_cases hx : X < 128
        · have q0 : bits BinOp.andNot IntKind.u8 X 128 = X := by rw [no128 X x0 (by omega)]; omega
          obtain ⟨Y, hY⟩ : ∃ Y, bits BinOp.or IntKind.u64 V (IntKind.u64.wrap (X * 2 ^ (7 * k))) = Y := ⟨_, rfl⟩
          have HL := Lib.hid (HF.out.last (by omega) hlt hX x0 hx hY)
          clear hX
          go_wp2_with (go_at_call 107; refine (last_is _ _ _ _ (by omega) (by omega) (by omega) (by omega) HL.out.1).mono ?_; rintro e w' ⟨rfl, rfl⟩)
          go_ret3
          obtain ⟨-, r1, r2, r3⟩ := HL.out
          exact ⟨Y, k + 1, rfl, rfl, r1, r2, by omega, by omega, r3⟩
        · obtain ⟨X', hX'⟩ : ∃ X', X - 128 = X' := ⟨_, rfl⟩
          have q0 : bits BinOp.andNot IntKind.u8 X 128 = X' := by rw [no128 X x0 (by omega)]; omega
          obtain ⟨Y, hY⟩ : ∃ Y, bits BinOp.or IntKind.u64 V (IntKind.u64.wrap (X' * 2 ^ (7 * k))) = Y := ⟨_, rfl⟩
          have HN : Hid (FirstAt l (k + 1) Y) := Lib.hid (HF.out.more (by omega) hlt hX (by omega) (by omega) (by rw [hX']; exact hY))
          have z0 : 0 ≤ X' ∧ X' ≤ 127 := by omega
          obtain ⟨z1, z2⟩ := z0
          clear hX hX'
          go_wp2
          go_round
          case rel => exact ⟨k + 1, Y, by omega, by go_num, rfl, HN⟩
          case measure => simp [intOf]; omega
      · obtain rfl : k = l.length := by omega
        by_cases h9 : l.length < 10
        · have HE := Lib.hid (HF.out.short h9)
          go_wp2
          go_ret3
          exact ⟨0, 0, by rw [HE.out]; rfl, rfl, by omega, by omega, by omega, by omega, fun h => by rw [HE.out] at h; omega⟩
        · have h9' : l.length = 10 := by omega
          have HE : Hid ((rd l).2.2 = 2) := Lib.hid (by have := HF.out; rw [h9'] at this; exact this.form)
          have h8 : ¬ (l.length : Int) < 10 := by omega
          clear h9 h9'
          go_wp2
          go_ret3
          exact ⟨0, 0, by rw [HE.out]; rfl, rfl, by omega, by omega, by omega, by omega, fun h => by rw [HE.out] at h; omega⟩
  · have h10' : 10 < l.length := by omega
    clear h10
    go_enter Tryz.func100, Tryz.ntmps100
    go_wp2
    go_loop [5, 14] (fun v i => ∃ (k : Nat) (V : Int), k ≤ 10 ∧ i = .int .i64 k ∧ v = .int .u64 V ∧ Hid (FirstAt l k V)) (fun _ i => 10 - (intOf i).toNat)
    case atStart => exact ⟨0, 0, Nat.zero_le _, rfl, rfl, Lib.hid (FirstAt.zero l)⟩
    case round =>
      obtain ⟨k, V, hk, rfl, rfl, HF⟩ := hrel
      have v0 := HF.out.lo
      have v1 := HF.out.hi
      by_cases hlt : k < 10
      · have hlt2 : k < l.length := by omega
        have g := HC.out k hlt2
        obtain ⟨x0, x1⟩ := hin _ (List.getElem_mem hlt2)
        obtain ⟨X, hX⟩ : ∃ X, l[k] = X := ⟨_, rfl⟩
        rw [hX] at g x0 x1
        by_cases hx : X < 128
        · have q0 : bits BinOp.andNot IntKind.u8 X 128 = X := by rw [no128 X x0 (by omega)]; omega
          obtain ⟨Y, hY⟩ : ∃ Y, bits BinOp.or IntKind.u64 V (IntKind.u64.wrap (X * 2 ^ (7 * k))) = Y := ⟨_, rfl⟩
          have HL := Lib.hid (HF.out.last (by omega) hlt2 hX x0 hx hY)
          clear hX
          go_wp2_with (go_at_call 107; refine (last_is _ _ _ _ (by omega) (by omega) (by omega) (by omega) HL.out.1).mono ?_; rintro e w' ⟨rfl, rfl⟩)
          go_ret3
          obtain ⟨-, r1, r2, r3⟩ := HL.out
          exact ⟨Y, k + 1, rfl, rfl, r1, r2, by omega, by omega, r3⟩
        · obtain ⟨X', hX'⟩ : ∃ X', X - 128 = X' := ⟨_, rfl⟩
          have q0 : bits BinOp.andNot IntKind.u8 X 128 = X' := by rw [no128 X x0 (by omega)]; omega
          obtain ⟨Y, hY⟩ : ∃ Y, bits BinOp.or IntKind.u64 V (IntKind.u64.wrap (X' * 2 ^ (7 * k))) = Y := ⟨_, rfl⟩
          have HN : Hid (FirstAt l (k + 1) Y) := Lib.hid (HF.out.more (by omega) hlt2 hX (by omega) (by omega) (by rw [hX']; exact hY))
          have z0 : 0 ≤ X' ∧ X' ≤ 127 := by omega
          obtain ⟨z1, z2⟩ := z0
          clear hX hX'
          go_wp2
          go_round
          case rel => exact ⟨k + 1, Y, by omega, by go_num, rfl, HN⟩
          case measure => simp [intOf]; omega
      · obtain rfl : k = 10 := by omega
        have HE := Lib.hid HF.out.form
        go_wp2
        go_ret3
        exact ⟨0, 0, by rw [HE.out]; rfl, rfl, by omega, by omega, by omega, by omega, fun h => by rw [HE.out] at h; omega⟩
theorem first_any (v : Value) (l : List Int) (w : World) (h : U8s w v l) (hin : In8 l) : Calls Tryz.prog 100 #[v] w (FirstPost l w) := by
  obtain ⟨x, h⟩ := h
  rcases h with ⟨rfl, p, c, rfl, -⟩ | ⟨hl, o, c, h1, -, rfl, -, hc⟩
  · exact first_none p c w
  · exact first_some x o c l w hl h1 hc hin

end Go.Proofs.YtjapdbegfanfiaaGreatDoor
