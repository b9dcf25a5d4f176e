/-
  Numbers told in bytes, the program's way and the document's; folded numbers.
-/
import Derived.Test.YtjapdbegfanfiaaGreatDoorW8
namespace Go.Proofs.YtjapdbegfanfiaaGreatDoor
open Go.RowKit

theorem ret_num {k : IntKind} {a b : Int} (h : a = b) : Ending.returned (.int k a) = .returned (.int k b) := by rw [h]
theorem wrap_u64n (n : Int) : IntKind.u64.wrap n = n % 18446744073709551616 := by simp [IntKind.wrap, IntKind.bits, IntKind.signed]
theorem xor_u64 (x : Int) (h0 : 0 ≤ x) (h1 : x ≤ 18446744073709551615) : bits BinOp.xor IntKind.u64 IntKind.u64.max x = 18446744073709551615 - x := by
  obtain ⟨n, rfl⟩ := Int.eq_ofNat_of_zero_le h0
  have e1 : BitVec.ofInt 64 IntKind.u64.max = BitVec.allOnes 64 := by decide
  show IntKind.u64.wrap ((BitVec.ofInt 64 IntKind.u64.max ^^^ BitVec.ofInt 64 (n : Int)).toNat : Int) = _
  rw [e1, BitVec.allOnes_xor, BitVec.toNat_not, wrap_u64n, BitVec.ofInt_natCast, BitVec.toNat_ofNat]
  omega
theorem xor_i64 (x : Int) (h0 : 0 ≤ x) (h1 : x ≤ 9223372036854775807) : bits BinOp.xor IntKind.i64 (-1) x = -1 - x := by
  obtain ⟨n, rfl⟩ := Int.eq_ofNat_of_zero_le h0
  have e1 : BitVec.ofInt 64 (-1) = BitVec.allOnes 64 := by decide
  show IntKind.i64.wrap ((BitVec.ofInt 64 (-1) ^^^ BitVec.ofInt 64 (n : Int)).toNat : Int) = _
  rw [e1, BitVec.allOnes_xor, BitVec.toNat_not, BitVec.ofInt_natCast, BitVec.toNat_ofNat]
  have e2 : (2 ^ 64 - 1 - n % 2 ^ 64 : Nat) = 18446744073709551615 - n := by omega
  rw [e2]
  simp [IntKind.wrap, IntKind.bits, IntKind.signed]
  omega
theorem fold_any (v : Int) (w : World) (h0 : -9223372036854775808 ≤ v) (h1 : v ≤ 9223372036854775807) : Calls Tryz.prog 98 #[.int .i64 v] w fun e w' => e = .returned (.int .u64 (foldZ v)) ∧ w = w' := by
  by_cases hv : v < 0
  · have hf : foldZ v = 0 - 1 - 2 * v := if_pos hv
    rw [hf]
    go_enter Tryz.func98, Tryz.ntmps98
    go_wp2
    go_ret
    refine ⟨ret_num ?_, rfl⟩
    rw [wrap_u64n, wrap_u64n, xor_u64 _ (by omega) (by omega)]; omega
  · have hf : foldZ v = 2 * v := if_neg hv
    rw [hf]
    go_enter Tryz.func98, Tryz.ntmps98
    go_wp2
    go_ret
    refine ⟨ret_num ?_, rfl⟩
    omega
theorem unfold_any (v : Int) (w : World) (h0 : 0 ≤ v) (h1 : v ≤ 18446744073709551615) : Calls Tryz.prog 109 #[.int .u64 v] w fun e w' => e = .returned (.int .i64 (unfZ v)) ∧ w = w' := by
  by_cases hv : v % 2 = 1
  · have hf : unfZ v = 0 - 1 - v / 2 := if_pos hv
    rw [hf]
    have hb := and_one_u64 v h0 h1
    go_enter Tryz.func109, Tryz.ntmps109
    go_wp2
    go_ret
    refine ⟨ret_num ?_, rfl⟩
    rw [xor_i64 _ (by omega) (by omega)]; try omega
  · have hf : unfZ v = v / 2 := if_neg hv
    rw [hf]
    have hb := and_one_u64 v h0 h1
    go_enter Tryz.func109, Tryz.ntmps109
    go_wp2
    go_ret
    refine ⟨ret_num ?_, rfl⟩
    rfl
theorem amount_any (v : Int) (w : World) (h0 : 0 ≤ v) (h1 : v ≤ 18446744073709551615) : Calls Tryz.prog 108 #[.int .u64 v] w fun e w' => e = .returned (.int .u64 (amtZ v)) ∧ w = w' := by
  have hb := and_one_u64 v h0 h1
  go_enter Tryz.func108, Tryz.ntmps108
  go_wp2
  go_ret
  refine ⟨ret_num ?_, rfl⟩
  rfl

/-- What a call answers that tells a row of bytes of its own. -/
def RowPost8 (l : List Int) (w : World) (ev : Ending) (w' : World) : Prop := ∃ v x, ev = .returned v ∧ U8at w' v l x ∧ (l = [] ∨ w.heap.size ≤ x) ∧ Below w.heap.size w w'
theorem row_of {w w' : World} {v : Value} {n : Nat} {l : List Int} (h : w'.ownsRow w.heap.size 5 1 v n (l.map (Value.int .u8))) (hl : l.length ≤ 1000) (hb : Below w.heap.size w w') : RowPost8 l w (.returned v) w' := by
  obtain ⟨x, h1, h2⟩ := u8_of_owns h (by omega)
  exact ⟨v, x, rfl, h1, h2, hb⟩
/-- Ahead of a round: what is told so far, and what is left of the number. -/
structure EncAt (w : World) (v : Int) (u : Int) (o : Value) (wr : World) (k : Nat) (l : List Int) : Prop where
  len : l.length + k = 9
  told : enc v = l ++ encF k u
  ge : 0 ≤ u
  lt : u < lim k
  own : wr.ownsRow w.heap.size 5 1 o l.length (l.map (Value.int .u8))
  below : Below w.heap.size w wr
theorem lim_le : ∀ k, k ≤ 9 → lim k ≤ 18446744073709551616 := by
  intro k hk
  match k, hk with
  | 0, _ | 1, _ | 2, _ | 3, _ | 4, _ | 5, _ | 6, _ | 7, _ | 8, _ | 9, _ => decide
theorem EncAt.u64 {w : World} {v u : Int} {o : Value} {wr : World} {k : Nat} {l : List Int} (h : EncAt w v u o wr k l) : u ≤ 18446744073709551615 := by
  have h1 := lim_le k (by have := h.len; omega)
  have h2 := h.lt
  omega
/-- One byte more. -/
theorem EncAt.more {w : World} {v u : Int} {o : Value} {wr : World} {k : Nat} {l : List Int} (h : EncAt w v u o wr k l) (hu : 128 ≤ u) {X Y : Int} (hX : u % 128 + 128 = X) (hY : u / 128 = Y) {o' : Value} {w1 : World}
    (ho : w1.ownsRow w.heap.size 5 1 o' (l ++ [X]).length ((l ++ [X]).map (Value.int .u8))) (hb : Below w.heap.size w w1) : ∃ k' l', EncAt w v Y o' w1 k' l' := by
  obtain ⟨h1, h2, h3, h4, -, -⟩ := h
  cases k with
  | zero => simp only [lim] at h4; omega
  | succ k =>
    simp only [lim] at h4
    refine ⟨k, l ++ [X], ⟨by simp; omega, ?_, by omega, by omega, ho, hb⟩⟩
    rw [h2, encF_big (by omega), hX, hY, List.append_assoc]
    rfl
/-- The last byte. -/
theorem EncAt.last {w : World} {v u : Int} {o : Value} {wr : World} {k : Nat} {l : List Int} (h : EncAt w v u o wr k l) (hu : u < 128) : enc v = l ++ [u] := by rw [h.told, encF_small hu]

set_option maxRecDepth 100000 in
set_option maxHeartbeats 2000000 in
theorem wuint_any (v : Int) (w : World) (h0 : 0 ≤ v) (h1 : v ≤ 18446744073709551615) : Calls Tryz.prog 97 #[.int .u64 v] w (RowPost8 (enc v) w) := by
  have hst : EncAt w v v (.slice none 0 0) w 9 [] := ⟨rfl, rfl, h0, by rw [lim9]; omega, World.ownsRow_nil _ _ _ _, Below.refl _ _⟩
  have HST := Lib.hid hst
  clear hst h0 h1
  go_enter Tryz.func97, Tryz.ntmps97
  go_wp2
  go_loopw [0, 3] (fun n o wr => ∃ (u : Int) (k : Nat) (l : List Int), n = .int .u64 u ∧ Hid (EncAt w v u o wr k l)) (fun n _ _ => (intOf n).toNat)
  case atStart => exact ⟨v, 9, [], rfl, HST⟩
  case round =>
    obtain ⟨u, k, l, rfl, H⟩ := hrel
    clear HST
    have g0 := H.out.ge
    have g1 := H.out.u64
    have hll : l.length ≤ 9 := by have := H.out.len; omega
    have hsz := H.out.below.size
    by_cases hu : u < 128
    · have hb : IntKind.u8.wrap u = u := by rw [IntKind.wrap_u8']; omega
      obtain ⟨v', w1, hr, ho, hbl⟩ := app8 (wr.alloc (.cells #[.int .u8 u] 5)) w.heap.size _ (.slice (some ⟨wr.heap.size, 0, none⟩) 1 1) l [u] (H.out.own.alloc _) (by simp; omega) ⟨_, U8at.lit wr [u] (by simp) _ rfl⟩ (by simp; omega)
      have HR := Lib.hid hr
      have HP : Hid (RowPost8 (enc v) w (.returned v') w1) := Lib.hid (row_of (by rw [H.out.last hu]; exact ho) (by have := enc_len v; omega) (H.out.below.trans ((below_new8 _).mono hsz |>.trans hbl)))
      clear hr ho hbl
      go_wp2_with (at_builtin; refine wpList_append_run (by rfl) _ _ _ rfl _ _ _ rfl rfl HR.out ?_)
      go_wp2
      go_ret
      exact HP.out
    · obtain ⟨X, hX⟩ : ∃ X, u % 128 + 128 = X := ⟨_, rfl⟩
      obtain ⟨Y, hY⟩ : ∃ Y, u / 128 = Y := ⟨_, rfl⟩
      have hb : bits BinOp.or IntKind.u8 (u % 256) 128 = X := by rw [or128 _ (by omega) (by omega)]; omega
      obtain ⟨v', w1, hr, ho, hbl⟩ := app8 (wr.alloc (.cells #[.int .u8 X] 5)) w.heap.size _ (.slice (some ⟨wr.heap.size, 0, none⟩) 1 1) l [X] (H.out.own.alloc _) (by simp; omega) ⟨_, U8at.lit wr [X] (by simp) _ rfl⟩ (by simp; omega)
      obtain ⟨k', l', h'⟩ := H.out.more (by omega) hX hY ho (H.out.below.trans ((below_new8 _).mono hsz |>.trans hbl))
      have HR := Lib.hid hr
      have H' := Lib.hid h'
      clear hr ho hbl h' hX
      go_wp2_with (at_builtin; refine wpList_append_run (by rfl) _ _ _ rfl _ _ _ rfl rfl HR.out ?_)
      go_wp2
      go_roundw
      case rel => exact ⟨Y, k', l', by go_num, H'⟩
      case measure => simp [intOf]; omega

set_option maxRecDepth 100000 in
set_option maxHeartbeats 2000000 in
theorem ruint_any (v : Int) (w : World) (h0 : 0 ≤ v) (h1 : v ≤ 18446744073709551615) : Calls Tryz.prog 45 #[.int .u64 v] w (RowPost8 (enc v) w) := by
  have hst : EncAt w v v (.slice none 0 0) w 9 [] := ⟨rfl, rfl, h0, by rw [lim9]; omega, World.ownsRow_nil _ _ _ _, Below.refl _ _⟩
  have HST := Lib.hid hst
  clear hst h0 h1
  go_enter Tryz.func45, Tryz.ntmps45
  go_wp2
  go_loopw [0, 3] (fun n o wr => ∃ (u : Int) (k : Nat) (l : List Int), n = .int .u64 u ∧ Hid (EncAt w v u o wr k l)) (fun n _ _ => (intOf n).toNat)
  case atStart => exact ⟨v, 9, [], rfl, HST⟩
  case round =>
    obtain ⟨u, k, l, rfl, H⟩ := hrel
    clear HST
    have g0 := H.out.ge
    have g1 := H.out.u64
    have hll : l.length ≤ 9 := by have := H.out.len; omega
    have hsz := H.out.below.size
    by_cases hu : u < 128
    · have hb : IntKind.u8.wrap u = u := by rw [IntKind.wrap_u8']; omega
      obtain ⟨v', w1, hr, ho, hbl⟩ := app8 (wr.alloc (.cells #[.int .u8 u] 5)) w.heap.size _ (.slice (some ⟨wr.heap.size, 0, none⟩) 1 1) l [u] (H.out.own.alloc _) (by simp; omega) ⟨_, U8at.lit wr [u] (by simp) _ rfl⟩ (by simp; omega)
      have HR := Lib.hid hr
      have HP : Hid (RowPost8 (enc v) w (.returned v') w1) := Lib.hid (row_of (by rw [H.out.last hu]; exact ho) (by have := enc_len v; omega) (H.out.below.trans ((below_new8 _).mono hsz |>.trans hbl)))
      clear hr ho hbl
      go_wp2_with (at_builtin; refine wpList_append_run (by rfl) _ _ _ rfl _ _ _ rfl rfl HR.out ?_)
      go_wp2
      go_ret
      exact HP.out
    · obtain ⟨X, hX⟩ : ∃ X, u % 128 + 128 = X := ⟨_, rfl⟩
      obtain ⟨Y, hY⟩ : ∃ Y, u / 128 = Y := ⟨_, rfl⟩
      have hb1 : (u % 128 + 128) % 256 = X := by omega
      have hb2 : u.tmod 128 = u % 128 := Int.tmod_eq_emod_of_nonneg g0
      have hb3 : u.tdiv 128 = Y := (Int.tdiv_eq_ediv_of_nonneg g0).trans hY
      have hu' : 128 ≤ u := by omega
      clear hu
      obtain ⟨v', w1, hr, ho, hbl⟩ := app8 (wr.alloc (.cells #[.int .u8 X] 5)) w.heap.size _ (.slice (some ⟨wr.heap.size, 0, none⟩) 1 1) l [X] (H.out.own.alloc _) (by simp; omega) ⟨_, U8at.lit wr [X] (by simp) _ rfl⟩ (by simp; omega)
      obtain ⟨k', l', h'⟩ := H.out.more (by omega) hX hY ho (H.out.below.trans ((below_new8 _).mono hsz |>.trans hbl))
      have HR := Lib.hid hr
      have H' := Lib.hid h'
      clear hr ho hbl h'
      go_wp2_with (at_builtin; refine wpList_append_run (by rfl) _ _ _ rfl _ _ _ rfl rfl HR.out ?_)
      go_wp2
      go_roundw
      case rel => exact ⟨Y, k', l', by go_num, H'⟩
      case measure => simp [intOf]; omega

/-- A row that was told. -/
theorem wint_any (v : Int) (w : World) (h0 : -9223372036854775808 ≤ v) (h1 : v ≤ 9223372036854775807) : Calls Tryz.prog 81 #[.int .i64 v] w (RowPost8 (enc (foldZ v)) w) := by
  obtain ⟨f0, f1⟩ := foldZ_in h0 h1
  go_enter Tryz.func81, Tryz.ntmps81
  go_wp2_with fail
  refine (fold_any v _ h0 h1).mono ?_
  rintro e w1 ⟨rfl, rfl⟩
  go_wp2_with fail
  refine (wuint_any _ _ f0 f1).mono ?_
  rintro e w1 ⟨x, y, rfl, h2, h3, h4⟩
  have H := Lib.hid (show RowPost8 (enc (foldZ v)) w (.returned x) w1 from ⟨x, y, rfl, h2, h3, h4⟩)
  clear h2 h3 h4
  go_wp2_with fail
  go_ret
  exact H.out
theorem rint_any (v : Int) (w : World) (h0 : -9223372036854775808 ≤ v) (h1 : v ≤ 9223372036854775807) : Calls Tryz.prog 47 #[.int .i64 v] w (RowPost8 (enc (foldZ v)) w) := by
  obtain ⟨f0, f1⟩ := foldZ_in h0 h1
  by_cases hv : v < 0
  · have hf : foldZ v = 0 - 1 - 2 * v := if_pos hv
    go_enter Tryz.func47, Tryz.ntmps47
    go_wp2_with fail
    rw [show -(v + 1) * 2 + 1 = foldZ v by omega]
    refine (ruint_any (foldZ v) _ f0 f1).mono ?_
    rintro e w1 ⟨x, y, rfl, h2, h3, h4⟩
    have H := Lib.hid (show RowPost8 (enc (foldZ v)) w (.returned x) w1 from ⟨x, y, rfl, h2, h3, h4⟩)
    clear h2 h3 h4
    go_wp2_with fail
    go_ret
    exact H.out
  · have hf : foldZ v = 2 * v := if_neg hv
    go_enter Tryz.func47, Tryz.ntmps47
    go_wp2_with fail
    rw [show v * 2 = foldZ v by omega]
    refine (ruint_any (foldZ v) _ f0 f1).mono ?_
    rintro e w1 ⟨x, y, rfl, h2, h3, h4⟩
    have H := Lib.hid (show RowPost8 (enc (foldZ v)) w (.returned x) w1 from ⟨x, y, rfl, h2, h3, h4⟩)
    clear h2 h3 h4
    go_wp2_with fail
    go_ret
    exact H.out

theorem last_any (i : Int) (c : Int) (w : World) (h0 : 0 ≤ i) (h1 : i ≤ 9) (c0 : 0 ≤ c) (c1 : c ≤ 127) : Calls Tryz.prog 107 #[.int .i64 i, .int .u8 c] w fun e w' => e = .returned (.int .i64 (if (¬ i = 0 ∧ c = 0) ∨ (i = 9 ∧ 1 < c) then 2 else 0)) ∧ w = w' := by
  have hcase : i = 0 ∨ (0 < i ∧ ¬ i = 9 ∧ c = 0) ∨ (0 < i ∧ ¬ i = 9 ∧ ¬ c = 0) ∨ (i = 9 ∧ c = 0) ∨ (i = 9 ∧ c = 1) ∨ (i = 9 ∧ 1 < c) := by omega
  obtain ⟨X, hX⟩ : ∃ X : Int, (if (¬ i = 0 ∧ c = 0) ∨ (i = 9 ∧ 1 < c) then 2 else 0) = X := ⟨_, rfl⟩
  rw [hX]
  rcases hcase with rfl | ⟨i0, i1, rfl⟩ | ⟨i0, i1, i2⟩ | ⟨rfl, rfl⟩ | ⟨rfl, rfl⟩ | ⟨rfl, i1⟩
  · obtain rfl : X = 0 := by rw [← hX, if_neg (by omega)]
    clear hX
    go_enter Tryz.func107, Tryz.ntmps107
    go_wp2
    go_ret
    exact ⟨rfl, rfl⟩
  · obtain rfl : X = 2 := by rw [← hX, if_pos (by omega)]
    clear hX
    go_enter Tryz.func107, Tryz.ntmps107
    go_wp2
    go_ret
    exact ⟨rfl, rfl⟩
  · obtain rfl : X = 0 := by rw [← hX, if_neg (by omega)]
    clear hX
    have q : (c == 0) = false := by simpa using i2
    go_enter Tryz.func107, Tryz.ntmps107
    go_wp2
    go_ret
    exact ⟨rfl, rfl⟩
  · obtain rfl : X = 2 := by rw [← hX, if_pos (by omega)]
    clear hX
    go_enter Tryz.func107, Tryz.ntmps107
    go_wp2
    go_ret
    exact ⟨rfl, rfl⟩
  · obtain rfl : X = 0 := by rw [← hX, if_neg (by omega)]
    clear hX
    go_enter Tryz.func107, Tryz.ntmps107
    go_wp2
    go_ret
    exact ⟨rfl, rfl⟩
  · obtain rfl : X = 2 := by rw [← hX, if_pos (by omega)]
    clear hX
    have q : (c == 0) = false := by simp; omega
    go_enter Tryz.func107, Tryz.ntmps107
    go_wp2
    go_ret
    exact ⟨rfl, rfl⟩

end Go.Proofs.YtjapdbegfanfiaaGreatDoor
