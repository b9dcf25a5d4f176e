/-
  Costs as texts; the document's own reading of a text.
-/
import Derived.Test.YtboobkdbdccliaaDoorDec
import Derived.Test.YtboobkdbdccliaaDoorRead
import Derived.Test.YtboobkdbdccliaaDoorShelf
import Derived.Lib.AppendIntMem
namespace Go.Proofs.YtboobkdbdccliaaDoor
open Go.RowKit

/-- The table of powers that the library reads. -/
def Pow10 (w : World) : Prop := Lib.TabIs Tryd.prog w "internal/strconv.uint64pow10" .u64 Lib.pow10Tab
/-- How a number is told as a cost. -/
def textC (a : Int) : List UInt8 := if hld a = 1152921504606846976 then [45] else Lib.decDigits (hld a).toNat
theorem textC_inf {a : Int} (h : hld a = 1152921504606846976) : (⟨#[45]⟩ : ByteArray) = ⟨(textC a).toArray⟩ := by unfold textC; rw [if_pos h]
theorem textC_fin {a : Int} (h : ¬ hld a = 1152921504606846976) : textC a = Lib.decDigits (hld a).toNat := by unfold textC; rw [if_neg h]

set_option maxHeartbeats 400000 in
theorem text_any (a : Int) (w : World) (h0 : -9223372036854775808 ≤ a) (h1 : a ≤ 9223372036854775807) (hp : Pow10 w) :
    Calls Tryd.prog 20 #[.int .i64 a] w fun e w' => e = .returned (.string ⟨(textC a).toArray⟩) ∧ Below w.heap.size w w' := by
  have HP := Lib.hid hp
  clear hp
  have l0 := hld_lo a
  have l1 := hld_hi a
  by_cases hx : hld a = 1152921504606846976
  · have HX := Lib.hid hx
    have hx' : (hld a == 1152921504606846976) = true := by simpa using hx
    clear hx
    go_enter Tryd.func20, Tryd.ntmps20
    go_wp2_with (go_at_call 12; refine (held_any _ _ (by omega) (by omega)).mono ?_; rintro e w' ⟨rfl, rfl⟩)
    go_ret
    exact ⟨ret_str (textC_inf HX.out), Below.refl _ _⟩
  · have hx' : (hld a == 1152921504606846976) = false := by simpa using hx
    have HX := Lib.hid (textC_fin hx)
    clear hx
    have HI : Hid (Lib.itoa (hld a) = textC a) := Lib.hid (by rw [HX.out]; unfold Lib.itoa; rw [if_neg (by omega)])
    go_enter Tryd.func20, Tryd.ntmps20
    go_wp2_with (first | (go_at_call 12; refine (held_any _ _ (by omega) (by omega)).mono ?_; rintro e w' ⟨rfl, rfl⟩) | (go_at_call 27; refine (Tryd.strconv_FormatInt_10 _ (by omega) (by omega) _ HP.out).mono ?_; rintro e w' ⟨rfl, k, os, rfl⟩))
    go_ret
    exact ⟨ret_str (by rw [HI.out]), Lib.below_grow _ _ (Nat.le_refl _) _ _⟩

set_option maxHeartbeats 400000 in
theorem text_small (i : Nat) (w : World) (hi : i < 100) :
    Calls Tryd.prog 20 #[.int .i64 (i : Int)] w fun e w' => e = .returned (.string ⟨(Lib.decDigits i).toArray⟩) ∧ w = w' := by
  have hh : hld (i : Int) = (i : Int) := hld_in _ (by omega) (by omega)
  have HH := Lib.hid hh
  clear hh
  have hx' : ((i : Int) == 1152921504606846976) = false := by
    rw [beq_eq_false_iff_ne]; omega
  go_enter Tryd.func20, Tryd.ntmps20
  go_wp2_with (first | (go_at_call 12; refine (held_any _ _ (by omega) (by omega)).mono ?_; rw [HH.out]; rintro e w' ⟨rfl, rfl⟩) | (go_at_call 27; refine (Tryd.strconv_FormatInt_10_small i hi _).mono ?_; rintro e w' ⟨rfl, rfl⟩))
  go_ret
  exact ⟨rfl, rfl⟩

set_option maxHeartbeats 400000 in
theorem text_inf (w : World) :
    Calls Tryd.prog 20 #[.int .i64 1152921504606846976] w fun e w' => e = .returned (.string ⟨#[45]⟩) ∧ w = w' := by
  have hh : hld 1152921504606846976 = 1152921504606846976 := hld_in _ (by omega) (by omega)
  have HH := Lib.hid hh
  clear hh
  go_enter Tryd.func20, Tryd.ntmps20
  go_wp2_with (go_at_call 12; refine (held_any _ _ (by omega) (by omega)).mono ?_; rw [HH.out]; rintro e w' ⟨rfl, rfl⟩)
  go_ret
  exact ⟨rfl, rfl⟩

set_option maxHeartbeats 400000 in
theorem rtext_any (a : Int) (w : World) (h0 : -9223372036854775808 ≤ a) (h1 : a ≤ 9223372036854775807) :
    Calls Tryd.prog 21 #[.int .i64 a] w fun e w' => e = .returned (.string ⟨(textC a).toArray⟩) ∧ Below w.heap.size w w' := by
  have l0 := hld_lo a
  have l1 := hld_hi a
  by_cases hx : hld a = 1152921504606846976
  · have HX := Lib.hid hx
    have hx' : (hld a == 1152921504606846976) = true := by simpa using hx
    clear hx
    go_enter Tryd.func21, Tryd.ntmps21
    go_wp2_with (go_at_call 13; refine (rheld_any _ _ (by omega) (by omega)).mono ?_; rintro e w' ⟨rfl, rfl⟩)
    go_ret
    exact ⟨ret_str (textC_inf HX.out), Below.refl _ _⟩
  · have hx' : (hld a == 1152921504606846976) = false := by simpa using hx
    have HX := Lib.hid (textC_fin hx)
    clear hx
    go_enter Tryd.func21, Tryd.ntmps21
    go_wp2_with (first | (go_at_call 13; refine (rheld_any _ _ (by omega) (by omega)).mono ?_; rintro e w' ⟨rfl, rfl⟩) | (go_at_call 26; refine (decimal_any _ _ (by omega) (by omega)).mono ?_; rintro e w' ⟨rfl, hb⟩))
    go_ret
    exact ⟨ret_str (by rw [HX.out]), by assumption⟩

end Go.Proofs.YtboobkdbdccliaaDoor
