/-
  The document's own decimal digits.
-/
import Derived.Test.YtboobkdbdccliaaDoorCostB
import Derived.Lib.ItoaNum
import Derived.Lib.ItoaLen
import Derived.Lib.SmallJoins
namespace Go.Proofs.YtboobkdbdccliaaDoor
open Go.RowKit

/-- What is still to be told, and what is told already, together are the whole number's digits. -/
def DecLeft (n m : Int) (t : ByteArray) : Prop := Lib.decDigits n.toNat = Lib.decDigits m.toNat ++ t.data.toList
/-- The digit x as a byte. -/
def digB (x : Int) : UInt8 := UInt8.ofNat x.toNat

/-- A text of one byte out of a slice that was just laid. -/
theorem one_byte (w : World) (x : Int) (h0 : 0 ≤ x) (h1 : x ≤ 255) :
    (convert 65 9 (.slice (some ⟨w.heap.size, 0, none⟩) 1 1)).run Tryd.prog (w.alloc (.cells #[.int .u8 x] 5)) = .ok (.string ⟨#[digB x]⟩) (w.alloc (.cells #[.int .u8 x] 5)) := by
  have := run_convert_bytes_back (P := Tryd.prog) (w.alloc (.cells #[.int .u8 x] 5)) 65 9 5 ⟨w.heap.size, 0, none⟩ 1 [digB x] Tryd.underlying65 Tryd.underlying5 Tryd.underlying9 (fun j hj => by
    obtain rfl : j = 0 := by simpa using hj
    have e : ((digB x).toNat : Int) = x := by
      unfold digB
      simp only [UInt8.toNat_ofNat']
      omega
    simp [Addr.add, e])
  simpa using this

theorem decLeft_size {n m : Int} {t : ByteArray} (h : DecLeft n m t) (h0 : 0 ≤ n) (h1 : n ≤ 9223372036854775807) : t.size ≤ 21 := by
  have h2 := Lib.itoa_length_le n (by omega) h1
  unfold Lib.itoa at h2
  rw [if_neg (by omega)] at h2
  unfold DecLeft at h
  rw [h, List.length_append] at h2
  have : t.data.toList.length = t.size := by simp
  omega
theorem digB_eq (x : Nat) : digB (48 + (x : Int)) = UInt8.ofNat (48 + x) := by
  unfold digB; congr 1
theorem decLeft_step {n m : Int} {t : ByteArray} (h : DecLeft n m t) (hm : 10 ≤ m) : DecLeft n (m / 10) (⟨#[digB (48 + m % 10)]⟩ ++ t) := by
  obtain ⟨k, rfl⟩ : ∃ k : Nat, m = k := ⟨m.toNat, by omega⟩
  unfold DecLeft at *
  rw [h, show (((k : Int) / 10).toNat) = k / 10 by omega, Int.toNat_natCast, Lib.decDigits, dif_neg (by omega)]
  have e : (⟨#[digB (48 + (k : Int) % 10)]⟩ ++ t : ByteArray).data.toList = digB (48 + (k : Int) % 10) :: t.data.toList := by
    rw [Joins.data_append]; rfl
  rw [e, show ((k : Int) % 10) = ((k % 10 : Nat) : Int) by omega, digB_eq]
  simp
theorem decLeft_end {n m : Int} {t : ByteArray} (h : DecLeft n m t) (h0 : 0 ≤ m) (hm : m ≤ 9) : (⟨#[digB (48 + m)]⟩ ++ t : ByteArray) = ⟨(Lib.decDigits n.toNat).toArray⟩ := by
  obtain ⟨k, rfl⟩ : ∃ k : Nat, m = k := ⟨m.toNat, by omega⟩
  unfold DecLeft at h
  rw [h, Int.toNat_natCast, Lib.decDigits, dif_pos (by omega)]
  have e : (⟨#[digB (48 + (k : Int))]⟩ ++ t : ByteArray).data.toList = digB (48 + (k : Int)) :: t.data.toList := by
    rw [Joins.data_append]; rfl
  apply ByteArray.ext
  apply Array.toList_inj.1
  rw [e, digB_eq]
  simp

set_option maxRecDepth 100000 in
set_option maxHeartbeats 1000000 in
theorem decimal_any (n : Int) (w : World) (h0 : 0 ≤ n) (h1 : n ≤ 9223372036854775807) :
    Calls Tryd.prog 26 #[.int .i64 n] w fun e w' => e = .returned (.string ⟨(Lib.decDigits n.toNat).toArray⟩) ∧ Below w.heap.size w w' := by
  go_enter Tryd.func26, Tryd.ntmps26
  go_wp2
  go_loopw [0, 3] (fun m s wr => ∃ (M : Int) (t : ByteArray), 0 ≤ M ∧ M ≤ n ∧ m = .int .i64 M ∧ s = .string t ∧ DecLeft n M t ∧ Below w.heap.size w wr) (fun m _ _ => (intOf m).toNat)
  case atStart => exact ⟨n, _, h0, Int.le_refl _, rfl, rfl, (by unfold DecLeft; simp), Below.refl _ _⟩
  case round =>
    obtain ⟨M, t, m0, m1, rfl, rfl, hd, hb⟩ := hrel
    have HB := Lib.hid hb
    have ht := decLeft_size hd h0 h1
    have HD := Lib.hid hd
    clear hb hd
    by_cases hm : 10 ≤ M
    · have hcv := one_byte wr (48 + M % 10) (by omega) (by omega)
      go_wp2
      go_roundw
      case rel => exact ⟨M / 10, _, by omega, by omega, rfl, rfl, decLeft_step HD.out hm, HB.out.alloc HB.out.size _⟩
      case measure => simp [intOf]; omega
    · have hcv := one_byte wr (48 + M) (by omega) (by omega)
      have hm' : M ≤ 9 := by omega
      clear hm
      go_wp2
      go_ret
      exact ⟨ret_str (decLeft_end HD.out m0 hm'), HB.out.alloc HB.out.size _⟩

end Go.Proofs.YtboobkdbdccliaaDoor
