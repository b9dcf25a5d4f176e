/-
  Is it a flow, and of what value: the program's value.
-/
import Derived.Test.YtleheaffipokfaaDoorFlU
namespace Go.Proofs.YtleheaffipokfaaDoor
open Go.RowKit

/-- What value answers. -/
def ValPost (w : World) (N : Nat) (E : Edg) (A B : VSet) (f : List Int) (e : Ending) (w' : World) : Prop :=
  ∃ V b, e = .returned (.tuple #[.int .i64 V, .bool b]) ∧ (b = true ↔ IsFlow N E A B f) ∧ (b = true → V = valF N E A f) ∧ Below w.heap.size w w'
def ValRel (w : World) (N : Nat) (E : Edg) (A B : VSet) (f : List Int) (sv iv : Value) (wr : World) : Prop :=
  ∃ k : Nat, k ≤ N ∧ iv = .int .i64 k ∧ sv = .int .i64 (sumTo E f A k) ∧ evenTo E f A B k ∧ wr = w
theorem sumTo_succ (E : Edg) (f : List Int) (A : VSet) (k : Nat) : sumTo E f A (k + 1) = sumTo E f A k + (if A k = true then netF E f k else 0) := rfl
section
variable {P : Nat → Prop} {w : World} {p N : Nat} {E : Edg} {A B : List Bool} {f : List Int} {ev sv dv fv : Value} {ab : Nat} {us : List Value}
set_option maxHeartbeats 4000000 in
set_option maxRecDepth 100000 in
theorem value_is (h : WebS P w p N E A B ev sv dv fv ab us) (hf : I64s w fv f) (hfl : f.length = E.length) :
    Calls Tryd.prog 15 #[pt p] w (ValPost w N E (setB A) (setB B) f) := by
  have hnn := h.nn
  have hen := h.en
  have HW := Lib.hid h
  have HF := Lib.hid hf
  have HFL := Lib.hid hfl
  clear h hf hfl
  go_enter Tryd.func15, Tryd.ntmps15
  go_wp2_with fail
  refine (balance_is HW.out HF.out HFL.out).mono ?_
  rintro e w1 (⟨hok, nb, rfl, hk, hb⟩ | ⟨hok, rfl, hb⟩)
  case inr =>
    have HP : Hid (ValPost w N E (setB A) (setB B) f (.returned (.tuple #[.int .i64 0, .bool false])) w1) := Lib.hid ⟨0, false, rfl, by simp only [Bool.false_eq_true, false_iff]; exact fun h => hok ((isFlow_iff HFL.out).1 h).1, by simp, hb⟩
    clear hok hb
    go_wp2_with fail
    go_ret2
    exact HP.out
  have HB := Lib.hid hb
  have HOK := Lib.hid hok
  have HK := Lib.hid hk
  obtain ⟨sq, sc, rfl⟩ := HW.out.s.shape
  obtain ⟨dq, dc, rfl⟩ := HW.out.d.shape
  clear hok hb hk
  go_wp2_with fail
  go_loopw [6, 7, 8, 18] (fun sv _ _ iv wr => ValRel w1 N E (setB A) (setB B) f sv iv wr) (fun _ _ _ iv _ => N - (intOf iv).toNat)
  case atStart => exact ⟨0, Nat.zero_le _, rfl, rfl, fun v hv => by omega, rfl⟩
  case round =>
    obtain ⟨k, hk, rfl, rfl, hev, rfl⟩ := hrel
    obtain ⟨y0, y1, y2, y3, y4, -, -, -, -, -⟩ := (HW.out.old HB.out).k.o5
    have hpl := (HW.out.old HB.out).k.lt
    have HE := Lib.hid hev
    clear hev
    by_cases hlt : k < N
    · have hki : (k : Int) < (N : Int) := by omega
      have hkA : (k : Int) < (A.length : Int) := by rw [HW.out.al]; exact hki
      have hkB : (k : Int) < (B.length : Int) := by rw [HW.out.bl]; exact hki
      have nc := HK.out.cell k (numI_at (l := netRow N E f E.length) (by rw [netRow_len]; exact hlt))
      rw [netRow_at, netTo_all] at nc
      have hnl := HK.out.lt
      obtain ⟨sb, so, rfl, sc1⟩ := (HW.out.s.below HB.out).at (k := k) (by rw [HW.out.al]; exact hlt)
      obtain ⟨db, do_, rfl, dc1⟩ := (HW.out.d.below HB.out).at (k := k) (by rw [HW.out.bl]; exact hlt)
      have hsl := World.block_lt_of_cell? wr _ sc1
      have hdl := World.block_lt_of_cell? wr _ dc1
      rw [← setB_at] at sc1 dc1
      have hbd := netTo_bd HOK.out k
      rw [netTo_all] at hbd
      have hsb := sumTo_bd (A := setB A) HOK.out hen k
      have hss := sumTo_succ E f (setB A) k
      have hwr : IntKind.i64.wrap (sumTo E f (setB A) k + netF E f k) = sumTo E f (setB A) k + netF E f k := IntWalk.i64_in _ (by omega)
      have HEN := fun (hh : setB A k = false → setB B k = false → netF E f k = 0) => (show evenTo E f (setB A) (setB B) (k + 1) from fun v hv => by
        by_cases hvk : v < k
        · exact HE.out v hvk
        · obtain rfl : v = k := by omega
          exact hh)
      cases hA : setB A k with
      | true =>
        rw [hA] at sc1 hss
        rw [if_pos rfl] at hss
        have HR1 : Hid (ValRel wr N E (setB A) (setB B) f (.int .i64 (sumTo E f (setB A) k + netF E f k)) (.int .i64 ((k + 1 : Nat) : Int)) wr) := Lib.hid ⟨k + 1, hlt, rfl, by rw [hss], HEN (fun h => by rw [hA] at h; cases h), rfl⟩
        clear HEN hss dc1 hdl hA
        go_wp2_with fail
        go_roundw
        case rel => exact HR1.out
        case measure => simp [intOf]; omega
      | false =>
        rw [hA] at sc1 hss
        rw [if_neg (by simp)] at hss
        cases hB : setB B k with
        | true =>
          rw [hB] at dc1
          have HR1 : Hid (ValRel wr N E (setB A) (setB B) f (.int .i64 (sumTo E f (setB A) k)) (.int .i64 ((k + 1 : Nat) : Int)) wr) := Lib.hid ⟨k + 1, hlt, rfl, by rw [hss, Int.add_zero], HEN (fun _ h => by rw [hB] at h; cases h), rfl⟩
          clear HEN hss hA hB
          go_wp2_with fail
          go_roundw
          case rel => exact HR1.out
          case measure => simp [intOf]; omega
        | false =>
          rw [hB] at dc1
          by_cases hn : netF E f k = 0
          · have HR1 : Hid (ValRel wr N E (setB A) (setB B) f (.int .i64 (sumTo E f (setB A) k)) (.int .i64 ((k + 1 : Nat) : Int)) wr) := Lib.hid ⟨k + 1, hlt, rfl, by rw [hss, Int.add_zero], HEN (fun _ _ => hn), rfl⟩
            have hnb : (netF E f k != 0) = false := by simpa using hn
            clear HEN hss hA hB hn
            go_wp2_with fail
            go_roundw
            case rel => exact HR1.out
            case measure => simp [intOf]; omega
          · have HP : Hid (ValPost w N E (setB A) (setB B) f (.returned (.tuple #[.int .i64 0, .bool false])) wr) := Lib.hid ⟨0, false, rfl, by simp only [Bool.false_eq_true, false_iff]; exact fun h => hn (h.even k hlt hA hB), by simp, HB.out⟩
            have hnb : (netF E f k != 0) = true := by simpa using hn
            clear HEN hss hA hB hn
            go_wp2_with fail
            go_ret2
            exact HP.out
    · obtain rfl : k = N := by omega
      have HP : Hid (ValPost w k E (setB A) (setB B) f (.returned (.tuple #[.int .i64 (sumTo E f (setB A) k), .bool true])) wr) := Lib.hid ⟨_, true, rfl, by simp only [true_iff]; exact (isFlow_iff HFL.out).2 ⟨HOK.out, HE.out⟩, fun _ => rfl, HB.out⟩
      go_wp2_with fail
      go_ret2
      exact HP.out
end
end Go.Proofs.YtleheaffipokfaaDoor
