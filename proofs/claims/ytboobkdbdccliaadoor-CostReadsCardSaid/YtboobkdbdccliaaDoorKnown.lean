/-
  The law's own sample of known answers.
-/
import Derived.Test.YtboobkdbdccliaaDoorTextB
import Derived.Test.YtboobkdbdccliaaDoorRRead
import Derived.Test.YtboobkdbdccliaaDoorTells
namespace Go.Proofs.YtboobkdbdccliaaDoor
open Go.RowKit

theorem read_120 (w : World) : Calls Tryd.prog 22 #[.string ⟨#[49, 50, 48]⟩] w fun e w' => e = .returned (.tuple #[.int .i64 120, .nilIface]) ∧ w = w' :=
  (read_num ⟨#[49, 50, 48]⟩ w (by decide) (by rw [ByteArray.toList_eq]; decide) (by decide)).mono fun e w' h => by
    have hv : (decV (⟨#[49, 50, 48]⟩ : ByteArray).data.toList : Int) = 120 := by decide
    rw [hv] at h
    rcases h with ⟨_, h1, h2⟩ | ⟨h0, _⟩
    · exact ⟨h1, h2⟩
    · omega
theorem read_01 (w : World) : Calls Tryd.prog 22 #[.string ⟨#[48, 49]⟩] w fun e w' => e = .returned (.tuple #[.int .i64 0, .iface 57 (.pointer (some ⟨w.heap.size, 0, none⟩))]) ∧ w' = w.alloc (.cells #[.string costB, .int .i64 0, .iface 52 (.int .i64 2)] 61) :=
  read_form ⟨#[48, 49]⟩ w (by decide) (by rw [ByteArray.toList_eq]; decide) (by decide)
theorem read_d (w : World) : Calls Tryd.prog 22 #[.string ⟨#[45]⟩] w fun e w' => e = .returned (.tuple #[.int .i64 1152921504606846976, .nilIface]) ∧ w = w' :=
  read_dash ⟨#[45]⟩ w (by rw [ByteArray.toList_eq])

/-- A row of three numbers that was just laid. -/
theorem three_row (w : World) (g : Nat) (hg : w.heap.size = g) (a b c : Int) : I64s (w.alloc (.cells #[.int .i64 a, .int .i64 b, .int .i64 c] 2)) (.slice (some ⟨g, 0, none⟩) 3 3) [a, b, c] := by
  subst hg
  refine Or.inr ⟨by simp, w.heap.size, 0, 3, by simp, by omega, rfl, fun i h => ?_⟩
  simp only [List.length_cons, List.length_nil] at h
  rw [World.cell?_alloc_at _ _ _ _ rfl]
  match i, h with
  | 0, _ => rfl
  | 1, _ => rfl
  | 2, _ => rfl
theorem least_533 (w : World) (g : Nat) (hg : w.heap.size = g) : Calls Tryd.prog 10 #[.slice (some ⟨g, 0, none⟩) 3 3] (w.alloc (.cells #[.int .i64 5, .int .i64 3, .int .i64 3] 2)) fun e w' => e = .returned (.tuple #[.int .i64 1, .int .i64 3]) ∧ w.alloc (.cells #[.int .i64 5, .int .i64 3, .int .i64 3] 2) = w' :=
  (least_any _ [5, 3, 3] _ (three_row w g hg 5 3 3) (by intro x hx; simp at hx; omega)).mono fun e w' ⟨h, h'⟩ => ⟨by rw [h]; rfl, h'⟩
theorem sum_123 (w : World) (g : Nat) (hg : w.heap.size = g) : Calls Tryd.prog 16 #[.slice (some ⟨g, 0, none⟩) 3 3] (w.alloc (.cells #[.int .i64 1, .int .i64 2, .int .i64 3] 2)) fun e w' => e = .returned (.int .i64 6) ∧ w.alloc (.cells #[.int .i64 1, .int .i64 2, .int .i64 3] 2) = w' :=
  (sum_any _ [1, 2, 3] _ (three_row w g hg 1 2 3) (by intro x hx; simp at hx; omega)).mono fun e w' ⟨h, h'⟩ => ⟨by rw [h]; rfl, h'⟩
theorem add_inf7 (w : World) : Calls Tryd.prog 14 #[.int .i64 1152921504606846976, .int .i64 7] w fun e w' => e = .returned (.int .i64 1152921504606846976) ∧ w = w' :=
  (add_any 1152921504606846976 7 w (by decide) (by decide) (by decide) (by decide)).mono fun e w' ⟨h, h'⟩ => ⟨by rw [h]; rfl, h'⟩
theorem add_m57 (w : World) : Calls Tryd.prog 14 #[.int .i64 (-5), .int .i64 7] w fun e w' => e = .returned (.int .i64 7) ∧ w = w' :=
  (add_any (-5) 7 w (by decide) (by decide) (by decide) (by decide)).mono fun e w' ⟨h, h'⟩ => ⟨by rw [h]; rfl, h'⟩
theorem weight_yes (w : World) : Calls Tryd.prog 18 #[.int .i64 2147483648] w fun e w' => e = .returned (.bool true) ∧ w = w' :=
  (weight_any 2147483648 w (by decide) (by decide)).mono fun e w' ⟨h, h'⟩ => ⟨by rw [h]; rfl, h'⟩
theorem weight_no (w : World) : Calls Tryd.prog 18 #[.int .i64 2147483649] w fun e w' => e = .returned (.bool false) ∧ w = w' :=
  (weight_any 2147483649 w (by decide) (by decide)).mono fun e w' ⟨h, h'⟩ => ⟨by rw [h]; rfl, h'⟩
theorem text_90 (w : World) : Calls Tryd.prog 20 #[.int .i64 90] w fun e w' => e = .returned (.string ⟨#[57, 48]⟩) ∧ w = w' :=
  (text_small 90 w (by decide)).mono fun e w' ⟨h, h'⟩ => ⟨by rw [h]; simp [Lib.decDigits], h'⟩
/-- Tells, at a Fault and a Wrong that were just laid. -/
theorem tells_laid (w : World) (g b : Nat) (p : ByteArray) (n a : Int) (hgs : w.heap.size + 1 = g) (hg : ErrT w) (c0 : w.cell? ⟨b, 0, none⟩ = some (.string p)) (c1 : w.cell? ⟨b, 1, none⟩ = some (.int .i64 n)) (c2 : w.cell? ⟨b, 2, none⟩ = some (.iface 52 (.int .i64 a))) (ha : ¬ a = 0) :
    Calls Tryd.prog 24 #[.iface 57 (.pointer (some ⟨b, 0, none⟩)), .agg #[.slice (some ⟨g, 0, none⟩) 1 1, .int .i64 a]] ((w.alloc (.cells #[.slice (some ⟨g, 0, none⟩) 1 1, .int .i64 a] 40)).alloc (.cells #[.string p, .int .i64 n] 63)) fun e w' => e = .returned (.bool true) ∧ Below w.heap.size w w' := by
  subst hgs
  have hb := atWorld_below p n a w
  have hE : ErrV w (.iface 57 (.pointer (some ⟨b, 0, none⟩))) [(p, n)] a := ⟨b, _, rfl, c0, c1, c2, rfl⟩
  exact (tells_any _ _ [(p, n)] a (atWorld p n a w) (hg.below hg.lt hb) (hE.below hb) (atWorld_wrong p n a w) (by simp) (by simp) ha).mono fun e w' ⟨h, h'⟩ => ⟨h, hb.trans (h'.mono (by rw [atWorld_size]; omega))⟩

set_option maxRecDepth 100000 in
set_option maxHeartbeats 1000000 in
theorem known_any (w : World) (hg : ErrT w) :
    Calls Tryd.prog 9 #[] w fun e w' => e = .returned (.bool true) ∧ Below w.heap.size w w' := by
  have hgl := hg.lt
  have HG := Lib.hid hg
  clear hg
  go_enter Tryd.func9, Tryd.ntmps9
  go_wp2_with fail
  refine (read_120 _).mono ?_
  rintro e w' ⟨rfl, rfl⟩
  go_wp2_with fail
  refine (read_01 _).mono ?_
  rintro e w' ⟨rfl, rfl⟩
  go_wp2_with fail
  refine (read_d _).mono ?_
  rintro e w' ⟨rfl, rfl⟩
  go_wp2_with fail
  refine (least_533 (w.alloc (.cells #[.string costB, .int .i64 0, .iface 52 (.int .i64 2)] 61)) (w.heap.size + 1) (by simp)).mono ?_
  rintro e w' ⟨rfl, rfl⟩
  go_wp2_with fail
  refine (at_any costB _ _ _).mono ?_
  rintro e w' ⟨rfl, rfl⟩
  go_wp2_with fail
  refine (tells_laid ((w.alloc (.cells #[.string costB, .int .i64 0, .iface 52 (.int .i64 2)] 61)).alloc (.cells #[.int .i64 5, .int .i64 3, .int .i64 3] 2)) (w.heap.size + 1 + 1 + 1) w.heap.size costB 0 2 (by simp) ?_ (by simp) (by simp) (by simp) (by decide)).mono ?_
  · exact HG.out.below hgl (((Below.refl _ _).alloc (Nat.le_refl _) _).alloc (by simp) _)
  rintro e w1 ⟨rfl, hb1⟩
  have HB := Lib.hid hb1
  clear hb1
  go_wp2_with fail
  refine (add_inf7 _).mono ?_
  rintro e w' ⟨rfl, rfl⟩
  go_wp2_with fail
  refine (add_m57 _).mono ?_
  rintro e w' ⟨rfl, rfl⟩
  go_wp2_with fail
  refine (sum_123 _ w1.heap.size rfl).mono ?_
  rintro e w' ⟨rfl, rfl⟩
  go_wp2_with fail
  refine (text_90 _).mono ?_
  rintro e w' ⟨rfl, rfl⟩
  go_wp2_with fail
  refine (text_inf _).mono ?_
  rintro e w' ⟨rfl, rfl⟩
  go_wp2_with fail
  refine (weight_yes _).mono ?_
  rintro e w' ⟨rfl, rfl⟩
  go_wp2_with fail
  refine (weight_no _).mono ?_
  rintro e w' ⟨rfl, rfl⟩
  go_wp2_with fail
  go_ret
  have hf : Below w.heap.size w w1 := (((Below.refl _ _).alloc (Nat.le_refl _) _).alloc (by simp) _).trans (HB.out.mono (by simp; omega))
  exact ⟨rfl, hf.alloc hf.size _⟩

end Go.Proofs.YtboobkdbdccliaaDoor
