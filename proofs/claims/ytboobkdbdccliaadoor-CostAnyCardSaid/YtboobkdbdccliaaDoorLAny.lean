/-
  PROVED: any numbers: held to a cost, added, summed, the least of them, whether one may be a weight, their texts, as the document has them. For every two numbers and every row. Conditions: the listed library variables hold what the program's own text lays (the card ties them).
-/
import Derived.Test.YtboobkdbdccliaaDoorKnown
import Derived.Test.YtboobkdbdccliaaDoorLaid
import Derived.Test.YtboobkdbdccliaaDoorCostAlg
import Derived.Test.YtboobkdbdccliaaDoorRows1
import Derived.Test.YtboobkdbdccliaaDoorCards
import Derived.Test.YtboobkdbdccliaaDoorTie
import Derived.SevenTiedAt
import Derived.Lib.SmallJoins
namespace Go.Proofs.YtboobkdbdccliaaDoor
open Go.ChangeShapes Go.WideShapes Go.ChangeAt Go.RowKit
open Go.ChangeMaps (open_string)

set_option maxRecDepth 100000 in
set_option maxHeartbeats 2000000 in
theorem any_walk (a b : Int) (v : Value) (l : List Int) (w : World) (hg : ErrT w) (hp : Pow10 w) (a0 : -9223372036854775808 ≤ a) (a1 : a ≤ 9223372036854775807) (b0 : -9223372036854775808 ≤ b) (b1 : b ≤ 9223372036854775807) (hl : I64s w v l) (hin : In64 l) :
    Calls Tryd.prog 3 #[.int .i64 a, .int .i64 b, v] w fun e w' => e = .returned (.bool true) ∧ Below w.heap.size w w' := by
  have hgl := hg.lt
  have HG := Lib.hid hg
  have HP := Lib.hid hp
  clear hg hp
  obtain ⟨sq, sc, rfl⟩ := hl.shape
  have HL := Lib.hid hl
  clear hl
  by_cases h200 : 200 < (l.length : Int)
  · go_enter Tryd.func3, Tryd.ntmps3
    go_wp2_with fail
    refine (known_any _ HG.out).mono ?_
    rintro e w1 ⟨rfl, hb1⟩
    have HB := Lib.hid hb1
    clear hb1
    go_wp2_with fail
    go_ret
    exact ⟨rfl, HB.out⟩
  · have hsh : (l.length : Int) ≤ 200 := by omega
    clear h200
    go_enter Tryd.func3, Tryd.ntmps3
    go_wp2_with fail
    refine (known_any _ HG.out).mono ?_
    rintro e w1 ⟨rfl, hb1⟩
    have HB := Lib.hid hb1
    clear hb1
    have HL1 := Lib.hid (HL.out.below HB.out)
    obtain ⟨v2, w2, hr2, hv2, hb2⟩ := copy_run w1 _ l HL1.out (by omega) _ rfl
    have HR2 := Lib.hid hr2
    have HV2 := Lib.hid hv2
    have HC : Hid (Below w.heap.size w w2) := Lib.hid (HB.out.trans (hb2.mono HB.out.size))
    clear hr2 hv2 hb2
    go_wp2_with (at_builtin; refine wpList_append_run (by rfl) _ _ 22 rfl _ _ _ rfl rfl HR2.out ?_)
    refine (least_any _ l _ HV2.out hin).mono ?_
    rintro e w' ⟨rfl, rfl⟩
    go_wp2_with fail
    refine (rleast_any _ l _ (HL.out.below HC.out) hin).mono ?_
    rintro e w' ⟨rfl, rfl⟩
    go_wp2_with fail
    refine (held_any _ _ a0 a1).mono ?_
    rintro e w' ⟨rfl, rfl⟩
    go_wp2_with fail
    refine (rheld_any _ _ a0 a1).mono ?_
    rintro e w' ⟨rfl, rfl⟩
    go_wp2_with fail
    refine (add_any _ _ _ a0 a1 b0 b1).mono ?_
    rintro e w' ⟨rfl, rfl⟩
    go_wp2_with fail
    refine (radd_any _ _ _ a0 a1 b0 b1).mono ?_
    rintro e w' ⟨rfl, rfl⟩
    have HL2 := Lib.hid (HL.out.below HC.out)
    obtain ⟨v3, w3, hr3, hv3, hb3⟩ := copy_run w2 _ l HL2.out (by omega) _ rfl
    have HR3 := Lib.hid hr3
    have HV3 := Lib.hid hv3
    have HD : Hid (Below w.heap.size w w3) := Lib.hid (HC.out.trans (hb3.mono HC.out.size))
    clear hr3 hv3 hb3
    go_wp2_with (at_builtin; refine wpList_append_run (by rfl) _ _ 22 rfl _ _ _ rfl rfl HR3.out ?_)
    refine (sum_any _ l _ HV3.out hin).mono ?_
    rintro e w' ⟨rfl, rfl⟩
    go_wp2_with fail
    refine (rsum_any _ l _ (HL.out.below HD.out) hin).mono ?_
    rintro e w' ⟨rfl, rfl⟩
    go_wp2_with fail
    refine (weight_any _ _ a0 a1).mono ?_
    rintro e w' ⟨rfl, rfl⟩
    go_wp2_with fail
    refine (rweight_any _ _ a0 a1).mono ?_
    rintro e w' ⟨rfl, rfl⟩
    go_wp2_with fail
    refine (text_any _ _ a0 a1 (Joins.tab_stays (g := 1) (by kernel_rfl) HP.out HD.out (Nat.le_refl _))).mono ?_
    rintro e w4 ⟨rfl, hb4⟩
    have HE : Hid (Below w.heap.size w w4) := Lib.hid (HD.out.trans (hb4.mono HD.out.size))
    clear hb4
    go_wp2_with fail
    refine (rtext_any _ _ a0 a1).mono ?_
    rintro e w5 ⟨rfl, hb5⟩
    have HF : Hid (Below w.heap.size w w5) := Lib.hid (HE.out.trans (hb5.mono HE.out.size))
    clear hb5
    go_wp2_with fail
    go_ret
    exact ⟨ret_boolT (by simp), HF.out⟩

set_option maxRecDepth 100000 in
theorem costAny_walks : Walks laidAll 3 Tryd.f3 := by
  intro H enc W args ds g
  obtain ⟨ps, hA⟩ := g.reads
  obtain ⟨base, hval⟩ := g.okay
  rw [Tryd.params3] at hA hval
  obtain ⟨v0, vs0, d0, ds0, p0, q0, hargs, rfl, rfl, h0, r0⟩ := trodAll_cons hA
  obtain ⟨v1, vs1, d1, ds1, p1, q1, rfl, rfl, rfl, h1, r1⟩ := trodAll_cons r0
  obtain ⟨v2, vs2, d2, ds2, p2, q2, rfl, rfl, rfl, h2, r2⟩ := trodAll_cons r1
  obtain ⟨rfl, rfl, rfl⟩ := trodAll_nil r2
  obtain rfl : args = #[v0, v1, v2] := Array.toList_inj.1 hargs
  obtain ⟨x0, rfl, rfl, rfl, w0⟩ := open_int Tryd.underlying2 (hval 0 2 v0 rfl rfl) h0
  obtain ⟨x1, rfl, rfl, rfl, w1⟩ := open_int Tryd.underlying2 (hval 1 2 v1 rfl rfl) h1
  obtain ⟨x2, w2, u2⟩ := open_i64s (hval 2 22 v2 rfl rfl) h2
  exact any_walk x0 x1 v2 x2 W (errT_of_laid g.laid) (pow10_of_laid g.laid) (wf64 w0).1 (wf64 w0).2 (wf64 w1).1 (wf64 w1).2 w2 u2

theorem costAny_row : Rows.CostAnySaid :=
  OpenClaim.holds_of_wide 3 Tryd.f3 rfl rfl rfl rfl rfl rfl rfl ⟨rfl, rfl, rfl, rfl, rfl⟩ rfl rfl rfl rfl rfl (by kernel_rfl) Tryd.func3 (by kernel_rfl)
    (of_decide_eq_true (by kernel_rfl)) (by unfold Func.isWrapper; rw [if_neg (of_decide_eq_false (by kernel_rfl))]; exact ⟨rfl, rfl⟩)
    (fun os started H enc _ => law_lifted (s := Rows.costAnySpec) (L := laidAll) Tryd.func3 (by kernel_rfl) rfl (by kernel_rfl)
      (fun H ds hl => by
        rw [Tryd.params3] at hl
        match ds, hl with
        | [_, _, _], _ => exact ⟨rfl, rfl, rfl⟩)
      (by kernel_rfl) os started H enc
      (ChangeSpec.witness_at (enc := enc) (C := Tryd.checked) (os := os) (X := fun w _ => laidMetH Tryd.prog laidAll w) false (laidWorld os) #[.int .i64 0, .int .i64 0, .slice none 0 0] 8 rfl (by kernel_rfl) (by kernel_rfl) (by kernel_rfl) (by kernel_rfl) (by kernel_rfl) (laidWorld_met os _))
      costAny_walks)

theorem costAny_card : Rows.CostAnyCardSaid :=
  Claim7.holds_tied_plain_at .later [] laidKindsAll true (Rows.costAnyCard.stood.harness) true
    costAny_row (fun _ h => by cases h) (by kernel_rfl) (fun _ h => by cases h) costAny_row_tie rfl ⟨rfl, rfl⟩ (by kernel_rfl) rfl
    (fun f fn hf hfn => by
      obtain rfl : f = 3 := Option.some.inj ((show Tryd.prog.funcNamed "roundsman/roundsmanlaw1.CostAny" = some 3 by kernel_rfl).symm.trans hf) |>.symm
      obtain rfl : fn = Tryd.f3 := (Option.some.inj (Tryd.func3.symm.trans hfn)).symm
      exact ⟨by kernel_rfl, fun j t ht => by
        rw [Tryd.params3] at ht
        exact stand_all #[2, 2, 22] (by kernel_rfl) j t ht⟩)
    (by kernel_rfl)
#print axioms costAny_card

end Go.Proofs.YtboobkdbdccliaaDoor
