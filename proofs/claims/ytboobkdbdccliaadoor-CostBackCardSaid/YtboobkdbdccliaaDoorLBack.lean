/-
  PROVED: what is told of any number is read as that, held to a cost; with a nought ahead, or a blank behind, it is none. For every number. Conditions: the listed library variables hold what the program's own text lays (the card ties them).
-/
import Derived.Test.YtboobkdbdccliaaDoorKnown
import Derived.Test.YtboobkdbdccliaaDoorLaid
import Derived.Test.YtboobkdbdccliaaDoorDecM
import Derived.Test.YtboobkdbdccliaaDoorCards
import Derived.Test.YtboobkdbdccliaaDoorTie
import Derived.SevenTiedAt
import Derived.Lib.SmallJoins
namespace Go.Proofs.YtboobkdbdccliaaDoor
open Go.ChangeShapes Go.WideShapes Go.ChangeAt Go.RowKit
open Go.ChangeMaps (open_string)

/-- A number's text, as bytes. -/
def txt (a : Int) : ByteArray := ⟨(textC a).toArray⟩
theorem txt_list (a : Int) : (txt a).data.toList = textC a := by simp [txt]
theorem textC_ne (a : Int) : textC a ≠ [] := by
  by_cases h : hld a = 1152921504606846976
  · unfold textC; rw [if_pos h]; simp
  · rw [textC_fin h]; exact (decDigits_props _).1
theorem txt_size (a : Int) : (txt a).size ≤ 21 := by
  rw [← sizeL, txt_list]
  by_cases h : hld a = 1152921504606846976
  · unfold textC; rw [if_pos h]; simp
  · rw [textC_fin h]
    have h0 := hld_lo a
    have h1 := hld_hi a
    have h2 := Lib.itoa_length_le (hld a) (by omega) (by omega)
    unfold Lib.itoa at h2
    rwa [if_neg (by omega)] at h2

theorem read_txt (a : Int) (w : World) : Calls Tryd.prog 22 #[.string (txt a)] w fun e w' => e = .returned (.tuple #[.int .i64 (hld a), .nilIface]) ∧ w = w' := by
  have hsz := txt_size a
  by_cases h : hld a = 1152921504606846976
  · have e : (txt a).toList = [45] := by rw [ByteArray.toList_eq, txt_list]; unfold textC; rw [if_pos h]
    rw [h]
    exact read_dash _ w e
  · have h0 := hld_lo a
    have h1 := hld_hi a
    obtain ⟨p1, p2, p3, p4, p5⟩ := decDigits_props (hld a).toNat
    have e : ¬ (txt a).toList = [45] := by
      rw [ByteArray.toList_eq, txt_list, textC_fin h]
      intro e
      rw [e] at p2
      exact absurd p2 (by decide)
    have n : numB (txt a).data.toList = true := by rw [txt_list, textC_fin h]; exact decDigits_numB _
    have d : (decV (txt a).data.toList : Int) = hld a := by rw [txt_list, textC_fin h, p3]; omega
    refine (read_num _ w (by omega) e n).mono fun ev w' hh => ?_
    rw [d] at hh
    rcases hh with ⟨_, a1, a2⟩ | ⟨a0, _⟩
    · exact ⟨a1, a2⟩
    · exfalso; omega

theorem text_txt (a : Int) (w : World) (h0 : -9223372036854775808 ≤ a) (h1 : a ≤ 9223372036854775807) (hp : Pow10 w) :
    Calls Tryd.prog 20 #[.int .i64 a] w fun e w' => e = .returned (.string (txt a)) ∧ Below w.heap.size w w' := text_any a w h0 h1 hp
theorem app_list (x y : ByteArray) : (x ++ y).data.toList = x.data.toList ++ y.data.toList := Joins.data_append x y
theorem app_size (x y : ByteArray) : (x ++ y).size = x.size + y.size := by
  rw [← sizeL, app_list, List.length_append, sizeL, sizeL]
theorem read_zero (t : ByteArray) (w : World) (hs : t.size ≤ 21) (hn : t.data.toList ≠ []) :
    Calls Tryd.prog 22 #[.string ((⟨#[48]⟩ : ByteArray) ++ t)] w fun e w' => e = .returned (.tuple #[.int .i64 0, .iface 57 (.pointer (some ⟨w.heap.size, 0, none⟩))]) ∧ w' = w.alloc (.cells #[.string costB, .int .i64 0, .iface 52 (.int .i64 2)] 61) := by
  refine read_form _ w ?_ ?_ ?_
  · rw [app_size]; show 1 + t.size ≤ _; omega
  · rw [ByteArray.toList_eq, app_list]
    intro e
    exact absurd (List.cons.inj e).1 (by decide)
  · rw [app_list]
    show numB (48 :: t.data.toList) = false
    unfold numB
    cases hx : t.data.toList with
    | nil => exact absurd hx hn
    | cons c r => simp
theorem read_blank (t : ByteArray) (w : World) (hs : t.size ≤ 21) :
    Calls Tryd.prog 22 #[.string (t ++ (⟨#[32]⟩ : ByteArray))] w fun e w' => e = .returned (.tuple #[.int .i64 0, .iface 57 (.pointer (some ⟨w.heap.size, 0, none⟩))]) ∧ w' = w.alloc (.cells #[.string costB, .int .i64 0, .iface 52 (.int .i64 2)] 61) := by
  refine read_form _ w ?_ ?_ ?_
  · rw [app_size]; show t.size + 1 ≤ _; omega
  · rw [ByteArray.toList_eq, app_list]
    intro e
    have := congrArg List.reverse e
    simp at this
  · rw [app_list]
    unfold numB
    rw [List.all_append]
    simp [isDig]

set_option maxRecDepth 100000 in
set_option maxHeartbeats 2000000 in
theorem back_walk (a : Int) (w : World) (hg : ErrT w) (hp : Pow10 w) (a0 : -9223372036854775808 ≤ a) (a1 : a ≤ 9223372036854775807) :
    Calls Tryd.prog 6 #[.int .i64 a] w fun e w' => e = .returned (.bool true) ∧ Below w.heap.size w w' := by
  have hgl := hg.lt
  have HG := Lib.hid hg
  have HP := Lib.hid hp
  clear hg hp
  have hsz := txt_size a
  have HL := Lib.hid (show (txt a).data.toList ≠ [] by rw [txt_list]; exact textC_ne a)
  go_enter Tryd.func6, Tryd.ntmps6
  go_wp2_with fail
  refine (known_any _ HG.out).mono ?_
  rintro e w1 ⟨rfl, hb1⟩
  have HB := Lib.hid hb1
  clear hb1
  go_wp2_with fail
  refine (text_txt _ _ a0 a1 (Joins.tab_stays (g := 1) (by kernel_rfl) HP.out HB.out (Nat.le_refl _))).mono ?_
  rintro e w2 ⟨rfl, hb2⟩
  have HC : Hid (Below w.heap.size w w2) := Lib.hid (HB.out.trans (hb2.mono HB.out.size))
  clear hb2
  generalize hT : txt a = T at *
  have HT := Lib.hid hT
  clear hT
  go_wp2_with fail
  refine (show Calls Tryd.prog 22 #[.string T] w2 _ from by rw [← HT.out]; exact read_txt a w2).mono ?_
  rintro e w' ⟨rfl, rfl⟩
  go_wp2_with fail
  refine (read_zero T _ hsz HL.out).mono ?_
  rintro e w' ⟨rfl, rfl⟩
  go_wp2_with fail
  refine (read_blank T _ hsz).mono ?_
  rintro e w' ⟨rfl, rfl⟩
  go_wp2_with fail
  refine (held_any _ _ a0 a1).mono ?_
  rintro e w' ⟨rfl, rfl⟩
  go_wp2_with fail
  refine (at_any costB _ _ _).mono ?_
  rintro e w' ⟨rfl, rfl⟩
  go_wp2_with fail
  refine (tells_laid ((w2.alloc (.cells #[.string costB, .int .i64 0, .iface 52 (.int .i64 2)] 61)).alloc (.cells #[.string costB, .int .i64 0, .iface 52 (.int .i64 2)] 61)) (w2.heap.size + 1 + 1 + 1) w2.heap.size costB 0 2 (by simp) (HG.out.below hgl ((HC.out.alloc HC.out.size _).alloc (by have := HC.out.size; simp; omega) _)) (by simp) (by simp) (by simp) (by decide)).mono ?_
  rintro e w3 ⟨rfl, hb3⟩
  have HD : Hid (Below w.heap.size w w3) := Lib.hid (((HC.out.alloc HC.out.size _).alloc (by have := HC.out.size; simp; omega) _).trans (hb3.mono (by have := HC.out.size; simp; omega)))
  have n0 : w3.cell? ⟨w2.heap.size + 1, 0, none⟩ = some (.string costB) := (hb3.cell (by simp)).trans (by simp)
  have n1 : w3.cell? ⟨w2.heap.size + 1, 1, none⟩ = some (.int .i64 0) := (hb3.cell (by simp)).trans (by simp)
  have n2 : w3.cell? ⟨w2.heap.size + 1, 2, none⟩ = some (.iface 52 (.int .i64 2)) := (hb3.cell (by simp)).trans (by simp)
  clear hb3
  go_wp2_with fail
  refine (at_any costB _ _ _).mono ?_
  rintro e w' ⟨rfl, rfl⟩
  go_wp2_with fail
  refine (tells_laid w3 (w3.heap.size + 1) (w2.heap.size + 1) costB 0 2 rfl (HG.out.below hgl HD.out) n0 n1 n2 (by decide)).mono ?_
  rintro e w4 ⟨rfl, hb4⟩
  have HE : Hid (Below w.heap.size w w4) := Lib.hid (HD.out.trans (hb4.mono HD.out.size))
  clear hb4
  go_wp2_with fail
  go_ret
  exact ⟨ret_boolT (by simp), HE.out⟩

set_option maxRecDepth 100000 in
theorem costBack_walks : Walks laidAll 6 Tryd.f6 := by
  intro H enc W args ds g
  obtain ⟨ps, hA⟩ := g.reads
  obtain ⟨base, hval⟩ := g.okay
  rw [Tryd.params6] at hA hval
  obtain ⟨v0, vs0, d0, ds0, p0, q0, hargs, rfl, rfl, h0, r0⟩ := trodAll_cons hA
  obtain ⟨rfl, rfl, rfl⟩ := trodAll_nil r0
  obtain rfl : args = #[v0] := Array.toList_inj.1 hargs
  obtain ⟨x0, rfl, rfl, rfl, w0⟩ := open_int Tryd.underlying2 (hval 0 2 v0 rfl rfl) h0
  exact back_walk x0 W (errT_of_laid g.laid) (pow10_of_laid g.laid) (wf64 w0).1 (wf64 w0).2

theorem costBack_row : Rows.CostBackSaid :=
  OpenClaim.holds_of_wide 6 Tryd.f6 rfl rfl rfl rfl rfl rfl rfl ⟨rfl, rfl, rfl, rfl, rfl⟩ rfl rfl rfl rfl rfl (by kernel_rfl) Tryd.func6 (by kernel_rfl)
    (of_decide_eq_true (by kernel_rfl)) (by unfold Func.isWrapper; rw [if_neg (of_decide_eq_false (by kernel_rfl))]; exact ⟨rfl, rfl⟩)
    (fun os started H enc _ => law_lifted (s := Rows.costBackSpec) (L := laidAll) Tryd.func6 (by kernel_rfl) rfl (by kernel_rfl)
      (fun H ds hl => by
        rw [Tryd.params6] at hl
        match ds, hl with
        | [_], _ => exact ⟨rfl, rfl, rfl⟩)
      (by kernel_rfl) os started H enc
      (ChangeSpec.witness_at (enc := enc) (C := Tryd.checked) (os := os) (X := fun w _ => laidMetH Tryd.prog laidAll w) false (laidWorld os) #[.int .i64 0] 8 rfl (by kernel_rfl) (by kernel_rfl) (by kernel_rfl) (by kernel_rfl) (by kernel_rfl) (laidWorld_met os _))
      costBack_walks)

theorem costBack_card : Rows.CostBackCardSaid :=
  Claim7.holds_tied_plain_at .later [] laidKindsAll true (Rows.costBackCard.stood.harness) true
    costBack_row (fun _ h => by cases h) (by kernel_rfl) (fun _ h => by cases h) costBack_row_tie rfl ⟨rfl, rfl⟩ (by kernel_rfl) rfl
    (fun f fn hf hfn => by
      obtain rfl : f = 6 := Option.some.inj ((show Tryd.prog.funcNamed "roundsman/roundsmanlaw1.CostBack" = some 6 by kernel_rfl).symm.trans hf) |>.symm
      obtain rfl : fn = Tryd.f6 := (Option.some.inj (Tryd.func6.symm.trans hfn)).symm
      exact ⟨by kernel_rfl, fun j t ht => by
        rw [Tryd.params6] at ht
        exact stand_all #[2] (by kernel_rfl) j t ht⟩)
    (by kernel_rfl)
#print axioms costBack_card

end Go.Proofs.YtboobkdbdccliaaDoor
