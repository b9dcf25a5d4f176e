/-
  PROVED: about the greatest weight and Inf: what is a weight, what a text comes to. For every distance from there. Conditions: the listed library variables hold what the program's own text lays (the card ties them).
-/
import Derived.Test.YtboobkdbdccliaaDoorKnown
import Derived.Test.YtboobkdbdccliaaDoorLaid
import Derived.Test.YtboobkdbdccliaaDoorDecM
import Derived.Test.YtboobkdbdccliaaDoorCostAlg
import Derived.Test.YtboobkdbdccliaaDoorCards
import Derived.Test.YtboobkdbdccliaaDoorTie
import Derived.SevenTiedAt
import Derived.Lib.SmallJoins
namespace Go.Proofs.YtboobkdbdccliaaDoor
open Go.ChangeShapes Go.WideShapes Go.ChangeAt Go.RowKit
open Go.ChangeMaps (open_string)

/-- A number's digits, as bytes. -/
def dtx (u : Nat) : ByteArray := ⟨(Lib.decDigits u).toArray⟩
theorem dtx_list (u : Nat) : (dtx u).data.toList = Lib.decDigits u := by simp [dtx]
theorem dtx_size (n : Int) (h0 : 0 ≤ n) (h1 : n ≤ 9223372036854775807) : (dtx n.toNat).size ≤ 21 := by
  rw [← sizeL, dtx_list]
  have h2 := Lib.itoa_length_le n (by omega) h1
  unfold Lib.itoa at h2
  rwa [if_neg (by omega)] at h2
theorem dtx_ne (u : Nat) : ¬ (dtx u).toList = [45] := by
  rw [ByteArray.toList_eq, dtx_list]
  intro e
  have p2 := (decDigits_props u).2.1
  rw [e] at p2
  exact absurd p2 (by decide)
theorem dtx_numB (u : Nat) : numB (dtx u).data.toList = true := by rw [dtx_list]; exact decDigits_numB u
theorem dtx_decV (u : Nat) : decV (dtx u).data.toList = u := by rw [dtx_list]; exact (decDigits_props u).2.2.1
theorem dtx_zero (u : Nat) (h : 1 ≤ u) : dtx u ++ (⟨#[48]⟩ : ByteArray) = dtx (10 * u) := by
  apply ByteArray.ext
  apply Array.toList_inj.1
  rw [Joins.data_append, dtx_list, dtx_list, Lib.decDigits.eq_1 (10 * u), dif_neg (by omega), show 10 * u / 10 = u by omega, show 10 * u % 10 = 0 by omega]
  rfl
theorem app_size2 (x y : ByteArray) : (x ++ y).size = x.size + y.size := by
  rw [← sizeL, Joins.data_append, List.length_append, sizeL, sizeL]
theorem decimal_dtx (n : Int) (w : World) (h0 : 0 ≤ n) (h1 : n ≤ 9223372036854775807) :
    Calls Tryd.prog 26 #[.int .i64 n] w fun e w' => e = .returned (.string (dtx n.toNat)) ∧ Below w.heap.size w w' := decimal_any n w h0 h1
theorem read_below (u : Nat) (t : ByteArray) (v : Int) (w : World) (ht : t = dtx u) (hs : t.size ≤ 9223372036854775807) (hv : v = u) (hlt : v < 1152921504606846976) :
    Calls Tryd.prog 22 #[.string t] w fun e w' => e = .returned (.tuple #[.int .i64 v, .nilIface]) ∧ w = w' := by
  subst ht hv
  refine (read_num _ w hs (dtx_ne u) (dtx_numB u)).mono fun e w' h => ?_
  rw [dtx_decV] at h
  rcases h with ⟨_, h1, h2⟩ | ⟨h, _⟩
  · exact ⟨h1, h2⟩
  · exfalso; omega
theorem read_beyond (u : Nat) (t : ByteArray) (w : World) (ht : t = dtx u) (hs : t.size ≤ 9223372036854775807) (hge : 1152921504606846976 ≤ (u : Int)) :
    Calls Tryd.prog 22 #[.string t] w fun e w' => e = .returned (.tuple #[.int .i64 0, .iface 57 (.pointer (some ⟨w.heap.size, 0, none⟩))]) ∧ w' = w.alloc (.cells #[.string costB, .int .i64 0, .iface 52 (.int .i64 8)] 61) := by
  subst ht
  refine (read_num _ w hs (dtx_ne u) (dtx_numB u)).mono fun e w' h => ?_
  rw [dtx_decV] at h
  rcases h with ⟨h, _⟩ | ⟨_, h1, h2⟩
  · exfalso; omega
  · exact ⟨h1, h2⟩

set_option maxRecDepth 100000 in
set_option maxHeartbeats 2000000 in
theorem edges_neg (d : Int) (w : World) (hg : ErrT w) (d0 : -128 ≤ d) (d1 : d < 0) :
    Calls Tryd.prog 8 #[.int .i8 d] w fun e w' => e = .returned (.bool true) ∧ Below w.heap.size w w' := by
  have hgl := hg.lt
  have HG := Lib.hid hg
  clear hg
  have z0 : (d == 0) = false := by rw [beq_eq_false_iff_ne]; omega
  have i0 : 0 ≤ 1152921504606846976 + d := by omega
  have i1 : 1152921504606846976 + d ≤ 1152921504606847104 := by omega
  have hsz := dtx_size (1152921504606846976 + d) (by omega) (by omega)
  have W1 := Lib.hid (show wgt (2147483648 + d) = true by unfold wgt; simp; omega)
  have W2 := Lib.hid (show wgt (1152921504606846976 + d) = false by unfold wgt; simp; omega)
  have A1 := Lib.hid (addC_zero (1152921504606846976 + d))
  have A2 := Lib.hid (hld_in (1152921504606846976 + d) (by omega) (by omega))
  generalize hI : 1152921504606846976 + d = I at *
  have HI := Lib.hid hI
  generalize hT : dtx I.toNat = T at *
  have HT := Lib.hid hT
  have HZ : Hid (T ++ (⟨#[48]⟩ : ByteArray) = dtx (10 * I.toNat)) := Lib.hid (by rw [← hT]; exact dtx_zero _ (by omega))
  clear hT
  go_enter Tryd.func8, Tryd.ntmps8
  go_wp2_with fail
  refine (known_any _ HG.out).mono ?_
  rintro e w1 ⟨rfl, hb1⟩
  have HB := Lib.hid hb1
  clear hb1
  go_wp2_with fail
  refine (decimal_dtx _ _ i0 (by omega)).mono ?_
  rw [HT.out]
  rintro e w2 ⟨rfl, hb2⟩
  have HC : Hid (Below w.heap.size w w2) := Lib.hid (HB.out.trans (hb2.mono HB.out.size))
  clear hb2
  go_wp2_with fail
  refine (read_below I.toNat T I _ HT.out.symm (by omega) (by omega) (by have := HI.out; omega)).mono ?_
  rintro e w' ⟨rfl, rfl⟩
  go_wp2_with fail
  refine (tells_nil _ _).mono ?_
  rintro e w3 ⟨rfl, hb3⟩
  have HD : Hid (Below w.heap.size w w3) := Lib.hid ((HC.out.alloc HC.out.size _).trans (hb3.mono (by have := HC.out.size; simp; omega)))
  clear hb3
  go_wp2_with fail
  refine (decimal_dtx _ _ i0 (by omega)).mono ?_
  rw [HT.out]
  rintro e w4 ⟨rfl, hb4⟩
  have HE : Hid (Below w.heap.size w w4) := Lib.hid (HD.out.trans (hb4.mono HD.out.size))
  clear hb4
  go_wp2_with fail
  refine (read_beyond (10 * I.toNat) _ _ HZ.out (by rw [app_size2]; show T.size + 1 ≤ _; omega) (by have := HI.out; omega)).mono ?_
  rintro e w' ⟨rfl, rfl⟩
  go_wp2_with fail
  refine (weight_any _ _ (by omega) (by omega)).mono ?_
  rw [W1.out]
  rintro e w' ⟨rfl, rfl⟩
  go_wp2_with fail
  refine (weight_any _ _ (by omega) (by omega)).mono ?_
  rw [W2.out]
  rintro e w' ⟨rfl, rfl⟩
  go_wp2_with fail
  refine (at_any costB _ _ _).mono ?_
  rintro e w' ⟨rfl, rfl⟩
  go_wp2_with fail
  refine (tells_laid (w4.alloc (.cells #[.string costB, .int .i64 0, .iface 52 (.int .i64 8)] 61)) (w4.heap.size + 1 + 1) w4.heap.size costB 0 8 (by simp) (HG.out.below hgl (HE.out.alloc HE.out.size _)) (by simp) (by simp) (by simp) (by decide)).mono ?_
  rintro e w5 ⟨rfl, hb5⟩
  have HF : Hid (Below w.heap.size w w5) := Lib.hid ((HE.out.alloc HE.out.size _).trans (hb5.mono (by have := HE.out.size; simp; omega)))
  clear hb5
  go_wp2_with fail
  refine (add_any _ _ _ (by omega) (by omega) (by omega) (by omega)).mono ?_
  rw [A1.out, A2.out]
  rintro e w' ⟨rfl, rfl⟩
  go_wp2_with fail
  go_ret
  exact ⟨ret_boolT (by simp; omega), HF.out⟩

set_option maxRecDepth 100000 in
set_option maxHeartbeats 2000000 in
theorem edges_pos (d : Int) (w : World) (hg : ErrT w) (d0 : 0 < d) (d1 : d ≤ 127) :
    Calls Tryd.prog 8 #[.int .i8 d] w fun e w' => e = .returned (.bool true) ∧ Below w.heap.size w w' := by
  have hgl := hg.lt
  have HG := Lib.hid hg
  clear hg
  have z0 : (d == 0) = false := by rw [beq_eq_false_iff_ne]; omega
  have i0 : 0 ≤ 1152921504606846976 + d := by omega
  have i1 : 1152921504606846976 + d ≤ 1152921504606847104 := by omega
  have hsz := dtx_size (1152921504606846976 + d) (by omega) (by omega)
  have W1 := Lib.hid (show wgt (2147483648 + d) = false by unfold wgt; simp; omega)
  have W2 := Lib.hid (show wgt (1152921504606846976 + d) = false by unfold wgt; simp; omega)
  have A1 := Lib.hid (addC_zero (1152921504606846976 + d))
  have A2 := Lib.hid (hld_big (1152921504606846976 + d) (by omega))
  generalize hI : 1152921504606846976 + d = I at *
  have HI := Lib.hid hI
  generalize hT : dtx I.toNat = T at *
  have HT := Lib.hid hT
  have HZ : Hid (T ++ (⟨#[48]⟩ : ByteArray) = dtx (10 * I.toNat)) := Lib.hid (by rw [← hT]; exact dtx_zero _ (by omega))
  clear hT
  go_enter Tryd.func8, Tryd.ntmps8
  go_wp2_with fail
  refine (known_any _ HG.out).mono ?_
  rintro e w1 ⟨rfl, hb1⟩
  have HB := Lib.hid hb1
  clear hb1
  go_wp2_with fail
  refine (decimal_dtx _ _ i0 (by omega)).mono ?_
  rw [HT.out]
  rintro e w2 ⟨rfl, hb2⟩
  have HC : Hid (Below w.heap.size w w2) := Lib.hid (HB.out.trans (hb2.mono HB.out.size))
  clear hb2
  go_wp2_with fail
  refine (read_beyond I.toNat T _ HT.out.symm (by omega) (by have := HI.out; omega)).mono ?_
  rintro e w' ⟨rfl, rfl⟩
  go_wp2_with fail
  refine (at_any costB _ _ _).mono ?_
  rintro e w' ⟨rfl, rfl⟩
  go_wp2_with fail
  refine (tells_laid ((w2.alloc (.cells #[.string costB, .int .i64 0, .iface 52 (.int .i64 8)] 61)).alloc (.cells #[.slice (some ⟨w2.heap.size + 1 + 1 + 1, 0, none⟩) 1 1, .int .i64 8] 40)) (w2.heap.size + 1 + 1 + 1) w2.heap.size costB 0 8 (by simp) (HG.out.below hgl ((HC.out.alloc HC.out.size _).alloc (by have := HC.out.size; simp; omega) _)) (by simp) (by simp) (by simp) (by decide)).mono ?_
  rintro e w3 ⟨rfl, hb3⟩
  have HD : Hid (Below w.heap.size w w3) := Lib.hid (((HC.out.alloc HC.out.size _).alloc (by have := HC.out.size; simp; omega) _).trans (hb3.mono (by have := HC.out.size; simp; omega)))
  clear hb3
  go_wp2_with fail
  refine (decimal_dtx _ _ i0 (by omega)).mono ?_
  rw [HT.out]
  rintro e w4 ⟨rfl, hb4⟩
  have HE : Hid (Below w.heap.size w w4) := Lib.hid (HD.out.trans (hb4.mono HD.out.size))
  clear hb4
  go_wp2_with fail
  refine (read_beyond (10 * I.toNat) _ _ HZ.out (by rw [app_size2]; show T.size + 1 ≤ _; omega) (by have := HI.out; omega)).mono ?_
  rintro e w' ⟨rfl, rfl⟩
  go_wp2_with fail
  refine (weight_any _ _ (by omega) (by omega)).mono ?_
  rw [W1.out]
  rintro e w' ⟨rfl, rfl⟩
  go_wp2_with fail
  refine (weight_any _ _ (by omega) (by omega)).mono ?_
  rw [W2.out]
  rintro e w' ⟨rfl, rfl⟩
  go_wp2_with fail
  refine (at_any costB _ _ _).mono ?_
  rintro e w' ⟨rfl, rfl⟩
  go_wp2_with fail
  refine (tells_laid (w4.alloc (.cells #[.string costB, .int .i64 0, .iface 52 (.int .i64 8)] 61)) (w4.heap.size + 1 + 1) w4.heap.size costB 0 8 (by simp) (HG.out.below hgl (HE.out.alloc HE.out.size _)) (by simp) (by simp) (by simp) (by decide)).mono ?_
  rintro e w5 ⟨rfl, hb5⟩
  have HF : Hid (Below w.heap.size w w5) := Lib.hid ((HE.out.alloc HE.out.size _).trans (hb5.mono (by have := HE.out.size; simp; omega)))
  clear hb5
  go_wp2_with fail
  refine (add_any _ _ _ (by omega) (by omega) (by omega) (by omega)).mono ?_
  rw [A1.out, A2.out]
  rintro e w' ⟨rfl, rfl⟩
  go_wp2_with fail
  go_ret
  exact ⟨ret_boolT (by simp; omega), HF.out⟩


set_option maxRecDepth 100000 in
set_option maxHeartbeats 2000000 in
theorem edges_zero (w : World) (hg : ErrT w) :
    Calls Tryd.prog 8 #[.int .i8 0] w fun e w' => e = .returned (.bool true) ∧ Below w.heap.size w w' := by
  have hgl := hg.lt
  have HG := Lib.hid hg
  clear hg
  have hsz := dtx_size 1152921504606846976 (by omega) (by omega)
  have W1 := Lib.hid (show wgt 2147483648 = true by decide)
  have W2 := Lib.hid (show wgt 1152921504606846976 = true by decide)
  have A1 := Lib.hid (addC_zero 1152921504606846976)
  have A2 := Lib.hid (hld_in 1152921504606846976 (by omega) (by omega))
  generalize hT : dtx (1152921504606846976 : Int).toNat = T at *
  have HT := Lib.hid hT
  have HZ : Hid (T ++ (⟨#[48]⟩ : ByteArray) = dtx (10 * (1152921504606846976 : Int).toNat)) := Lib.hid (by rw [← hT]; exact dtx_zero _ (by omega))
  clear hT
  go_enter Tryd.func8, Tryd.ntmps8
  go_wp2_with fail
  refine (known_any _ HG.out).mono ?_
  rintro e w1 ⟨rfl, hb1⟩
  have HB := Lib.hid hb1
  clear hb1
  go_wp2_with fail
  refine (decimal_dtx _ _ (by omega) (by omega)).mono ?_
  rw [HT.out]
  rintro e w2 ⟨rfl, hb2⟩
  have HC : Hid (Below w.heap.size w w2) := Lib.hid (HB.out.trans (hb2.mono HB.out.size))
  clear hb2
  go_wp2_with fail
  refine (read_beyond (1152921504606846976 : Int).toNat T _ HT.out.symm (by omega) (by omega)).mono ?_
  rintro e w' ⟨rfl, rfl⟩
  go_wp2_with fail
  refine (at_any costB _ _ _).mono ?_
  rintro e w' ⟨rfl, rfl⟩
  go_wp2_with fail
  refine (tells_laid ((w2.alloc (.cells #[.string costB, .int .i64 0, .iface 52 (.int .i64 8)] 61)).alloc (.cells #[.slice (some ⟨w2.heap.size + 1 + 1 + 1, 0, none⟩) 1 1, .int .i64 8] 40)) (w2.heap.size + 1 + 1 + 1) w2.heap.size costB 0 8 (by simp) (HG.out.below hgl ((HC.out.alloc HC.out.size _).alloc (by have := HC.out.size; simp; omega) _)) (by simp) (by simp) (by simp) (by decide)).mono ?_
  rintro e w3 ⟨rfl, hb3⟩
  have HD : Hid (Below w.heap.size w w3) := Lib.hid (((HC.out.alloc HC.out.size _).alloc (by have := HC.out.size; simp; omega) _).trans (hb3.mono (by have := HC.out.size; simp; omega)))
  clear hb3
  go_wp2_with fail
  refine (decimal_dtx _ _ (by omega) (by omega)).mono ?_
  rw [HT.out]
  rintro e w4 ⟨rfl, hb4⟩
  have HE : Hid (Below w.heap.size w w4) := Lib.hid (HD.out.trans (hb4.mono HD.out.size))
  clear hb4
  go_wp2_with fail
  refine (read_beyond (10 * (1152921504606846976 : Int).toNat) _ _ HZ.out (by rw [app_size2]; show T.size + 1 ≤ _; omega) (by omega)).mono ?_
  rintro e w' ⟨rfl, rfl⟩
  go_wp2_with fail
  refine (weight_any _ _ (by omega) (by omega)).mono ?_
  rw [W1.out]
  rintro e w' ⟨rfl, rfl⟩
  go_wp2_with fail
  refine (weight_any _ _ (by omega) (by omega)).mono ?_
  rw [W2.out]
  rintro e w' ⟨rfl, rfl⟩
  go_wp2_with fail
  refine (at_any costB _ _ _).mono ?_
  rintro e w' ⟨rfl, rfl⟩
  go_wp2_with fail
  refine (tells_laid (w4.alloc (.cells #[.string costB, .int .i64 0, .iface 52 (.int .i64 8)] 61)) (w4.heap.size + 1 + 1) w4.heap.size costB 0 8 (by simp) (HG.out.below hgl (HE.out.alloc HE.out.size _)) (by simp) (by simp) (by simp) (by decide)).mono ?_
  rintro e w5 ⟨rfl, hb5⟩
  have HF : Hid (Below w.heap.size w w5) := Lib.hid ((HE.out.alloc HE.out.size _).trans (hb5.mono (by have := HE.out.size; simp; omega)))
  clear hb5
  go_wp2_with fail
  refine (add_any _ _ _ (by omega) (by omega) (by omega) (by omega)).mono ?_
  rw [A1.out, A2.out]
  rintro e w' ⟨rfl, rfl⟩
  go_wp2_with fail
  go_ret
  exact ⟨ret_boolT (by simp), HF.out⟩


theorem edges_walk (d : Int) (w : World) (hg : ErrT w) (d0 : -128 ≤ d) (d1 : d ≤ 127) :
    Calls Tryd.prog 8 #[.int .i8 d] w fun e w' => e = .returned (.bool true) ∧ Below w.heap.size w w' := by
  rcases Int.lt_trichotomy d 0 with h | h | h
  · exact edges_neg d w hg d0 h
  · subst h; exact edges_zero w hg
  · exact edges_pos d w hg h d1

set_option maxRecDepth 100000 in
theorem costEdges_walks : Walks laidAll 8 Tryd.f8 := by
  intro H enc W args ds g
  obtain ⟨ps, hA⟩ := g.reads
  obtain ⟨base, hval⟩ := g.okay
  rw [Tryd.params8] at hA hval
  obtain ⟨v0, vs0, d0, ds0, p0, q0, hargs, rfl, rfl, h0, r0⟩ := trodAll_cons hA
  obtain ⟨rfl, rfl, rfl⟩ := trodAll_nil r0
  obtain rfl : args = #[v0] := Array.toList_inj.1 hargs
  obtain ⟨x0, rfl, rfl, rfl, w0⟩ := open_int Tryd.underlying48 (hval 0 48 v0 rfl rfl) h0
  exact edges_walk x0 W (errT_of_laid g.laid) (wf8 w0).1 (wf8 w0).2

theorem costEdges_row : Rows.CostEdgesSaid :=
  OpenClaim.holds_of_wide 8 Tryd.f8 rfl rfl rfl rfl rfl rfl rfl ⟨rfl, rfl, rfl, rfl, rfl⟩ rfl rfl rfl rfl rfl (by kernel_rfl) Tryd.func8 (by kernel_rfl)
    (of_decide_eq_true (by kernel_rfl)) (by unfold Func.isWrapper; rw [if_neg (of_decide_eq_false (by kernel_rfl))]; exact ⟨rfl, rfl⟩)
    (fun os started H enc _ => law_lifted (s := Rows.costEdgesSpec) (L := laidAll) Tryd.func8 (by kernel_rfl) rfl (by kernel_rfl)
      (fun H ds hl => by
        rw [Tryd.params8] at hl
        match ds, hl with
        | [_], _ => exact ⟨rfl, rfl, rfl⟩)
      (by kernel_rfl) os started H enc
      (ChangeSpec.witness_at (enc := enc) (C := Tryd.checked) (os := os) (X := fun w _ => laidMetH Tryd.prog laidAll w) false (laidWorld os) #[.int .i8 0] 8 rfl (by kernel_rfl) (by kernel_rfl) (by kernel_rfl) (by kernel_rfl) (by kernel_rfl) (laidWorld_met os _))
      costEdges_walks)

theorem costEdges_card : Rows.CostEdgesCardSaid :=
  Claim7.holds_tied_plain_at .later [] laidKindsAll true (Rows.costEdgesCard.stood.harness) true
    costEdges_row (fun _ h => by cases h) (by kernel_rfl) (fun _ h => by cases h) costEdges_row_tie rfl ⟨rfl, rfl⟩ (by kernel_rfl) rfl
    (fun f fn hf hfn => by
      obtain rfl : f = 8 := Option.some.inj ((show Tryd.prog.funcNamed "roundsman/roundsmanlaw1.CostEdges" = some 8 by kernel_rfl).symm.trans hf) |>.symm
      obtain rfl : fn = Tryd.f8 := (Option.some.inj (Tryd.func8.symm.trans hfn)).symm
      exact ⟨by kernel_rfl, fun j t ht => by
        rw [Tryd.params8] at ht
        exact stand_all #[48] (by kernel_rfl) j t ht⟩)
    (by kernel_rfl)
#print axioms costEdges_card

end Go.Proofs.YtboobkdbdccliaaDoor
