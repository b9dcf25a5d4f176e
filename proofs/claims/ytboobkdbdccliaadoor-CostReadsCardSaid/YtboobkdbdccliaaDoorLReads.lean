/-
  PROVED: any text as a cost, or why it is none, as the document has it; what is one is told again as it was. For every text. Conditions: the listed library variables hold what the program's own text lays (the card ties them).
-/
import Derived.Test.YtboobkdbdccliaaDoorKnown
import Derived.Test.YtboobkdbdccliaaDoorLaid
import Derived.Test.YtboobkdbdccliaaDoorDecM
import Derived.Test.YtboobkdbdccliaaDoorCards
import Derived.Test.YtboobkdbdccliaaDoorTie
import Derived.SevenTiedAt
import Derived.Lib.SmallJoins
namespace Go.Proofs.YtboobkdbdccliaaDoor
open Go.ChangeShapes Go.WideShapes Go.ChangeAt Go.RowKit
open Go.ChangeMaps (open_string)

theorem pow10_below {w w' : World} (h : Pow10 w) (hb : Below w.heap.size w w') : Pow10 w' := Joins.tab_stays (g := 1) (by kernel_rfl) h hb (Nat.le_refl _)

set_option maxRecDepth 100000 in
set_option maxHeartbeats 2000000 in
theorem reads_walk (s : ByteArray) (w : World) (hg : ErrT w) (hp : Pow10 w) (hs : s.size ≤ maxLen) :
    Calls Tryd.prog 4 #[.string s] w fun e w' => e = .returned (.bool true) ∧ Below w.heap.size w w' := by
  unfold maxLen at hs
  have hgl := hg.lt
  have HG := Lib.hid hg
  have HP := Lib.hid hp
  clear hg hp
  by_cases hlong : 200 < (s.size : Int)
  · go_enter Tryd.func4, Tryd.ntmps4
    go_wp2_with fail
    refine (known_any _ HG.out).mono ?_
    rintro e w1 ⟨rfl, hb1⟩
    have HB := Lib.hid hb1
    clear hb1
    go_wp2_with fail
    go_ret
    exact ⟨rfl, HB.out⟩
  · have hshort : (s.size : Int) ≤ 200 := by omega
    clear hlong
    by_cases hd : s.toList = [45]
    · have HD := Lib.hid hd
      clear hd
      go_enter Tryd.func4, Tryd.ntmps4
      go_wp2_with fail
      refine (known_any _ HG.out).mono ?_
      rintro e w1 ⟨rfl, hb1⟩
      have HB := Lib.hid hb1
      clear hb1
      go_wp2_with fail
      refine (read_dash s _ HD.out).mono ?_
      rintro e w' ⟨rfl, rfl⟩
      go_wp2_with fail
      refine (rread_dash s _ HD.out).mono ?_
      rintro e w2 ⟨wv, rfl, hw, hb2⟩
      obtain ⟨sp, sn, sc, rfl⟩ := hw.shape
      have HW := Lib.hid hw
      clear hw
      have HC := Lib.hid hb2
      clear hb2
      go_wp2_with fail
      refine (tells_nil _ _).mono ?_
      rintro e w3 ⟨rfl, hb3⟩
      have n1 : w3.cell? ⟨w2.heap.size, 1, none⟩ = some (.int .i64 0) := (hb3.cell (by simp)).trans (by simp)
      have HE := Lib.hid hb3
      clear hb3
      go_wp2_with fail
      refine (text_inf _).mono ?_
      rintro e w' ⟨rfl, rfl⟩
      have q1 : ((⟨#[45]⟩ : ByteArray).toList == s.toList) = true := by rw [HD.out, ByteArray.toList_eq]; rfl
      have HF : Hid (Below w.heap.size w w3) := Lib.hid (HB.out.trans ((HC.out.mono HB.out.size).trans ((((Below.refl _ _).alloc (Nat.le_refl _) _).mono (Nat.le_trans HB.out.size HC.out.size)).trans (HE.out.mono (by have := HB.out.size; have := HC.out.size; simp; omega)))))
      go_wp2_with fail
      go_ret
      exact ⟨ret_boolT (by rw [HD.out]; rfl), HF.out⟩
    · have HD := Lib.hid hd
      clear hd
      cases hn : numB s.data.toList with
      | false =>
        have HN := Lib.hid hn
        clear hn
        go_enter Tryd.func4, Tryd.ntmps4
        go_wp2_with fail
        refine (known_any _ HG.out).mono ?_
        rintro e w1 ⟨rfl, hb1⟩
        have HB := Lib.hid hb1
        clear hb1
        go_wp2_with fail
        refine (read_form s _ hs HD.out HN.out).mono ?_
        rintro e w' ⟨rfl, rfl⟩
        go_wp2_with fail
        refine (rread_form s _ hs HD.out HN.out).mono ?_
        rintro e w2 ⟨wv, rfl, hw, hb2⟩
        obtain ⟨sp, sn, sc, rfl⟩ := hw.shape
        have HW := Lib.hid hw
        have HC := Lib.hid hb2
        clear hw hb2
        have HT : Hid (Below w.heap.size w w2) := Lib.hid (HB.out.trans ((((Below.refl _ _).alloc (Nat.le_refl _) _).mono HB.out.size).trans (HC.out.mono (by have := HB.out.size; simp; omega))))
        have HE : Hid (ErrV w2 (.iface 57 (.pointer (some ⟨w1.heap.size, 0, none⟩))) [(costB, 0)] 2) := Lib.hid ⟨_, _, rfl, (HC.out.cell (by simp)).trans (by simp), (HC.out.cell (by simp)).trans (by simp), (HC.out.cell (by simp)).trans (by simp), rfl⟩
        go_wp2_with fail
        refine (tells_any _ _ [(costB, 0)] 2 _ (HG.out.below hgl (HT.out.alloc HT.out.size _)) (HE.out.below ((Below.refl _ _).alloc (Nat.le_refl _) _)) (HW.out.below ((Below.refl _ _).alloc (Nat.le_refl _) _)) (by simp) (by simp) (by decide)).mono ?_
        rintro e w3 ⟨rfl, hb3⟩
        have n1 : w3.cell? ⟨w2.heap.size, 1, none⟩ = some (.int .i64 2) := (hb3.cell (by simp)).trans (by simp)
        have HF : Hid (Below w.heap.size w w3) := Lib.hid ((HT.out.alloc HT.out.size _).trans (hb3.mono (by have := HT.out.size; simp; omega)))
        clear hb3
        go_wp2_with fail
        go_ret
        exact ⟨rfl, HF.out⟩
      | true =>
        have HN := Lib.hid hn
        clear hn
        go_enter Tryd.func4, Tryd.ntmps4
        go_wp2_with fail
        refine (known_any _ HG.out).mono ?_
        rintro e w1 ⟨rfl, hb1⟩
        have HB := Lib.hid hb1
        clear hb1
        go_wp2_with fail
        refine (read_num s _ hs HD.out HN.out).mono ?_
        rintro e w' (⟨hlt, rfl, rfl⟩ | ⟨hge, rfl, rfl⟩)
        · have HV := Lib.hid hlt
          clear hlt
          go_wp2_with fail
          refine (rread_num s _ hs HD.out HN.out).mono ?_
          rintro e w2 (⟨-, wv, rfl, hw, hb2⟩ | ⟨hge, -⟩)
          · obtain ⟨sp, sn, sc, rfl⟩ := hw.shape
            have HC := Lib.hid hb2
            clear hw hb2
            have HT : Hid (Below w.heap.size w w2) := Lib.hid (HB.out.trans (HC.out.mono HB.out.size))
            generalize hD : (decV s.data.toList : Int) = D at *
            have HD2 := Lib.hid hD
            have v0 : 0 ≤ D := by omega
            have v1 : D ≤ 9223372036854775807 := by have := HV.out; omega
            clear hD
            go_wp2_with fail
            refine (tells_nil _ _).mono ?_
            rintro e w3 ⟨rfl, hb3⟩
            have n1 : w3.cell? ⟨w2.heap.size, 1, none⟩ = some (.int .i64 0) := (hb3.cell (by simp)).trans (by simp)
            have HF : Hid (Below w.heap.size w w3) := Lib.hid ((HT.out.alloc HT.out.size _).trans (hb3.mono (by have := HT.out.size; simp; omega)))
            clear hb3
            go_wp2_with fail
            refine (text_any _ _ (by omega) (by omega) (pow10_below HP.out HF.out)).mono ?_
            rintro e w4 ⟨rfl, hb4⟩
            have HX : Hid ((⟨(textC D).toArray⟩ : ByteArray) = s) := Lib.hid (by
              have h1 : hld D = D := hld_in _ v0 (by have := HV.out; omega)
              have h2 : ¬ hld D = 1152921504606846976 := by rw [h1]; have := HV.out; omega
              rw [textC_fin h2, h1, ← HD2.out, Int.toNat_natCast, numB_dec _ HN.out])
            rw [HX.out]
            have HH : Hid (Below w.heap.size w w4) := Lib.hid (HF.out.trans (hb4.mono HF.out.size))
            clear hb4
            go_wp2_with fail
            go_ret
            exact ⟨ret_boolT (by simp), HH.out⟩
          · exfalso; have := HV.out; omega
        · have HV := Lib.hid hge
          clear hge
          go_wp2_with fail
          refine (rread_num s _ hs HD.out HN.out).mono ?_
          rintro e w2 (⟨hlt, -⟩ | ⟨-, wv, rfl, hw, hb2⟩)
          · exfalso; have := HV.out; omega
          · obtain ⟨sp, sn, sc, rfl⟩ := hw.shape
            have HW := Lib.hid hw
            have HC := Lib.hid hb2
            clear hw hb2
            have HT : Hid (Below w.heap.size w w2) := Lib.hid (HB.out.trans ((((Below.refl _ _).alloc (Nat.le_refl _) _).mono HB.out.size).trans (HC.out.mono (by have := HB.out.size; simp; omega))))
            have HE : Hid (ErrV w2 (.iface 57 (.pointer (some ⟨w1.heap.size, 0, none⟩))) [(costB, 0)] 8) := Lib.hid ⟨_, _, rfl, (HC.out.cell (by simp)).trans (by simp), (HC.out.cell (by simp)).trans (by simp), (HC.out.cell (by simp)).trans (by simp), rfl⟩
            go_wp2_with fail
            refine (tells_any _ _ [(costB, 0)] 8 _ (HG.out.below hgl (HT.out.alloc HT.out.size _)) (HE.out.below ((Below.refl _ _).alloc (Nat.le_refl _) _)) (HW.out.below ((Below.refl _ _).alloc (Nat.le_refl _) _)) (by simp) (by simp) (by decide)).mono ?_
            rintro e w3 ⟨rfl, hb3⟩
            have n1 : w3.cell? ⟨w2.heap.size, 1, none⟩ = some (.int .i64 8) := (hb3.cell (by simp)).trans (by simp)
            have HF : Hid (Below w.heap.size w w3) := Lib.hid ((HT.out.alloc HT.out.size _).trans (hb3.mono (by have := HT.out.size; simp; omega)))
            clear hb3
            go_wp2_with fail
            go_ret
            exact ⟨rfl, HF.out⟩

set_option maxRecDepth 100000 in
theorem costReads_walks : Walks laidAll 4 Tryd.f4 := by
  intro H enc W args ds g
  obtain ⟨ps, hA⟩ := g.reads
  obtain ⟨base, hval⟩ := g.okay
  rw [Tryd.params4] at hA hval
  obtain ⟨v0, vs0, d0, ds0, p0, q0, hargs, rfl, rfl, h0, r0⟩ := trodAll_cons hA
  obtain ⟨rfl, rfl, rfl⟩ := trodAll_nil r0
  obtain rfl : args = #[v0] := Array.toList_inj.1 hargs
  obtain ⟨x0, rfl, rfl, rfl, w0⟩ := open_string Tryd.underlying9 (hval 0 9 v0 rfl rfl) h0
  exact reads_walk x0 W (errT_of_laid g.laid) (pow10_of_laid g.laid) w0

theorem costReads_row : Rows.CostReadsSaid :=
  OpenClaim.holds_of_wide 4 Tryd.f4 rfl rfl rfl rfl rfl rfl rfl ⟨rfl, rfl, rfl, rfl, rfl⟩ rfl rfl rfl rfl rfl (by kernel_rfl) Tryd.func4 (by kernel_rfl)
    (of_decide_eq_true (by kernel_rfl)) (by unfold Func.isWrapper; rw [if_neg (of_decide_eq_false (by kernel_rfl))]; exact ⟨rfl, rfl⟩)
    (fun os started H enc _ => law_lifted (s := Rows.costReadsSpec) (L := laidAll) Tryd.func4 (by kernel_rfl) rfl (by kernel_rfl)
      (fun H ds hl => by
        rw [Tryd.params4] at hl
        match ds, hl with
        | [_], _ => exact ⟨rfl, rfl, rfl⟩)
      (by kernel_rfl) os started H enc
      (ChangeSpec.witness_at (enc := enc) (C := Tryd.checked) (os := os) (X := fun w _ => laidMetH Tryd.prog laidAll w) false (laidWorld os) #[.string ⟨#[]⟩] 8 rfl (by kernel_rfl) (by kernel_rfl) (by kernel_rfl) (by kernel_rfl) (by kernel_rfl) (laidWorld_met os _))
      costReads_walks)

theorem costReads_card : Rows.CostReadsCardSaid :=
  Claim7.holds_tied_plain_at .later [] laidKindsAll true (Rows.costReadsCard.stood.harness) true
    costReads_row (fun _ h => by cases h) (by kernel_rfl) (fun _ h => by cases h) costReads_row_tie rfl ⟨rfl, rfl⟩ (by kernel_rfl) rfl
    (fun f fn hf hfn => by
      obtain rfl : f = 4 := Option.some.inj ((show Tryd.prog.funcNamed "roundsman/roundsmanlaw1.CostReads" = some 4 by kernel_rfl).symm.trans hf) |>.symm
      obtain rfl : fn = Tryd.f4 := (Option.some.inj (Tryd.func4.symm.trans hfn)).symm
      exact ⟨by kernel_rfl, fun j t ht => by
        rw [Tryd.params4] at ht
        exact stand_all #[9] (by kernel_rfl) j t ht⟩)
    (by kernel_rfl)
#print axioms costReads_card

end Go.Proofs.YtboobkdbdccliaaDoor
