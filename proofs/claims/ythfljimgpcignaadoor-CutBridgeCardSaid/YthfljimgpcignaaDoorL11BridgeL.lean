/-
  PROVED: Two heaps of points, far from each other, with fewer edges between than within, are parted by just these; for any two numbers.
-/
import Derived.Test.YthfljimgpcignaaDoorL11Bridge
import Derived.Test.YthfljimgpcignaaDoorCuE
import Derived.Test.YthfljimgpcignaaDoorLaid9
import Derived.Test.YthfljimgpcignaaDoorLift
import Derived.Test.YthfljimgpcignaaDoorCards
import Derived.Test.YthfljimgpcignaaDoorTie
import Derived.SevenTiedAt
namespace Go.Proofs.YthfljimgpcignaaDoor
open Go.ChangeShapes Go.WideShapes Go.ChangeAt Go.RowKit Go.Sort

theorem bridge_law (n b : Int) (w : World) (hg : ErrT w) (h0 : 0 ≤ n) (h1 : n ≤ 255) (h2 : 0 ≤ b) (h3 : b ≤ 255) :
    Calls Tryd.prog 5 #[.int .u8 n, .int .u8 b] w fun e w' => e = .returned (.bool true) ∧ Below w.heap.size w w' :=
  bridge_walk n b w (known11_any w hg) cbest_is h0 h1 h2 h3
set_option maxRecDepth 100000 in
theorem cutBridge_walks : Walks laidAll 5 Tryd.f5 := by
  intro H enc W args ds g
  obtain ⟨ps, hA⟩ := g.reads
  obtain ⟨base, hval⟩ := g.okay
  rw [Tryd.params5] at hA hval
  obtain ⟨v0, vs0, d0, ds0, p0, q0, hargs, rfl, rfl, h0, r0⟩ := trodAll_cons hA
  obtain ⟨v1, vs1, d1, ds1, p1, q1, rfl, rfl, rfl, h1, r1⟩ := trodAll_cons r0
  obtain ⟨rfl, rfl, rfl⟩ := trodAll_nil r1
  obtain rfl : args = #[v0, v1] := Array.toList_inj.1 hargs
  obtain ⟨x0, rfl, rfl, rfl, w0⟩ := open_int Tryd.underlying5 (hval 0 5 v0 rfl rfl) h0
  obtain ⟨x1, rfl, rfl, rfl, w1⟩ := open_int Tryd.underlying5 (hval 1 5 v1 rfl rfl) h1
  exact bridge_law x0 x1 W (errT_of_laid g.laid) (wfu8 w0).1 (wfu8 w0).2 (wfu8 w1).1 (wfu8 w1).2

theorem cutBridge_row : Rows.CutBridgeSaid :=
  OpenClaim.holds_of_wide 5 Tryd.f5 rfl rfl rfl rfl rfl rfl rfl ⟨rfl, rfl, rfl, rfl, rfl⟩ rfl rfl rfl rfl rfl (by kernel_rfl) Tryd.func5 (by kernel_rfl)
    (of_decide_eq_true (by kernel_rfl)) (by unfold Func.isWrapper; rw [if_neg (of_decide_eq_false (by kernel_rfl))]; exact ⟨rfl, rfl⟩)
    (fun os started H enc _ => law_lifted (s := Rows.cutBridgeSpec) (L := laidAll) Tryd.func5 (by kernel_rfl) rfl (by kernel_rfl)
      (fun H ds hl => by
        rw [Tryd.params5] at hl
        match ds, hl with
        | [_, _], _ => exact ⟨rfl, rfl, rfl⟩)
      (by kernel_rfl) os started H enc
      (ChangeSpec.witness_at (enc := enc) (C := Tryd.checked) (os := os) (X := fun w _ => laidMetH Tryd.prog laidAll w) false (laidWorld os) #[.int .u8 0, .int .u8 0] 8 rfl (by kernel_rfl) (by kernel_rfl) (by kernel_rfl) (by kernel_rfl) (by kernel_rfl) (laidWorld_met os _))
      cutBridge_walks)

theorem cutBridge_card : Rows.CutBridgeCardSaid :=
  Claim7.holds_tied_plain_at .later [] laidKindsAll true (Rows.cutBridgeCard.stood.harness) true
    cutBridge_row (fun _ h => by cases h) (by kernel_rfl) (fun _ h => by cases h) cutBridge_row_tie rfl ⟨rfl, rfl⟩ (by kernel_rfl) rfl
    (fun f fn hf hfn => by
      obtain rfl : f = 5 := Option.some.inj ((show Tryd.prog.funcNamed "roundsman/roundsmanlaw11.CutBridge" = some 5 by kernel_rfl).symm.trans hf) |>.symm
      obtain rfl : fn = Tryd.f5 := (Option.some.inj (Tryd.func5.symm.trans hfn)).symm
      exact ⟨by kernel_rfl, fun j t ht => by
        rw [Tryd.params5] at ht
        exact stand_all #[5, 5] (by kernel_rfl) j t ht⟩)
    (by kernel_rfl)
#print axioms cutBridge_card
end Go.Proofs.YthfljimgpcignaaDoor
