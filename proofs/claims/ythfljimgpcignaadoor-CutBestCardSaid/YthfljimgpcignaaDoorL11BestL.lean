/-
  PROVED: No split of the twelve crosses fewer edges than the best, none that crosses as few is nearer to half, none ahead of it is as good; for any points and edges.
-/
import Derived.Test.YthfljimgpcignaaDoorL11Best
import Derived.Test.YthfljimgpcignaaDoorCuE
import Derived.Test.YthfljimgpcignaaDoorLaid9
import Derived.Test.YthfljimgpcignaaDoorLift
import Derived.Test.YthfljimgpcignaaDoorCards
import Derived.Test.YthfljimgpcignaaDoorTie
import Derived.SevenTiedAt
namespace Go.Proofs.YthfljimgpcignaaDoor
open Go.ChangeShapes Go.WideShapes Go.ChangeAt Go.RowKit Go.Sort

theorem best_law (pv : Value) (l : List (Int × Int)) (ev : Value) (es : List (Int × Int)) (w : World) (hg : ErrT w) (hp : Prs w pv l) (_ : InPrs l) (he : Prs w ev es) (_ : InPrs es) :
    Calls Tryd.prog 3 #[pv, ev] w fun e w' => e = .returned (.bool true) ∧ Below w.heap.size w w' :=
  best_walk pv ev l es w (known11_any w hg) call_is cbest_is hp he
set_option maxRecDepth 100000 in
theorem cutBest_walks : Walks laidAll 3 Tryd.f3 := by
  intro H enc W args ds g
  obtain ⟨ps, hA⟩ := g.reads
  obtain ⟨base, hval⟩ := g.okay
  rw [Tryd.params3] at hA hval
  obtain ⟨v0, vs0, d0, ds0, p0, q0, hargs, rfl, rfl, h0, r0⟩ := trodAll_cons hA
  obtain ⟨v1, vs1, d1, ds1, p1, q1, rfl, rfl, rfl, h1, r1⟩ := trodAll_cons r0
  obtain ⟨rfl, rfl, rfl⟩ := trodAll_nil r1
  obtain rfl : args = #[v0, v1] := Array.toList_inj.1 hargs
  obtain ⟨x0, w0, u0⟩ := open_edges (hval 0 22 v0 rfl rfl) h0
  obtain ⟨x1, w1, u1⟩ := open_edges (hval 1 22 v1 rfl rfl) h1
  exact best_law v0 x0 v1 x1 W (errT_of_laid g.laid) w0 u0 w1 u1

theorem cutBest_row : Rows.CutBestSaid :=
  OpenClaim.holds_of_wide 3 Tryd.f3 rfl rfl rfl rfl rfl rfl rfl ⟨rfl, rfl, rfl, rfl, rfl⟩ rfl rfl rfl rfl rfl (by kernel_rfl) Tryd.func3 (by kernel_rfl)
    (of_decide_eq_true (by kernel_rfl)) (by unfold Func.isWrapper; rw [if_neg (of_decide_eq_false (by kernel_rfl))]; exact ⟨rfl, rfl⟩)
    (fun os started H enc _ => law_lifted (s := Rows.cutBestSpec) (L := laidAll) Tryd.func3 (by kernel_rfl) rfl (by kernel_rfl)
      (fun H ds hl => by
        rw [Tryd.params3] at hl
        match ds, hl with
        | [_, _], _ => exact ⟨rfl, rfl, rfl⟩)
      (by kernel_rfl) os started H enc
      (ChangeSpec.witness_at (enc := enc) (C := Tryd.checked) (os := os) (X := fun w _ => laidMetH Tryd.prog laidAll w) false (laidWorld os) #[.slice none 0 0, .slice none 0 0] 8 rfl (by kernel_rfl) (by kernel_rfl) (by kernel_rfl) (by kernel_rfl) (by kernel_rfl) (laidWorld_met os _))
      cutBest_walks)

theorem cutBest_card : Rows.CutBestCardSaid :=
  Claim7.holds_tied_plain_at .later [] laidKindsAll true (Rows.cutBestCard.stood.harness) true
    cutBest_row (fun _ h => by cases h) (by kernel_rfl) (fun _ h => by cases h) cutBest_row_tie rfl ⟨rfl, rfl⟩ (by kernel_rfl) rfl
    (fun f fn hf hfn => by
      obtain rfl : f = 3 := Option.some.inj ((show Tryd.prog.funcNamed "roundsman/roundsmanlaw11.CutBest" = some 3 by kernel_rfl).symm.trans hf) |>.symm
      obtain rfl : fn = Tryd.f3 := (Option.some.inj (Tryd.func3.symm.trans hfn)).symm
      exact ⟨by kernel_rfl, fun j t ht => by
        rw [Tryd.params3] at ht
        exact stand_all #[22, 22] (by kernel_rfl) j t ht⟩)
    (by kernel_rfl)
#print axioms cutBest_card
end Go.Proofs.YthfljimgpcignaaDoor
