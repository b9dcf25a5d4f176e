/-
  PROVED: Points that are moved all alike, edges that are told the other way round, or from a point to itself, leave the splits as they are; for any points, edges and two numbers.
-/
import Derived.Test.YthfljimgpcignaaDoorL11Moved
import Derived.Test.YthfljimgpcignaaDoorCuE
import Derived.Test.YthfljimgpcignaaDoorLaid9
import Derived.Test.YthfljimgpcignaaDoorLift
import Derived.Test.YthfljimgpcignaaDoorCards
import Derived.Test.YthfljimgpcignaaDoorTie
import Derived.SevenTiedAt
namespace Go.Proofs.YthfljimgpcignaaDoor
open Go.ChangeShapes Go.WideShapes Go.ChangeAt Go.RowKit Go.Sort

theorem wfi16 {a : Int} (h : (Lit.int .i16 a).wf = true) : -32768 ≤ a ∧ a ≤ 32767 := by
  simpa [Lit.wf, IntKind.min, IntKind.max, IntKind.signed, IntKind.bits] using h
theorem moved_law (pv : Value) (l : List (Int × Int)) (ev : Value) (es : List (Int × Int)) (dx dy : Int) (w : World) (hg : ErrT w) (hp : Prs w pv l) (_ : InPrs l) (he : Prs w ev es) (_ : InPrs es) (h0 : -32768 ≤ dx) (h1 : dx ≤ 32767) (h2 : -32768 ≤ dy) (h3 : dy ≤ 32767) :
    Calls Tryd.prog 4 #[pv, ev, .int .i16 dx, .int .i16 dy] w fun e w' => e = .returned (.bool true) ∧ Below w.heap.size w w' :=
  moved_walk pv ev l es dx dy w (known11_any w hg) call_is hp he (Lib.hid ⟨⟨h0, h1⟩, h2, h3⟩)
set_option maxRecDepth 100000 in
theorem cutMoved_walks : Walks laidAll 4 Tryd.f4 := by
  intro H enc W args ds g
  obtain ⟨ps, hA⟩ := g.reads
  obtain ⟨base, hval⟩ := g.okay
  rw [Tryd.params4] at hA hval
  obtain ⟨v0, vs0, d0, ds0, p0, q0, hargs, rfl, rfl, h0, r0⟩ := trodAll_cons hA
  obtain ⟨v1, vs1, d1, ds1, p1, q1, rfl, rfl, rfl, h1, r1⟩ := trodAll_cons r0
  obtain ⟨v2, vs2, d2, ds2, p2, q2, rfl, rfl, rfl, h2, r2⟩ := trodAll_cons r1
  obtain ⟨v3, vs3, d3, ds3, p3, q3, rfl, rfl, rfl, h3, r3⟩ := trodAll_cons r2
  obtain ⟨rfl, rfl, rfl⟩ := trodAll_nil r3
  obtain rfl : args = #[v0, v1, v2, v3] := Array.toList_inj.1 hargs
  obtain ⟨x0, w0, u0⟩ := open_edges (hval 0 22 v0 rfl rfl) h0
  obtain ⟨x1, w1, u1⟩ := open_edges (hval 1 22 v1 rfl rfl) h1
  obtain ⟨x2, rfl, rfl, rfl, w2⟩ := open_int Tryd.underlying41 (hval 2 41 v2 rfl rfl) h2
  obtain ⟨x3, rfl, rfl, rfl, w3⟩ := open_int Tryd.underlying41 (hval 3 41 v3 rfl rfl) h3
  exact moved_law v0 x0 v1 x1 x2 x3 W (errT_of_laid g.laid) w0 u0 w1 u1 (wfi16 w2).1 (wfi16 w2).2 (wfi16 w3).1 (wfi16 w3).2

theorem cutMoved_row : Rows.CutMovedSaid :=
  OpenClaim.holds_of_wide 4 Tryd.f4 rfl rfl rfl rfl rfl rfl rfl ⟨rfl, rfl, rfl, rfl, rfl⟩ rfl rfl rfl rfl rfl (by kernel_rfl) Tryd.func4 (by kernel_rfl)
    (of_decide_eq_true (by kernel_rfl)) (by unfold Func.isWrapper; rw [if_neg (of_decide_eq_false (by kernel_rfl))]; exact ⟨rfl, rfl⟩)
    (fun os started H enc _ => law_lifted (s := Rows.cutMovedSpec) (L := laidAll) Tryd.func4 (by kernel_rfl) rfl (by kernel_rfl)
      (fun H ds hl => by
        rw [Tryd.params4] at hl
        match ds, hl with
        | [_, _, _, _], _ => exact ⟨rfl, rfl, rfl⟩)
      (by kernel_rfl) os started H enc
      (ChangeSpec.witness_at (enc := enc) (C := Tryd.checked) (os := os) (X := fun w _ => laidMetH Tryd.prog laidAll w) false (laidWorld os) #[.slice none 0 0, .slice none 0 0, .int .i16 0, .int .i16 0] 8 rfl (by kernel_rfl) (by kernel_rfl) (by kernel_rfl) (by kernel_rfl) (by kernel_rfl) (laidWorld_met os _))
      cutMoved_walks)

theorem cutMoved_card : Rows.CutMovedCardSaid :=
  Claim7.holds_tied_plain_at .later [] laidKindsAll true (Rows.cutMovedCard.stood.harness) true
    cutMoved_row (fun _ h => by cases h) (by kernel_rfl) (fun _ h => by cases h) cutMoved_row_tie rfl ⟨rfl, rfl⟩ (by kernel_rfl) rfl
    (fun f fn hf hfn => by
      obtain rfl : f = 4 := Option.some.inj ((show Tryd.prog.funcNamed "roundsman/roundsmanlaw11.CutMoved" = some 4 by kernel_rfl).symm.trans hf) |>.symm
      obtain rfl : fn = Tryd.f4 := (Option.some.inj (Tryd.func4.symm.trans hfn)).symm
      exact ⟨by kernel_rfl, fun j t ht => by
        rw [Tryd.params4] at ht
        exact stand_all #[22, 22, 41, 41] (by kernel_rfl) j t ht⟩)
    (by kernel_rfl)
#print axioms cutMoved_card
end Go.Proofs.YthfljimgpcignaaDoor
