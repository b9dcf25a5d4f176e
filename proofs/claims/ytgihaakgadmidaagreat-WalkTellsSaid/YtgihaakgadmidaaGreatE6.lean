/-
  The law's own ring: three vertices, four arcs, three tables.
-/
import Derived.Test.YtgihaakgadmidaaGreatA1
import Derived.Test.YtgihaakgadmidaaGreatRNetA
import Derived.Test.YtgihaakgadmidaaGreatLawN
import Derived.Test.YtgihaakgadmidaaGreatE5
import Derived.Test.YtgihaakgadmidaaGreatRInts
namespace Go.Proofs.YtgihaakgadmidaaGreat
open Go.RowKit

def ringN : NetD := ⟨[(0, 0, 1), (10, 0, 2), (5, 8, 0)], [(0, 1, 10), (1, 2, 20), (2, 0, 30), (1, 0, 40)], [(1, 1, [2]), (2, 1, [0, 1152921504606846976]), (1, 2, [1, 5])]⟩
end Go.Proofs.YtgihaakgadmidaaGreat

/-
  The law's own ring, of which one vertex is put to another Type; the law's own sample of known answers.
-/
namespace Go.Proofs.YtgihaakgadmidaaGreat
open Go.RowKit

theorem ringN_ok : chkN ringN = fltOK := by decide
theorem ringN_good : NetGood ringN := good_of (by rw [ringN_ok]; rfl)
theorem ringN_in : InNet ringN := by
  refine ⟨?_, ?_, ?_⟩
  · intro x hx; simp [ringN] at hx; rcases hx with rfl | rfl | rfl <;> simp
  · intro x hx; simp [ringN] at hx; rcases hx with rfl | rfl | rfl | rfl <;> simp
  · intro x hx; simp [ringN] at hx; rcases hx with rfl | rfl | rfl <;> (refine ⟨by simp, by simp, ?_⟩; intro y hy; simp at hy; omega)
theorem ringN_few : NetFew ringN := ⟨by decide, by decide, by decide, by decide⟩
end Go.Proofs.YtgihaakgadmidaaGreat

/-
  The law's own ring; its own sample of known answers.
-/
namespace Go.Proofs.YtgihaakgadmidaaGreat
open Go.RowKit

set_option maxRecDepth 100000 in
set_option maxHeartbeats 2000000 in
theorem ring6_any (w : World) : Calls Tryz.prog 20 #[] w fun e w' => ∃ v, e = .returned v ∧ NetV w' v ringN ∧ Below w.heap.size w w' := by
  go_enter Tryz.func20, Tryz.ntmps20
  go_wp2
  refine bodyPost_ret (v := .agg #[.slice (some ⟨w.heap.size + 1 + 1 + 1 + 1 + 1 + 1 + 1, 0, none⟩) 3 3, .slice (some ⟨w.heap.size + 1 + 1 + 1 + 1 + 1 + 1 + 1 + 1, 0, none⟩) 4 4, .slice (some ⟨w.heap.size + 1 + 1 + 1 + 1 + 1 + 1 + 1 + 1 + 1, 0, none⟩) 3 3]) (by simp [results, Tryz.results20, go_sem]) rfl ⟨_, rfl, ⟨_, _, _, rfl, Or.inr ⟨by decide, w.heap.size + 1 + 1 + 1 + 1 + 1 + 1 + 1, 0, 3, by decide, by decide, rfl, fun i hi => ?_⟩, Or.inr ⟨by decide, w.heap.size + 1 + 1 + 1 + 1 + 1 + 1 + 1 + 1, 0, 4, by decide, by decide, rfl, fun i hi => ?_⟩, Or.inr ⟨by decide, w.heap.size + 1 + 1 + 1 + 1 + 1 + 1 + 1 + 1 + 1, 0, 3, by decide, by decide, rfl, fun i hi => ?_⟩⟩, ?_⟩
  · match i, hi with
    | 0, _ => refine ⟨?_, ?_, ?_⟩ <;> (simp only [ringN]; go_simp; try rfl)
    | 1, _ => refine ⟨?_, ?_, ?_⟩ <;> (simp only [ringN]; go_simp; try rfl)
    | 2, _ => refine ⟨?_, ?_, ?_⟩ <;> (simp only [ringN]; go_simp; try rfl)
  · match i, hi with
    | 0, _ => refine ⟨?_, ?_, ?_⟩ <;> (simp only [ringN]; go_simp; try rfl)
    | 1, _ => refine ⟨?_, ?_, ?_⟩ <;> (simp only [ringN]; go_simp; try rfl)
    | 2, _ => refine ⟨?_, ?_, ?_⟩ <;> (simp only [ringN]; go_simp; try rfl)
    | 3, _ => refine ⟨?_, ?_, ?_⟩ <;> (simp only [ringN]; go_simp; try rfl)
  · match i, hi with
    | 0, _ =>
      refine ⟨.slice (some ⟨w.heap.size + 1, 0, none⟩) 1 1, by (simp only [ringN]; go_simp; try rfl), by (simp only [ringN]; go_simp; try rfl), by (go_simp; try rfl), Or.inr ⟨by simp [ringN], w.heap.size + 1, 0, 1, by simp [ringN], by decide, rfl, fun j hj => ?_⟩⟩
      match j, hj with
      | 0, _ => (simp only [ringN]; go_simp; try rfl)
    | 1, _ =>
      refine ⟨.slice (some ⟨w.heap.size + 1 + 1 + 1, 0, none⟩) 2 2, by (simp only [ringN]; go_simp; try rfl), by (simp only [ringN]; go_simp; try rfl), by (go_simp; try rfl), Or.inr ⟨by simp [ringN], w.heap.size + 1 + 1 + 1, 0, 2, by simp [ringN], by decide, rfl, fun j hj => ?_⟩⟩
      match j, hj with
      | 0, _ => (simp only [ringN]; go_simp; try rfl)
      | 1, _ => (simp only [ringN]; go_simp; try rfl)
    | 2, _ =>
      refine ⟨.slice (some ⟨w.heap.size + 1 + 1 + 1 + 1 + 1, 0, none⟩) 2 2, by (simp only [ringN]; go_simp; try rfl), by (simp only [ringN]; go_simp; try rfl), by (go_simp; try rfl), Or.inr ⟨by simp [ringN], w.heap.size + 1 + 1 + 1 + 1 + 1, 0, 2, by simp [ringN], by decide, rfl, fun j hj => ?_⟩⟩
      match j, hj with
      | 0, _ => (simp only [ringN]; go_simp; try rfl)
      | 1, _ => (simp only [ringN]; go_simp; try rfl)
  · iterate 10 (refine Below.alloc ?_ (by simp <;> omega) _)
    exact Below.refl _ _

theorem ringN_gr : GrN ringN := ⟨ringN_good, ringN_few, ringN_in⟩
end Go.Proofs.YtgihaakgadmidaaGreat
