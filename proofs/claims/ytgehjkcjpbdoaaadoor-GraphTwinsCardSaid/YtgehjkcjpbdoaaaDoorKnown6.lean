/-
  The law's own ring; its own sample of known answers.
-/
import Derived.Test.YtgehjkcjpbdoaaaDoorE5
import Derived.Test.YtgehjkcjpbdoaaaDoorKnown3
import Derived.Test.YtgehjkcjpbdoaaaDoorRInts
namespace Go.Proofs.YtgehjkcjpbdoaaaDoor
open Go.RowKit

set_option maxRecDepth 100000 in
set_option maxHeartbeats 2000000 in
theorem ring6_any (w : World) : Calls Tryd.prog 14 #[] w fun e w' => ∃ v, e = .returned v ∧ NetV w' v ringN ∧ Below w.heap.size w w' := by
  go_enter Tryd.func14, Tryd.ntmps14
  go_wp2
  refine bodyPost_ret (v := .agg #[.slice (some ⟨w.heap.size + 1 + 1 + 1 + 1 + 1 + 1 + 1, 0, none⟩) 3 3, .slice (some ⟨w.heap.size + 1 + 1 + 1 + 1 + 1 + 1 + 1 + 1, 0, none⟩) 4 4, .slice (some ⟨w.heap.size + 1 + 1 + 1 + 1 + 1 + 1 + 1 + 1 + 1, 0, none⟩) 3 3]) (by simp [results, Tryd.results14, go_sem]) rfl ⟨_, rfl, ⟨_, _, _, rfl, Or.inr ⟨by decide, w.heap.size + 1 + 1 + 1 + 1 + 1 + 1 + 1, 0, 3, by decide, by decide, rfl, fun i hi => ?_⟩, Or.inr ⟨by decide, w.heap.size + 1 + 1 + 1 + 1 + 1 + 1 + 1 + 1, 0, 4, by decide, by decide, rfl, fun i hi => ?_⟩, Or.inr ⟨by decide, w.heap.size + 1 + 1 + 1 + 1 + 1 + 1 + 1 + 1 + 1, 0, 3, by decide, by decide, rfl, fun i hi => ?_⟩⟩, ?_⟩
  · match i, hi with
    | 0, _ => refine ⟨?_, ?_, ?_⟩ <;> (simp only [ringN]; go_simp; try rfl)
    | 1, _ => refine ⟨?_, ?_, ?_⟩ <;> (simp only [ringN]; go_simp; try rfl)
    | 2, _ => refine ⟨?_, ?_, ?_⟩ <;> (simp only [ringN]; go_simp; try rfl)
  · match i, hi with
    | 0, _ => refine ⟨?_, ?_, ?_⟩ <;> (simp only [ringN]; go_simp; try rfl)
    | 1, _ => refine ⟨?_, ?_, ?_⟩ <;> (simp only [ringN]; go_simp; try rfl)
    | 2, _ => refine ⟨?_, ?_, ?_⟩ <;> (simp only [ringN]; go_simp; try rfl)
    | 3, _ => refine ⟨?_, ?_, ?_⟩ <;> (simp only [ringN]; go_simp; try rfl)
  · match i, hi with
    | 0, _ =>
      refine ⟨.slice (some ⟨w.heap.size + 1, 0, none⟩) 1 1, by (simp only [ringN]; go_simp; try rfl), by (simp only [ringN]; go_simp; try rfl), by (go_simp; try rfl), Or.inr ⟨by simp [ringN], w.heap.size + 1, 0, 1, by simp [ringN], by decide, rfl, fun j hj => ?_⟩⟩
      match j, hj with
      | 0, _ => (simp only [ringN]; go_simp; try rfl)
    | 1, _ =>
      refine ⟨.slice (some ⟨w.heap.size + 1 + 1 + 1, 0, none⟩) 2 2, by (simp only [ringN]; go_simp; try rfl), by (simp only [ringN]; go_simp; try rfl), by (go_simp; try rfl), Or.inr ⟨by simp [ringN], w.heap.size + 1 + 1 + 1, 0, 2, by simp [ringN], by decide, rfl, fun j hj => ?_⟩⟩
      match j, hj with
      | 0, _ => (simp only [ringN]; go_simp; try rfl)
      | 1, _ => (simp only [ringN]; go_simp; try rfl)
    | 2, _ =>
      refine ⟨.slice (some ⟨w.heap.size + 1 + 1 + 1 + 1 + 1, 0, none⟩) 2 2, by (simp only [ringN]; go_simp; try rfl), by (simp only [ringN]; go_simp; try rfl), by (go_simp; try rfl), Or.inr ⟨by simp [ringN], w.heap.size + 1 + 1 + 1 + 1 + 1, 0, 2, by simp [ringN], by decide, rfl, fun j hj => ?_⟩⟩
      match j, hj with
      | 0, _ => (simp only [ringN]; go_simp; try rfl)
      | 1, _ => (simp only [ringN]; go_simp; try rfl)
  · iterate 10 (refine Below.alloc ?_ (by simp <;> omega) _)
    exact Below.refl _ _

def ringS : NetD := ⟨[(0, 0, 1), (10, 0, 2), (5, 8, 0)], [(0, 1, 10), (1, 2, 20), (2, 0, 30), (1, 0, 7)], [(1, 1, [2]), (2, 1, [0, 1152921504606846976]), (1, 2, [1, 5])]⟩
def ringB : NetD := ⟨[(0, 0, 1), (10, 0, 2), (5, 8, 0)], [(0, 1, 10), (1, 2, 20), (2, 0, 30), (1, 0, 7)], [(1, 1, [2]), (2, 1, [0, 1152921504606846976]), (1, 2, [1, 1152921504606846976])]⟩
theorem ringN_gr : GrN ringN := ⟨ringN_good, ringN_few, ringN_in⟩
theorem ringN_set : (⟨ringN.v, ringN.a.set 3 ((ringN.a[3]'(by decide)).1, (ringN.a[3]'(by decide)).2.1, 7), ringN.t⟩ : NetD) = ringS := rfl
theorem ringS_bend : (⟨ringS.v, ringS.a, ringS.t.set 2 ((ringS.t[2]'(by decide)).1, (ringS.t[2]'(by decide)).2.1, (ringS.t[2]'(by decide)).2.2.set (0 * (ringS.t[2]'(by decide)).2.1 + 1).toNat 1152921504606846976)⟩ : NetD) = ringB := rfl
theorem lit_ints (w : World) (l : List Int) (hl : l.length ≤ 1000) (n : Nat) (hn : l.length = n) : I64s (w.alloc (.cells (l.map (Value.int .i64)).toArray 3)) (.slice (some ⟨w.heap.size, 0, none⟩) n n) l := by
  subst hn
  refine Or.inr ⟨by omega, w.heap.size, 0, l.length, Nat.le_refl _, by omega, rfl, fun i hi => ?_⟩
  rw [Nat.zero_add]
  exact (Blk.new w _ _ _ rfl).cell i (by simp [hi])

set_option maxHeartbeats 8000000 in
set_option maxRecDepth 100000 in
theorem known6_any (w0 : World) (hg : ErrT w0) : Calls Tryd.prog 4 #[] w0 fun e w' => e = .returned (.bool true) ∧ Below w0.heap.size w0 w' := by
  have HG := Lib.hid hg
  clear hg
  go_enter Tryd.func4, Tryd.ntmps4
  go_wp2_with fail
  refine (ring6_any w0).mono ?_
  rintro e w1 ⟨v1, rfl, hv1, hb1⟩
  have V1 := Lib.hid hv1
  have B1 := Lib.hid hb1
  clear hv1 hb1
  go_wp2_with fail
  refine (vtoF V1.out ringN_few).mono ?_
  rintro e w2 ⟨v2, rfl, hv2, hb2⟩
  have V2 := Lib.hid hv2
  have B2 := Lib.hid (bOn6 B1.out hb2)
  clear hv2 hb2 V1 B1
  go_wp2_with fail
  refine (vNewG B2.out V2.out ringN_gr ringN_ok).mono ?_
  rintro e w3 ⟨p, va, vt, rfl, hG, hb⟩
  have G := Lib.hid hG
  clear hG hb V2 B2
  go_wp2_with fail
  refine (vSetG (k := 3) G.out (by decide) (c := 7) (by decide) ringN_set).mono ?_
  rintro e w4 ⟨rfl, hG, -⟩
  clear G
  have G := Lib.hid hG
  clear hG
  go_wp2_with fail
  refine (vBendG (k := 2) G.out (by decide) (x := 0) (y := 1) (c := 1152921504606846976) (by decide) (by decide) ringS_bend).mono ?_
  rintro e w5 ⟨rfl, hG, -⟩
  clear G
  have G := Lib.hid hG
  clear hG
  go_wp2_with fail
  refine (vPlace G.out.g (k := 3) (by decide) (X := 1) (Y := 1) (by decide) (by decide)).mono ?_
  rintro e w' ⟨rfl, hb⟩
  have GP := G
  clear G
  have G := Lib.hid (GP.out.old hb)
  clear hb GP
  go_wp2_with fail
  refine (vVerts G.out.g).mono ?_
  rintro e w' ⟨rfl, hb⟩
  have GP := G
  clear G
  have G := Lib.hid (GP.out.old hb)
  clear hb GP
  go_wp2_with fail
  refine (vArcs G.out.g).mono ?_
  rintro e w' ⟨rfl, hb⟩
  have GP := G
  clear G
  have G := Lib.hid (GP.out.old hb)
  clear hb GP
  go_wp2_with fail
  refine (vFrom G.out.g (k := 3) (by decide) (X := 1) (by decide)).mono ?_
  rintro e w' ⟨rfl, hb⟩
  have GP := G
  clear G
  have G := Lib.hid (GP.out.old hb)
  clear hb GP
  go_wp2_with fail
  refine (vTo G.out.g (k := 3) (by decide) (X := 0) (by decide)).mono ?_
  rintro e w' ⟨rfl, hb⟩
  have GP := G
  clear G
  have G := Lib.hid (GP.out.old hb)
  clear hb GP
  go_wp2_with fail
  refine (vFrom0 G.out.g (a := 4) (by decide)).mono ?_
  rintro e w' ⟨rfl, hb⟩
  have GP := G
  clear G
  have G := Lib.hid (GP.out.old hb)
  clear hb GP
  go_wp2_with fail
  refine (vWeight G.out.g (k := 3) (by decide) (X := 7) (by decide)).mono ?_
  rintro e w' ⟨rfl, hb⟩
  have GP := G
  clear G
  have G := Lib.hid (GP.out.old hb)
  clear hb GP
  go_wp2_with fail
  refine (vWeight0 G.out.g (a := -1) (by decide)).mono ?_
  rintro e w' ⟨rfl, hb⟩
  have GP := G
  clear G
  have G := Lib.hid (GP.out.old hb)
  clear hb GP
  go_wp2_with fail
  refine (vTurnG G.out.g G.out.n (a := 0) (b := 3) (X := 1152921504606846976) (by decide)).mono ?_
  rintro e w' ⟨rfl, hb⟩
  have GP := G
  clear G
  have G := Lib.hid (GP.out.old hb)
  clear hb GP
  go_wp2_with fail
  refine (vTurnG G.out.g G.out.n (a := 0) (b := 1) (X := 1) (by decide)).mono ?_
  rintro e w' ⟨rfl, hb⟩
  have GP := G
  clear G
  have G := Lib.hid (GP.out.old hb)
  clear hb GP
  go_wp2_with fail
  refine (vSetE G.out.g 4 1 (by decide) (by decide) (F := ([(graphB, 4)], 5)) rfl (by decide)).mono ?_
  rintro e w' ⟨ev, rfl, hF, hb⟩
  have GP := G
  clear G
  have G := Lib.hid (GP.out.old hb)
  have HF := Lib.hid hF
  clear hb GP hF
  go_wp2_with fail
  refine (at_post graphB 4 5 _).mono ?_
  rintro e w' ⟨wv, rfl, hW, hb⟩
  have GP := G
  clear G
  have G := Lib.hid (GP.out.old hb)
  have HF2 := Lib.hid (HF.out.below hb)
  have HW := Lib.hid hW
  clear hb GP hW HF
  go_wp2_with fail
  refine (tells_post _ _ [(graphB, 4)] 5 _ (HG.out.below HG.out.lt G.out.b) HF2.out HW.out (Or.inr (by simp))).mono ?_
  rintro e w' ⟨rfl, hb⟩
  have GP := G
  clear G
  have G := Lib.hid (GP.out.old hb)
  clear hb GP HF2 HW
  go_wp2_with fail
  refine (vInsG G.out.g G.out.n 0 (l := [2, 3]) (by decide)).mono ?_
  rintro e w8 ⟨v8, rfl, hI, hb⟩
  have GP := G
  clear G
  have G := Lib.hid (GP.out.old hb)
  have HI := Lib.hid hI
  clear hb GP hI
  go_wp2_with fail
  refine (vsameI (B := true) (HI.out.below (below_new _)) (lit_ints w8 [2, 3] (by decide) 2 rfl) (by decide)).mono ?_
  rintro e w' ⟨rfl, hb⟩
  have GP := G
  clear G
  have G := Lib.hid ((GP.out.old (below_new _)).old hb)
  clear hb GP HI
  go_wp2_with fail
  go_ret
  exact ⟨rfl, G.out.b⟩

end Go.Proofs.YtgehjkcjpbdoaaaDoor
