/-
  The law's own sample of known answers, of tables of turns.
-/
import Derived.Test.YtboimdgldjimpaaDoorTurnH
import Derived.Test.YtboimdgldjimpaaDoorTells
import Derived.Test.YtboimdgldjimpaaDoorGrow
import Derived.Deep.DeepCutAuto
namespace Go.Proofs.YtboimdgldjimpaaDoor
open Go.RowKit

/-- The document's At, whatever the world: a Wrong of one part. -/
theorem at_post (p : ByteArray) (n e : Int) (w : World) : Calls Tryd.prog 27 #[.string p, .int .i64 n, .int .i64 e] w (WPost [(p, n)] e w) := by
  refine (at_any p n e w).mono ?_
  rintro ev w' ⟨rfl, rfl⟩
  exact ⟨_, rfl, wrong_last _ _ (by simp) _ _ _, below_alloc2 _ _⟩

theorem ErrT.keep {w w' : World} (hb : Below w.heap.size w w') (h : ErrT w) : ErrT w' := (hb.cell h.lt).trans h
theorem turnW_or (p : Int × Int) : turnW p = [] ∧ p.2 = 0 ∨ 1 ≤ (turnW p).length ∧ (turnW p).length ≤ 2 ∧ ¬ p.2 = 0 := by
  unfold turnW
  by_cases h : p.2 = 0
  · exact Or.inl ⟨by rw [if_pos h], h⟩
  · exact Or.inr ⟨by rw [if_neg h]; simp, by rw [if_neg h]; simp, h⟩

/-- The law's Tells, of what the program and the document tell alike. -/
theorem tells_post (v wv : Value) (ps : List (ByteArray × Int)) (a : Int) (w : World) (hg : ErrT w) (hF : FaultV w v ps a) (hW : WrongV w wv ps a) (h : ps = [] ∧ a = 0 ∨ 1 ≤ ps.length ∧ ps.length ≤ 2 ∧ ¬ a = 0) :
    Calls Tryd.prog 10 #[v, wv] w fun e w' => e = .returned (.bool true) ∧ Below w.heap.size w w' := by
  rcases h with ⟨rfl, rfl⟩ | ⟨h1, h2, h3⟩
  · obtain rfl := hF.none
    obtain ⟨sv, rfl, _⟩ := hW
    exact tells_nil sv w
  · rcases hF with ⟨rfl, _⟩ | ⟨_, hE⟩
    · simp at h1
    · exact tells_any v wv ps a w hg hE hW h1 h2 h3

theorem TabV.below {w w' : World} {v : Value} {I O : Int} {l : List Int} (h : TabV w v I O l) (hb : Below w.heap.size w w') : TabV w' v I O l := by
  obtain ⟨u, e, h⟩ := h
  exact ⟨u, e, h.below hb⟩

def sixL : List Int := [0, 0, 0, 0, 0, 0]
def sixU : List Int := [0, 0, 0, 0, 0, 1152921504606846976]
def twoB : List Int := [1152921504606846976, 0, 0, 1152921504606846976]

theorem free23 (w : World) : Calls Tryd.prog 22 #[.int .i64 2, .int .i64 3] w (TEPost 2 3 sixL [] 0 w) := by
  have h := tfree_any 2 3 w
  have e : freeS 2 3 = ((2, 3, sixL), (0, 0)) := by decide
  rw [e] at h
  exact h
theorem back2 (w : World) : Calls Tryd.prog 24 #[.int .i64 2] w (TEPost 2 2 twoB [] 0 w) := by
  have h := tback_any 2 w
  have e : backS 2 = ((2, 2, twoB), (0, 0)) := by decide
  rw [e] at h
  exact h
theorem with12 (u : Value) (w : World) (hu : I64s w u sixL) : Calls Tryd.prog 15 #[.agg #[.int .i64 2, .int .i64 3, u], .int .i64 1, .int .i64 2, .int .i64 1152921504606846976] w (TEPost 2 3 sixU [] 0 w) := by
  have h := twith_any 2 3 u sixL 1 2 1152921504606846976 w (by decide) hu (by intro x hx; simp [sixL] at hx; omega) (by omega) (by omega)
  unfold WithPost at h
  have e : withT 2 3 sixL 1 2 1152921504606846976 = (2, 3, sixU) := by decide
  have e2 : withW 2 3 1 2 1152921504606846976 = (0, 0) := by decide
  rw [e, e2] at h
  exact h
theorem with20 (u : Value) (w : World) (hu : I64s w u sixL) : Calls Tryd.prog 15 #[.agg #[.int .i64 2, .int .i64 3, u], .int .i64 2, .int .i64 0, .int .i64 1] w (TEPost 0 0 [] [(turnB, 0)] 5 w) := by
  have h := twith_any 2 3 u sixL 2 0 1 w (by decide) hu (by intro x hx; simp [sixL] at hx; omega) (by omega) (by omega)
  unfold WithPost at h
  have e : withT 2 3 sixL 2 0 1 = (0, 0, []) := by decide
  have e2 : withW 2 3 2 0 1 = (0, 5) := by decide
  rw [e, e2] at h
  exact h

set_option maxHeartbeats 4000000 in
set_option maxRecDepth 100000 in
theorem known2_any (w : World) (hg : ErrT w) : Calls Tryd.prog 8 #[] w fun e w' => e = .returned (.bool true) ∧ Below w.heap.size w w' := by
  have HG := Lib.hid hg
  have hgl := hg.lt
  have HGL := Lib.hid hgl
  clear hg hgl
  have in6 : In64 sixL := by intro x hx; simp [sixL] at hx; omega
  have inU : In64 sixU := by intro x hx; simp [sixU] at hx; omega
  have ck6 : chkT 2 3 sixL = (0, 0) := by decide
  have ckU : chkT 2 3 sixU = (0, 0) := by decide
  go_enter Tryd.func8, Tryd.ntmps8
  go_wp2_with fail
  refine (free23 _).mono ?_
  rintro e w1 ⟨tv, ev, rfl, ⟨tu, rfl, hT⟩, hF, hb⟩
  obtain rfl := hF.none
  obtain ⟨tq, tc, rfl⟩ := hT.shape
  have HB1 := Lib.hid hb
  have HT1 := Lib.hid hT
  clear hT hF hb
  go_wp2_with fail
  obtain ⟨W1, hW1⟩ := named (w1.alloc (.cells #[.int .i64 2, .int .i64 3, .slice tq sixL.length tc] 34))
  rw [← hW1]
  have hb1 : Below w1.heap.size w1 W1 := by rw [hW1]; exact below_alloc1 _
  have K1 : Hid (Blk W1 w1.heap.size #[.int .i64 2, .int .i64 3, .slice tq sixL.length tc] 34) := by rw [hW1]; exact Lib.hid (Blk.new _ _ _ _ rfl)
  have T1 := Lib.hid (HT1.out.below hb1)
  have B1 : Hid (Below w.heap.size w W1) := Lib.hid (HB1.out.trans (hb1.mono HB1.out.size))
  clear hW1 hb1 HT1 HB1
  refine (with12 _ _ T1.out).mono ?_
  rintro e w2 ⟨tv, ev, rfl, ⟨uu, rfl, hT⟩, hF, hb⟩
  obtain rfl := hF.none
  obtain ⟨uq, uc, rfl⟩ := hT.shape
  have K1' := Lib.hid (K1.out.keep hb)
  have T1' := Lib.hid (T1.out.below hb)
  have B2 : Hid (Below w.heap.size w w2) := Lib.hid (B1.out.trans (hb.mono B1.out.size))
  have HT2 := Lib.hid hT
  clear hT hF hb K1 T1 B1
  go_wp2_with fail
  obtain ⟨W2, hW2⟩ := named (w2.alloc (.cells #[.int .i64 2, .int .i64 3, .slice uq sixU.length uc] 34))
  rw [← hW2]
  have hb2 : Below w2.heap.size w2 W2 := by rw [hW2]; exact below_alloc1 _
  have K2 : Hid (Blk W2 w2.heap.size #[.int .i64 2, .int .i64 3, .slice uq sixU.length uc] 34) := by rw [hW2]; exact Lib.hid (Blk.new _ _ _ _ rfl)
  have K1 := Lib.hid (K1'.out.keep hb2)
  have T1 := Lib.hid (T1'.out.below hb2)
  have T2 := Lib.hid (HT2.out.below hb2)
  have B3 : Hid (Below w.heap.size w W2) := Lib.hid (B2.out.trans (hb2.mono B2.out.size))
  clear hW2 hb2 HT2 K1' T1' B2
  refine (back2 _).mono ?_
  rintro e w3 ⟨tv, ev, rfl, ⟨bu, rfl, hT⟩, hF, hb⟩
  obtain rfl := hF.none
  obtain ⟨bq, bc, rfl⟩ := hT.shape
  have K1' := Lib.hid (K1.out.keep hb)
  have T1' := Lib.hid (T1.out.below hb)
  have K2' := Lib.hid (K2.out.keep hb)
  have T2' := Lib.hid (T2.out.below hb)
  have B4 : Hid (Below w.heap.size w w3) := Lib.hid (B3.out.trans (hb.mono B3.out.size))
  have HT3 := Lib.hid hT
  clear hT hF hb K1 T1 K2 T2 B3
  have q1 := (K1'.out.old (.cells #[.int .i64 2, .int .i64 2, .slice bq twoB.length bc] 34)).o3
  obtain ⟨x0, x1, x2, -, -, -⟩ := q1
  go_wp2_with fail
  obtain ⟨W3, hW3⟩ := named (w3.alloc (.cells #[.int .i64 2, .int .i64 2, .slice bq twoB.length bc] 34))
  rw [← hW3] at x0 x1 x2 ⊢
  have hb3 : Below w3.heap.size w3 W3 := by rw [hW3]; exact below_alloc1 _
  have K3 : Hid (Blk W3 w3.heap.size #[.int .i64 2, .int .i64 2, .slice bq twoB.length bc] 34) := by rw [hW3]; exact Lib.hid (Blk.new _ _ _ _ rfl)
  have K1 := Lib.hid (K1'.out.keep hb3)
  have T1 := Lib.hid (T1'.out.below hb3)
  have K2 := Lib.hid (K2'.out.keep hb3)
  have T2 := Lib.hid (T2'.out.below hb3)
  have T3 := Lib.hid (HT3.out.below hb3)
  have B5 : Hid (Below w.heap.size w W3) := Lib.hid (B4.out.trans (hb3.mono B4.out.size))
  clear hW3 hb3 HT3 K1' T1' K2' T2' B4 x0 x1 x2
  refine (with20 _ _ T1.out).mono ?_
  rintro e w4 ⟨tv, ev, rfl, ⟨zu, rfl, hT⟩, hF, hb⟩
  obtain ⟨fb, rfl, hE⟩ := hF.iface
  obtain ⟨zq, zc, rfl⟩ := hT.shape
  have hb4 := below_alloc1 (w := w4) (.cells #[.int .i64 0, .int .i64 0, .slice zq ([] : List Int).length zc] 34)
  have K1' := Lib.hid ((K1.out.keep hb).keep hb4)
  have T1' := Lib.hid ((T1.out.below hb).below hb4)
  have K2' := Lib.hid ((K2.out.keep hb).keep hb4)
  have T2' := Lib.hid ((T2.out.below hb).below hb4)
  have K3' := Lib.hid ((K3.out.keep hb).keep hb4)
  have T3' := Lib.hid ((T3.out.below hb).below hb4)
  have E4 := Lib.hid (hF.below hb4)
  have B6 : Hid (Below w.heap.size w (w4.alloc (.cells #[.int .i64 0, .int .i64 0, .slice zq ([] : List Int).length zc] 34))) := Lib.hid (B5.out.trans ((hb.trans (hb4.mono hb.size)).mono B5.out.size))
  clear hT hF hE hb hb4 K1 T1 K2 T2 K3 T3 B5
  go_upto_region 5 with (fail)
  obtain ⟨W, hW⟩ := named (w4.alloc (.cells #[.int .i64 0, .int .i64 0, .slice zq ([] : List Int).length zc] 34))
  have hWe : w4.alloc (.cells #[.int .i64 0, .int .i64 0, .slice zq 0 zc] 34) = W := hW.symm
  rw [← hW] at K1' T1' K2' T2' K3' T3' E4 B6
  rw [hWe]
  clear hWe hW
  have hGS : Grows (fun w' => Below W.heap.size W w') := Grows.below W
  refine' wp_seqL _ (fun w' => Below W.heap.size W w') [[], [0], [1], [2], [2, 3], [2, 4], [5], [6], [6, 7], [6, 8], [9], [10], [10, 11], [10, 12], [10, 13], [10, 14], [15], [16], [16, 17], [16, 18], [16, 19], [20], [21], [21, 22], [21, 23], [21, 24], [25], [26], [26, 27], [26, 28], [26, 29], [30], [31], [31, 32], [31, 33], [31, 34], [35], [36], [36, 37], [36, 38], [36, 39], [40], [41], [41, 42], [41, 43], [41, 44], [45], [46], [46, 47], [46, 48], [46, 49], [50], [51], [51], [51, 52, 53], [51, 54], [51, 55], [56], [57], [57], [57, 58, 59], [57, 60], [61], [62], [62, 63], [62, 64], [62, 65], [66]] (Fact.lit _ :: Fact.lit _ :: Fact.lit _ :: Fact.lit _ :: Fact.lit _ :: Fact.lit _ :: Fact.lit _ :: Fact.lit _ :: Fact.lit _ :: Fact.lit _ :: Fact.lit _ :: Fact.lit _ :: Fact.lit _ :: Fact.lit _ :: Fact.lit _ :: Fact.lit _ :: Fact.lit _ :: Fact.lit _ :: Fact.lit _ :: Fact.lit _ :: Fact.lit _ :: Fact.lit _ :: Fact.lit _ :: Fact.lit _ :: Fact.lit _ :: Fact.lit _ :: Fact.lit _ :: Fact.lit _ :: Fact.lit _ :: Fact.lit _ :: Fact.lit _ :: Fact.lit _ :: Fact.lit _ :: Fact.lit _ :: Fact.lit _ :: Fact.lit _ :: Fact.lit _ :: Fact.lit _ :: Fact.lit _ :: Fact.lit _ :: Fact.lit _ :: Fact.lit _ :: Fact.lit _ :: Fact.lit _ :: Fact.lit _ :: Fact.lit _ :: Fact.lit _ :: Fact.lit _ :: Fact.lit _ :: Fact.lit _ :: Fact.lit _ :: Fact.lit _ :: Fact.lit _ :: Fact.lit _ :: Fact.lit _ :: Fact.lit _ :: Fact.lit _ :: Fact.lit _ :: Fact.lit _ :: Fact.prop _ _ :: Fact.lit _ :: Fact.lit _ :: Fact.lit _ :: Fact.lit _ :: Fact.lit _ :: Fact.lit _ :: Fact.lit _ :: Fact.lit _ :: []) rfl (by kernel_rfl) (Below.refl _ _) ?seq0
  case' seq0 => skip
  (first | (refine' grow_skip rfl ?wt1 ?put1 ?next1; (case wt1 => rfl)) | (refine' grow_lit rfl ?wt1 ?run1 ?put1 ?next1; (case wt1 => rfl); (case run1 => (intro w' hS H; clear H; (obtain ⟨q0, q1, q2, -, -, -⟩ := (K1'.out.keep hS).o3); (obtain ⟨q3, q4, q5, -, -, -⟩ := (K2'.out.keep hS).o3); (obtain ⟨q6, q7, q8, -, -, -⟩ := (K3'.out.keep hS).o3); clear hS; go_simp; first | done | exact rfl)))); (case put1 => (simp only [Act.put, List.setIfInBounds_toArray, List.set_cons_zero, List.set_cons_succ]; first | done | exact rfl)); (case' next1 => skip)
  (first | (refine' grow_skip rfl ?wt2 ?put2 ?next2; (case wt2 => rfl)) | (refine' grow_lit rfl ?wt2 ?run2 ?put2 ?next2; (case wt2 => rfl); (case run2 => (intro w' hS H; clear H; (obtain ⟨q0, q1, q2, -, -, -⟩ := (K1'.out.keep hS).o3); (obtain ⟨q3, q4, q5, -, -, -⟩ := (K2'.out.keep hS).o3); (obtain ⟨q6, q7, q8, -, -, -⟩ := (K3'.out.keep hS).o3); clear hS; go_simp; first | done | exact rfl)))); (case put2 => (simp only [Act.put, List.setIfInBounds_toArray, List.set_cons_zero, List.set_cons_succ]; first | done | exact rfl)); (case' next2 => skip)
  (first | (refine' grow_skip rfl ?wt3 ?put3 ?next3; (case wt3 => rfl)) | (refine' grow_lit rfl ?wt3 ?run3 ?put3 ?next3; (case wt3 => rfl); (case run3 => (intro w' hS H; clear H; (obtain ⟨q0, q1, q2, -, -, -⟩ := (K1'.out.keep hS).o3); (obtain ⟨q3, q4, q5, -, -, -⟩ := (K2'.out.keep hS).o3); (obtain ⟨q6, q7, q8, -, -, -⟩ := (K3'.out.keep hS).o3); clear hS; go_simp; first | done | exact rfl)))); (case put3 => (simp only [Act.put, List.setIfInBounds_toArray, List.set_cons_zero, List.set_cons_succ]; first | done | exact rfl)); (case' next3 => skip)
  (first | (refine' grow_skip rfl ?wt4 ?put4 ?next4; (case wt4 => rfl)) | (refine' grow_lit rfl ?wt4 ?run4 ?put4 ?next4; (case wt4 => rfl); (case run4 => (intro w' hS H; clear H; (obtain ⟨q0, q1, q2, -, -, -⟩ := (K1'.out.keep hS).o3); (obtain ⟨q3, q4, q5, -, -, -⟩ := (K2'.out.keep hS).o3); (obtain ⟨q6, q7, q8, -, -, -⟩ := (K3'.out.keep hS).o3); clear hS; go_simp; first | done | exact rfl)))); (case put4 => (simp only [Act.put, List.setIfInBounds_toArray, List.set_cons_zero, List.set_cons_succ]; first | done | exact rfl)); (case' next4 => skip)
  (first | (refine' grow_skip rfl ?wt5 ?put5 ?next5; (case wt5 => rfl)) | (refine' grow_lit rfl ?wt5 ?run5 ?put5 ?next5; (case wt5 => rfl); (case run5 => (intro w' hS H; clear H; (obtain ⟨q0, q1, q2, -, -, -⟩ := (K1'.out.keep hS).o3); (obtain ⟨q3, q4, q5, -, -, -⟩ := (K2'.out.keep hS).o3); (obtain ⟨q6, q7, q8, -, -, -⟩ := (K3'.out.keep hS).o3); clear hS; go_simp; first | done | exact rfl)))); (case put5 => (simp only [Act.put, List.setIfInBounds_toArray, List.set_cons_zero, List.set_cons_succ]; first | done | exact rfl)); (case' next5 => skip)
  (first | (refine' grow_skip rfl ?wt6 ?put6 ?next6; (case wt6 => rfl)) | (refine' grow_lit rfl ?wt6 ?run6 ?put6 ?next6; (case wt6 => rfl); (case run6 => (intro w' hS H; clear H; (obtain ⟨q0, q1, q2, -, -, -⟩ := (K1'.out.keep hS).o3); (obtain ⟨q3, q4, q5, -, -, -⟩ := (K2'.out.keep hS).o3); (obtain ⟨q6, q7, q8, -, -, -⟩ := (K3'.out.keep hS).o3); clear hS; go_simp; first | done | exact rfl)))); (case put6 => (simp only [Act.put, List.setIfInBounds_toArray, List.set_cons_zero, List.set_cons_succ]; first | done | exact rfl)); (case' next6 => skip)
  (first | (refine' grow_skip rfl ?wt7 ?put7 ?next7; (case wt7 => rfl)) | (refine' grow_lit rfl ?wt7 ?run7 ?put7 ?next7; (case wt7 => rfl); (case run7 => (intro w' hS H; clear H; (obtain ⟨q0, q1, q2, -, -, -⟩ := (K1'.out.keep hS).o3); (obtain ⟨q3, q4, q5, -, -, -⟩ := (K2'.out.keep hS).o3); (obtain ⟨q6, q7, q8, -, -, -⟩ := (K3'.out.keep hS).o3); clear hS; go_simp; first | done | exact rfl)))); (case put7 => (simp only [Act.put, List.setIfInBounds_toArray, List.set_cons_zero, List.set_cons_succ]; first | done | exact rfl)); (case' next7 => skip)
  (first | (refine' grow_skip rfl ?wt8 ?put8 ?next8; (case wt8 => rfl)) | (refine' grow_lit rfl ?wt8 ?run8 ?put8 ?next8; (case wt8 => rfl); (case run8 => (intro w' hS H; clear H; (obtain ⟨q0, q1, q2, -, -, -⟩ := (K1'.out.keep hS).o3); (obtain ⟨q3, q4, q5, -, -, -⟩ := (K2'.out.keep hS).o3); (obtain ⟨q6, q7, q8, -, -, -⟩ := (K3'.out.keep hS).o3); clear hS; go_simp; first | done | exact rfl)))); (case put8 => (simp only [Act.put, List.setIfInBounds_toArray, List.set_cons_zero, List.set_cons_succ]; first | done | exact rfl)); (case' next8 => skip)
  (first | (refine' grow_skip rfl ?wt9 ?put9 ?next9; (case wt9 => rfl)) | (refine' grow_lit rfl ?wt9 ?run9 ?put9 ?next9; (case wt9 => rfl); (case run9 => (intro w' hS H; clear H; (obtain ⟨q0, q1, q2, -, -, -⟩ := (K1'.out.keep hS).o3); (obtain ⟨q3, q4, q5, -, -, -⟩ := (K2'.out.keep hS).o3); (obtain ⟨q6, q7, q8, -, -, -⟩ := (K3'.out.keep hS).o3); clear hS; go_simp; first | done | exact rfl)))); (case put9 => (simp only [Act.put, List.setIfInBounds_toArray, List.set_cons_zero, List.set_cons_succ]; first | done | exact rfl)); (case' next9 => skip)
  (first | (refine' grow_skip rfl ?wt10 ?put10 ?next10; (case wt10 => rfl)) | (refine' grow_lit rfl ?wt10 ?run10 ?put10 ?next10; (case wt10 => rfl); (case run10 => (intro w' hS H; clear H; (obtain ⟨q0, q1, q2, -, -, -⟩ := (K1'.out.keep hS).o3); (obtain ⟨q3, q4, q5, -, -, -⟩ := (K2'.out.keep hS).o3); (obtain ⟨q6, q7, q8, -, -, -⟩ := (K3'.out.keep hS).o3); clear hS; go_simp; first | done | exact rfl)))); (case put10 => (simp only [Act.put, List.setIfInBounds_toArray, List.set_cons_zero, List.set_cons_succ]; first | done | exact rfl)); (case' next10 => skip)
  (first | (refine' grow_skip rfl ?wt11 ?put11 ?next11; (case wt11 => rfl)) | (refine' grow_lit rfl ?wt11 ?run11 ?put11 ?next11; (case wt11 => rfl); (case run11 => (intro w' hS H; clear H; (obtain ⟨q0, q1, q2, -, -, -⟩ := (K1'.out.keep hS).o3); (obtain ⟨q3, q4, q5, -, -, -⟩ := (K2'.out.keep hS).o3); (obtain ⟨q6, q7, q8, -, -, -⟩ := (K3'.out.keep hS).o3); clear hS; go_simp; first | done | exact rfl)))); (case put11 => (simp only [Act.put, List.setIfInBounds_toArray, List.set_cons_zero, List.set_cons_succ]; first | done | exact rfl)); (case' next11 => skip)
  (first | (refine' grow_skip rfl ?wt12 ?put12 ?next12; (case wt12 => rfl)) | (refine' grow_lit rfl ?wt12 ?run12 ?put12 ?next12; (case wt12 => rfl); (case run12 => (intro w' hS H; clear H; (obtain ⟨q0, q1, q2, -, -, -⟩ := (K1'.out.keep hS).o3); (obtain ⟨q3, q4, q5, -, -, -⟩ := (K2'.out.keep hS).o3); (obtain ⟨q6, q7, q8, -, -, -⟩ := (K3'.out.keep hS).o3); clear hS; go_simp; first | done | exact rfl)))); (case put12 => (simp only [Act.put, List.setIfInBounds_toArray, List.set_cons_zero, List.set_cons_succ]; first | done | exact rfl)); (case' next12 => skip)
  (first | (refine' grow_skip rfl ?wt13 ?put13 ?next13; (case wt13 => rfl)) | (refine' grow_lit rfl ?wt13 ?run13 ?put13 ?next13; (case wt13 => rfl); (case run13 => (intro w' hS H; clear H; (obtain ⟨q0, q1, q2, -, -, -⟩ := (K1'.out.keep hS).o3); (obtain ⟨q3, q4, q5, -, -, -⟩ := (K2'.out.keep hS).o3); (obtain ⟨q6, q7, q8, -, -, -⟩ := (K3'.out.keep hS).o3); clear hS; go_simp; first | done | exact rfl)))); (case put13 => (simp only [Act.put, List.setIfInBounds_toArray, List.set_cons_zero, List.set_cons_succ]; first | done | exact rfl)); (case' next13 => skip)
  (first | (refine' grow_skip rfl ?wt14 ?put14 ?next14; (case wt14 => rfl)) | (refine' grow_lit rfl ?wt14 ?run14 ?put14 ?next14; (case wt14 => rfl); (case run14 => (intro w' hS H; clear H; (obtain ⟨q0, q1, q2, -, -, -⟩ := (K1'.out.keep hS).o3); (obtain ⟨q3, q4, q5, -, -, -⟩ := (K2'.out.keep hS).o3); (obtain ⟨q6, q7, q8, -, -, -⟩ := (K3'.out.keep hS).o3); clear hS; go_simp; first | done | exact rfl)))); (case put14 => (simp only [Act.put, List.setIfInBounds_toArray, List.set_cons_zero, List.set_cons_succ]; first | done | exact rfl)); (case' next14 => skip)
  (first | (refine' grow_skip rfl ?wt15 ?put15 ?next15; (case wt15 => rfl)) | (refine' grow_lit rfl ?wt15 ?run15 ?put15 ?next15; (case wt15 => rfl); (case run15 => (intro w' hS H; clear H; (obtain ⟨q0, q1, q2, -, -, -⟩ := (K1'.out.keep hS).o3); (obtain ⟨q3, q4, q5, -, -, -⟩ := (K2'.out.keep hS).o3); (obtain ⟨q6, q7, q8, -, -, -⟩ := (K3'.out.keep hS).o3); clear hS; go_simp; first | done | exact rfl)))); (case put15 => (simp only [Act.put, List.setIfInBounds_toArray, List.set_cons_zero, List.set_cons_succ]; first | done | exact rfl)); (case' next15 => skip)
  (first | (refine' grow_skip rfl ?wt16 ?put16 ?next16; (case wt16 => rfl)) | (refine' grow_lit rfl ?wt16 ?run16 ?put16 ?next16; (case wt16 => rfl); (case run16 => (intro w' hS H; clear H; (obtain ⟨q0, q1, q2, -, -, -⟩ := (K1'.out.keep hS).o3); (obtain ⟨q3, q4, q5, -, -, -⟩ := (K2'.out.keep hS).o3); (obtain ⟨q6, q7, q8, -, -, -⟩ := (K3'.out.keep hS).o3); clear hS; go_simp; first | done | exact rfl)))); (case put16 => (simp only [Act.put, List.setIfInBounds_toArray, List.set_cons_zero, List.set_cons_succ]; first | done | exact rfl)); (case' next16 => skip)
  (first | (refine' grow_skip rfl ?wt17 ?put17 ?next17; (case wt17 => rfl)) | (refine' grow_lit rfl ?wt17 ?run17 ?put17 ?next17; (case wt17 => rfl); (case run17 => (intro w' hS H; clear H; (obtain ⟨q0, q1, q2, -, -, -⟩ := (K1'.out.keep hS).o3); (obtain ⟨q3, q4, q5, -, -, -⟩ := (K2'.out.keep hS).o3); (obtain ⟨q6, q7, q8, -, -, -⟩ := (K3'.out.keep hS).o3); clear hS; go_simp; first | done | exact rfl)))); (case put17 => (simp only [Act.put, List.setIfInBounds_toArray, List.set_cons_zero, List.set_cons_succ]; first | done | exact rfl)); (case' next17 => skip)
  (first | (refine' grow_skip rfl ?wt18 ?put18 ?next18; (case wt18 => rfl)) | (refine' grow_lit rfl ?wt18 ?run18 ?put18 ?next18; (case wt18 => rfl); (case run18 => (intro w' hS H; clear H; (obtain ⟨q0, q1, q2, -, -, -⟩ := (K1'.out.keep hS).o3); (obtain ⟨q3, q4, q5, -, -, -⟩ := (K2'.out.keep hS).o3); (obtain ⟨q6, q7, q8, -, -, -⟩ := (K3'.out.keep hS).o3); clear hS; go_simp; first | done | exact rfl)))); (case put18 => (simp only [Act.put, List.setIfInBounds_toArray, List.set_cons_zero, List.set_cons_succ]; first | done | exact rfl)); (case' next18 => skip)
  (refine' grow_call (u := .int .i64 1152921504606846976) rfl Tryd.func17 (by kernel_rfl) rfl hGS rfl ?wt58 ?run58 ?put58 ?next58; (case wt58 => rfl); (case run58 => (intro w' hS H; exact (tat_any 2 3 _ sixU 1 2 w' (by omega) (by decide) (T2'.out.below hS)).mono (fun e w2 h => ⟨h.1.trans (by rfl), h.2⟩))); (case put58 => (simp only [Act.put, List.setIfInBounds_toArray, List.set_cons_zero, List.set_cons_succ]; first | done | exact rfl)); (case' next58 => skip))
  (first | (refine' grow_skip rfl ?wt19 ?put19 ?next19; (case wt19 => rfl)) | (refine' grow_lit rfl ?wt19 ?run19 ?put19 ?next19; (case wt19 => rfl); (case run19 => (intro w' hS H; clear H; (obtain ⟨q0, q1, q2, -, -, -⟩ := (K1'.out.keep hS).o3); (obtain ⟨q3, q4, q5, -, -, -⟩ := (K2'.out.keep hS).o3); (obtain ⟨q6, q7, q8, -, -, -⟩ := (K3'.out.keep hS).o3); clear hS; go_simp; first | done | exact rfl)))); (case put19 => (simp only [Act.put, List.setIfInBounds_toArray, List.set_cons_zero, List.set_cons_succ]; first | done | exact rfl)); (case' next19 => skip)
  (first | (refine' grow_skip rfl ?wt20 ?put20 ?next20; (case wt20 => rfl)) | (refine' grow_lit rfl ?wt20 ?run20 ?put20 ?next20; (case wt20 => rfl); (case run20 => (intro w' hS H; clear H; (obtain ⟨q0, q1, q2, -, -, -⟩ := (K1'.out.keep hS).o3); (obtain ⟨q3, q4, q5, -, -, -⟩ := (K2'.out.keep hS).o3); (obtain ⟨q6, q7, q8, -, -, -⟩ := (K3'.out.keep hS).o3); clear hS; go_simp; first | done | exact rfl)))); (case put20 => (simp only [Act.put, List.setIfInBounds_toArray, List.set_cons_zero, List.set_cons_succ]; first | done | exact rfl)); (case' next20 => skip)
  (first | (refine' grow_skip rfl ?wt21 ?put21 ?next21; (case wt21 => rfl)) | (refine' grow_lit rfl ?wt21 ?run21 ?put21 ?next21; (case wt21 => rfl); (case run21 => (intro w' hS H; clear H; (obtain ⟨q0, q1, q2, -, -, -⟩ := (K1'.out.keep hS).o3); (obtain ⟨q3, q4, q5, -, -, -⟩ := (K2'.out.keep hS).o3); (obtain ⟨q6, q7, q8, -, -, -⟩ := (K3'.out.keep hS).o3); clear hS; go_simp; first | done | exact rfl)))); (case put21 => (simp only [Act.put, List.setIfInBounds_toArray, List.set_cons_zero, List.set_cons_succ]; first | done | exact rfl)); (case' next21 => skip)
  (first | (refine' grow_skip rfl ?wt22 ?put22 ?next22; (case wt22 => rfl)) | (refine' grow_lit rfl ?wt22 ?run22 ?put22 ?next22; (case wt22 => rfl); (case run22 => (intro w' hS H; clear H; (obtain ⟨q0, q1, q2, -, -, -⟩ := (K1'.out.keep hS).o3); (obtain ⟨q3, q4, q5, -, -, -⟩ := (K2'.out.keep hS).o3); (obtain ⟨q6, q7, q8, -, -, -⟩ := (K3'.out.keep hS).o3); clear hS; go_simp; first | done | exact rfl)))); (case put22 => (simp only [Act.put, List.setIfInBounds_toArray, List.set_cons_zero, List.set_cons_succ]; first | done | exact rfl)); (case' next22 => skip)
  (refine' grow_call (u := .int .i64 0) rfl Tryd.func17 (by kernel_rfl) rfl hGS rfl ?wt59 ?run59 ?put59 ?next59; (case wt59 => rfl); (case run59 => (intro w' hS H; exact (tat_any 2 3 _ sixU 1 1 w' (by omega) (by decide) (T2'.out.below hS)).mono (fun e w2 h => ⟨h.1.trans (by rfl), h.2⟩))); (case put59 => (simp only [Act.put, List.setIfInBounds_toArray, List.set_cons_zero, List.set_cons_succ]; first | done | exact rfl)); (case' next59 => skip))
  (first | (refine' grow_skip rfl ?wt23 ?put23 ?next23; (case wt23 => rfl)) | (refine' grow_lit rfl ?wt23 ?run23 ?put23 ?next23; (case wt23 => rfl); (case run23 => (intro w' hS H; clear H; (obtain ⟨q0, q1, q2, -, -, -⟩ := (K1'.out.keep hS).o3); (obtain ⟨q3, q4, q5, -, -, -⟩ := (K2'.out.keep hS).o3); (obtain ⟨q6, q7, q8, -, -, -⟩ := (K3'.out.keep hS).o3); clear hS; go_simp; first | done | exact rfl)))); (case put23 => (simp only [Act.put, List.setIfInBounds_toArray, List.set_cons_zero, List.set_cons_succ]; first | done | exact rfl)); (case' next23 => skip)
  (first | (refine' grow_skip rfl ?wt24 ?put24 ?next24; (case wt24 => rfl)) | (refine' grow_lit rfl ?wt24 ?run24 ?put24 ?next24; (case wt24 => rfl); (case run24 => (intro w' hS H; clear H; (obtain ⟨q0, q1, q2, -, -, -⟩ := (K1'.out.keep hS).o3); (obtain ⟨q3, q4, q5, -, -, -⟩ := (K2'.out.keep hS).o3); (obtain ⟨q6, q7, q8, -, -, -⟩ := (K3'.out.keep hS).o3); clear hS; go_simp; first | done | exact rfl)))); (case put24 => (simp only [Act.put, List.setIfInBounds_toArray, List.set_cons_zero, List.set_cons_succ]; first | done | exact rfl)); (case' next24 => skip)
  (first | (refine' grow_skip rfl ?wt25 ?put25 ?next25; (case wt25 => rfl)) | (refine' grow_lit rfl ?wt25 ?run25 ?put25 ?next25; (case wt25 => rfl); (case run25 => (intro w' hS H; clear H; (obtain ⟨q0, q1, q2, -, -, -⟩ := (K1'.out.keep hS).o3); (obtain ⟨q3, q4, q5, -, -, -⟩ := (K2'.out.keep hS).o3); (obtain ⟨q6, q7, q8, -, -, -⟩ := (K3'.out.keep hS).o3); clear hS; go_simp; first | done | exact rfl)))); (case put25 => (simp only [Act.put, List.setIfInBounds_toArray, List.set_cons_zero, List.set_cons_succ]; first | done | exact rfl)); (case' next25 => skip)
  (first | (refine' grow_skip rfl ?wt26 ?put26 ?next26; (case wt26 => rfl)) | (refine' grow_lit rfl ?wt26 ?run26 ?put26 ?next26; (case wt26 => rfl); (case run26 => (intro w' hS H; clear H; (obtain ⟨q0, q1, q2, -, -, -⟩ := (K1'.out.keep hS).o3); (obtain ⟨q3, q4, q5, -, -, -⟩ := (K2'.out.keep hS).o3); (obtain ⟨q6, q7, q8, -, -, -⟩ := (K3'.out.keep hS).o3); clear hS; go_simp; first | done | exact rfl)))); (case put26 => (simp only [Act.put, List.setIfInBounds_toArray, List.set_cons_zero, List.set_cons_succ]; first | done | exact rfl)); (case' next26 => skip)
  (refine' grow_call (u := .int .i64 1152921504606846976) rfl Tryd.func17 (by kernel_rfl) rfl hGS rfl ?wt60 ?run60 ?put60 ?next60; (case wt60 => rfl); (case run60 => (intro w' hS H; exact (tat_any 2 3 _ sixU 1 3 w' (by omega) (by decide) (T2'.out.below hS)).mono (fun e w2 h => ⟨h.1.trans (by rfl), h.2⟩))); (case put60 => (simp only [Act.put, List.setIfInBounds_toArray, List.set_cons_zero, List.set_cons_succ]; first | done | exact rfl)); (case' next60 => skip))
  (first | (refine' grow_skip rfl ?wt27 ?put27 ?next27; (case wt27 => rfl)) | (refine' grow_lit rfl ?wt27 ?run27 ?put27 ?next27; (case wt27 => rfl); (case run27 => (intro w' hS H; clear H; (obtain ⟨q0, q1, q2, -, -, -⟩ := (K1'.out.keep hS).o3); (obtain ⟨q3, q4, q5, -, -, -⟩ := (K2'.out.keep hS).o3); (obtain ⟨q6, q7, q8, -, -, -⟩ := (K3'.out.keep hS).o3); clear hS; go_simp; first | done | exact rfl)))); (case put27 => (simp only [Act.put, List.setIfInBounds_toArray, List.set_cons_zero, List.set_cons_succ]; first | done | exact rfl)); (case' next27 => skip)
  (first | (refine' grow_skip rfl ?wt28 ?put28 ?next28; (case wt28 => rfl)) | (refine' grow_lit rfl ?wt28 ?run28 ?put28 ?next28; (case wt28 => rfl); (case run28 => (intro w' hS H; clear H; (obtain ⟨q0, q1, q2, -, -, -⟩ := (K1'.out.keep hS).o3); (obtain ⟨q3, q4, q5, -, -, -⟩ := (K2'.out.keep hS).o3); (obtain ⟨q6, q7, q8, -, -, -⟩ := (K3'.out.keep hS).o3); clear hS; go_simp; first | done | exact rfl)))); (case put28 => (simp only [Act.put, List.setIfInBounds_toArray, List.set_cons_zero, List.set_cons_succ]; first | done | exact rfl)); (case' next28 => skip)
  (first | (refine' grow_skip rfl ?wt29 ?put29 ?next29; (case wt29 => rfl)) | (refine' grow_lit rfl ?wt29 ?run29 ?put29 ?next29; (case wt29 => rfl); (case run29 => (intro w' hS H; clear H; (obtain ⟨q0, q1, q2, -, -, -⟩ := (K1'.out.keep hS).o3); (obtain ⟨q3, q4, q5, -, -, -⟩ := (K2'.out.keep hS).o3); (obtain ⟨q6, q7, q8, -, -, -⟩ := (K3'.out.keep hS).o3); clear hS; go_simp; first | done | exact rfl)))); (case put29 => (simp only [Act.put, List.setIfInBounds_toArray, List.set_cons_zero, List.set_cons_succ]; first | done | exact rfl)); (case' next29 => skip)
  (first | (refine' grow_skip rfl ?wt30 ?put30 ?next30; (case wt30 => rfl)) | (refine' grow_lit rfl ?wt30 ?run30 ?put30 ?next30; (case wt30 => rfl); (case run30 => (intro w' hS H; clear H; (obtain ⟨q0, q1, q2, -, -, -⟩ := (K1'.out.keep hS).o3); (obtain ⟨q3, q4, q5, -, -, -⟩ := (K2'.out.keep hS).o3); (obtain ⟨q6, q7, q8, -, -, -⟩ := (K3'.out.keep hS).o3); clear hS; go_simp; first | done | exact rfl)))); (case put30 => (simp only [Act.put, List.setIfInBounds_toArray, List.set_cons_zero, List.set_cons_succ]; first | done | exact rfl)); (case' next30 => skip)
  (refine' grow_call (u := .int .i64 1) rfl Tryd.func19 (by kernel_rfl) rfl hGS rfl ?wt61 ?run61 ?put61 ?next61; (case wt61 => rfl); (case run61 => (intro w' hS H; exact (tbans_any 2 3 _ sixU w' (T2'.out.below hS)).mono (fun e w2 h => ⟨h.1.trans (by rfl), h.2⟩))); (case put61 => (simp only [Act.put, List.setIfInBounds_toArray, List.set_cons_zero, List.set_cons_succ]; first | done | exact rfl)); (case' next61 => skip))
  (first | (refine' grow_skip rfl ?wt31 ?put31 ?next31; (case wt31 => rfl)) | (refine' grow_lit rfl ?wt31 ?run31 ?put31 ?next31; (case wt31 => rfl); (case run31 => (intro w' hS H; clear H; (obtain ⟨q0, q1, q2, -, -, -⟩ := (K1'.out.keep hS).o3); (obtain ⟨q3, q4, q5, -, -, -⟩ := (K2'.out.keep hS).o3); (obtain ⟨q6, q7, q8, -, -, -⟩ := (K3'.out.keep hS).o3); clear hS; go_simp; first | done | exact rfl)))); (case put31 => (simp only [Act.put, List.setIfInBounds_toArray, List.set_cons_zero, List.set_cons_succ]; first | done | exact rfl)); (case' next31 => skip)
  (first | (refine' grow_skip rfl ?wt32 ?put32 ?next32; (case wt32 => rfl)) | (refine' grow_lit rfl ?wt32 ?run32 ?put32 ?next32; (case wt32 => rfl); (case run32 => (intro w' hS H; clear H; (obtain ⟨q0, q1, q2, -, -, -⟩ := (K1'.out.keep hS).o3); (obtain ⟨q3, q4, q5, -, -, -⟩ := (K2'.out.keep hS).o3); (obtain ⟨q6, q7, q8, -, -, -⟩ := (K3'.out.keep hS).o3); clear hS; go_simp; first | done | exact rfl)))); (case put32 => (simp only [Act.put, List.setIfInBounds_toArray, List.set_cons_zero, List.set_cons_succ]; first | done | exact rfl)); (case' next32 => skip)
  (first | (refine' grow_skip rfl ?wt33 ?put33 ?next33; (case wt33 => rfl)) | (refine' grow_lit rfl ?wt33 ?run33 ?put33 ?next33; (case wt33 => rfl); (case run33 => (intro w' hS H; clear H; (obtain ⟨q0, q1, q2, -, -, -⟩ := (K1'.out.keep hS).o3); (obtain ⟨q3, q4, q5, -, -, -⟩ := (K2'.out.keep hS).o3); (obtain ⟨q6, q7, q8, -, -, -⟩ := (K3'.out.keep hS).o3); clear hS; go_simp; first | done | exact rfl)))); (case put33 => (simp only [Act.put, List.setIfInBounds_toArray, List.set_cons_zero, List.set_cons_succ]; first | done | exact rfl)); (case' next33 => skip)
  (first | (refine' grow_skip rfl ?wt34 ?put34 ?next34; (case wt34 => rfl)) | (refine' grow_lit rfl ?wt34 ?run34 ?put34 ?next34; (case wt34 => rfl); (case run34 => (intro w' hS H; clear H; (obtain ⟨q0, q1, q2, -, -, -⟩ := (K1'.out.keep hS).o3); (obtain ⟨q3, q4, q5, -, -, -⟩ := (K2'.out.keep hS).o3); (obtain ⟨q6, q7, q8, -, -, -⟩ := (K3'.out.keep hS).o3); clear hS; go_simp; first | done | exact rfl)))); (case put34 => (simp only [Act.put, List.setIfInBounds_toArray, List.set_cons_zero, List.set_cons_succ]; first | done | exact rfl)); (case' next34 => skip)
  (refine' grow_call (u := .int .i64 0) rfl Tryd.func19 (by kernel_rfl) rfl hGS rfl ?wt62 ?run62 ?put62 ?next62; (case wt62 => rfl); (case run62 => (intro w' hS H; exact (tbans_any 2 3 _ sixL w' (T1'.out.below hS)).mono (fun e w2 h => ⟨h.1.trans (by rfl), h.2⟩))); (case put62 => (simp only [Act.put, List.setIfInBounds_toArray, List.set_cons_zero, List.set_cons_succ]; first | done | exact rfl)); (case' next62 => skip))
  (first | (refine' grow_skip rfl ?wt35 ?put35 ?next35; (case wt35 => rfl)) | (refine' grow_lit rfl ?wt35 ?run35 ?put35 ?next35; (case wt35 => rfl); (case run35 => (intro w' hS H; clear H; (obtain ⟨q0, q1, q2, -, -, -⟩ := (K1'.out.keep hS).o3); (obtain ⟨q3, q4, q5, -, -, -⟩ := (K2'.out.keep hS).o3); (obtain ⟨q6, q7, q8, -, -, -⟩ := (K3'.out.keep hS).o3); clear hS; go_simp; first | done | exact rfl)))); (case put35 => (simp only [Act.put, List.setIfInBounds_toArray, List.set_cons_zero, List.set_cons_succ]; first | done | exact rfl)); (case' next35 => skip)
  (first | (refine' grow_skip rfl ?wt36 ?put36 ?next36; (case wt36 => rfl)) | (refine' grow_lit rfl ?wt36 ?run36 ?put36 ?next36; (case wt36 => rfl); (case run36 => (intro w' hS H; clear H; (obtain ⟨q0, q1, q2, -, -, -⟩ := (K1'.out.keep hS).o3); (obtain ⟨q3, q4, q5, -, -, -⟩ := (K2'.out.keep hS).o3); (obtain ⟨q6, q7, q8, -, -, -⟩ := (K3'.out.keep hS).o3); clear hS; go_simp; first | done | exact rfl)))); (case put36 => (simp only [Act.put, List.setIfInBounds_toArray, List.set_cons_zero, List.set_cons_succ]; first | done | exact rfl)); (case' next36 => skip)
  (first | (refine' grow_skip rfl ?wt37 ?put37 ?next37; (case wt37 => rfl)) | (refine' grow_lit rfl ?wt37 ?run37 ?put37 ?next37; (case wt37 => rfl); (case run37 => (intro w' hS H; clear H; (obtain ⟨q0, q1, q2, -, -, -⟩ := (K1'.out.keep hS).o3); (obtain ⟨q3, q4, q5, -, -, -⟩ := (K2'.out.keep hS).o3); (obtain ⟨q6, q7, q8, -, -, -⟩ := (K3'.out.keep hS).o3); clear hS; go_simp; first | done | exact rfl)))); (case put37 => (simp only [Act.put, List.setIfInBounds_toArray, List.set_cons_zero, List.set_cons_succ]; first | done | exact rfl)); (case' next37 => skip)
  (first | (refine' grow_skip rfl ?wt38 ?put38 ?next38; (case wt38 => rfl)) | (refine' grow_lit rfl ?wt38 ?run38 ?put38 ?next38; (case wt38 => rfl); (case run38 => (intro w' hS H; clear H; (obtain ⟨q0, q1, q2, -, -, -⟩ := (K1'.out.keep hS).o3); (obtain ⟨q3, q4, q5, -, -, -⟩ := (K2'.out.keep hS).o3); (obtain ⟨q6, q7, q8, -, -, -⟩ := (K3'.out.keep hS).o3); clear hS; go_simp; first | done | exact rfl)))); (case put38 => (simp only [Act.put, List.setIfInBounds_toArray, List.set_cons_zero, List.set_cons_succ]; first | done | exact rfl)); (case' next38 => skip)
  (refine' grow_call (u := .int .i64 2) rfl Tryd.func19 (by kernel_rfl) rfl hGS rfl ?wt63 ?run63 ?put63 ?next63; (case wt63 => rfl); (case run63 => (intro w' hS H; exact (tbans_any 2 2 _ twoB w' (T3'.out.below hS)).mono (fun e w2 h => ⟨h.1.trans (by rfl), h.2⟩))); (case put63 => (simp only [Act.put, List.setIfInBounds_toArray, List.set_cons_zero, List.set_cons_succ]; first | done | exact rfl)); (case' next63 => skip))
  (first | (refine' grow_skip rfl ?wt39 ?put39 ?next39; (case wt39 => rfl)) | (refine' grow_lit rfl ?wt39 ?run39 ?put39 ?next39; (case wt39 => rfl); (case run39 => (intro w' hS H; clear H; (obtain ⟨q0, q1, q2, -, -, -⟩ := (K1'.out.keep hS).o3); (obtain ⟨q3, q4, q5, -, -, -⟩ := (K2'.out.keep hS).o3); (obtain ⟨q6, q7, q8, -, -, -⟩ := (K3'.out.keep hS).o3); clear hS; go_simp; first | done | exact rfl)))); (case put39 => (simp only [Act.put, List.setIfInBounds_toArray, List.set_cons_zero, List.set_cons_succ]; first | done | exact rfl)); (case' next39 => skip)
  (first | (refine' grow_skip rfl ?wt40 ?put40 ?next40; (case wt40 => rfl)) | (refine' grow_lit rfl ?wt40 ?run40 ?put40 ?next40; (case wt40 => rfl); (case run40 => (intro w' hS H; clear H; (obtain ⟨q0, q1, q2, -, -, -⟩ := (K1'.out.keep hS).o3); (obtain ⟨q3, q4, q5, -, -, -⟩ := (K2'.out.keep hS).o3); (obtain ⟨q6, q7, q8, -, -, -⟩ := (K3'.out.keep hS).o3); clear hS; go_simp; first | done | exact rfl)))); (case put40 => (simp only [Act.put, List.setIfInBounds_toArray, List.set_cons_zero, List.set_cons_succ]; first | done | exact rfl)); (case' next40 => skip)
  (first | (refine' grow_skip rfl ?wt41 ?put41 ?next41; (case wt41 => rfl)) | (refine' grow_lit rfl ?wt41 ?run41 ?put41 ?next41; (case wt41 => rfl); (case run41 => (intro w' hS H; clear H; (obtain ⟨q0, q1, q2, -, -, -⟩ := (K1'.out.keep hS).o3); (obtain ⟨q3, q4, q5, -, -, -⟩ := (K2'.out.keep hS).o3); (obtain ⟨q6, q7, q8, -, -, -⟩ := (K3'.out.keep hS).o3); clear hS; go_simp; first | done | exact rfl)))); (case put41 => (simp only [Act.put, List.setIfInBounds_toArray, List.set_cons_zero, List.set_cons_succ]; first | done | exact rfl)); (case' next41 => skip)
  (first | (refine' grow_skip rfl ?wt42 ?put42 ?next42; (case wt42 => rfl)) | (refine' grow_lit rfl ?wt42 ?run42 ?put42 ?next42; (case wt42 => rfl); (case run42 => (intro w' hS H; clear H; (obtain ⟨q0, q1, q2, -, -, -⟩ := (K1'.out.keep hS).o3); (obtain ⟨q3, q4, q5, -, -, -⟩ := (K2'.out.keep hS).o3); (obtain ⟨q6, q7, q8, -, -, -⟩ := (K3'.out.keep hS).o3); clear hS; go_simp; first | done | exact rfl)))); (case put42 => (simp only [Act.put, List.setIfInBounds_toArray, List.set_cons_zero, List.set_cons_succ]; first | done | exact rfl)); (case' next42 => skip)
  (refine' grow_call (u := .int .i64 0) rfl Tryd.func17 (by kernel_rfl) rfl hGS rfl ?wt64 ?run64 ?put64 ?next64; (case wt64 => rfl); (case run64 => (intro w' hS H; exact (tat_any 2 2 _ twoB 0 1 w' (by omega) (by decide) (T3'.out.below hS)).mono (fun e w2 h => ⟨h.1.trans (by rfl), h.2⟩))); (case put64 => (simp only [Act.put, List.setIfInBounds_toArray, List.set_cons_zero, List.set_cons_succ]; first | done | exact rfl)); (case' next64 => skip))
  (first | (refine' grow_skip rfl ?wt43 ?put43 ?next43; (case wt43 => rfl)) | (refine' grow_lit rfl ?wt43 ?run43 ?put43 ?next43; (case wt43 => rfl); (case run43 => (intro w' hS H; clear H; (obtain ⟨q0, q1, q2, -, -, -⟩ := (K1'.out.keep hS).o3); (obtain ⟨q3, q4, q5, -, -, -⟩ := (K2'.out.keep hS).o3); (obtain ⟨q6, q7, q8, -, -, -⟩ := (K3'.out.keep hS).o3); clear hS; go_simp; first | done | exact rfl)))); (case put43 => (simp only [Act.put, List.setIfInBounds_toArray, List.set_cons_zero, List.set_cons_succ]; first | done | exact rfl)); (case' next43 => skip)
  (first | (refine' grow_skip rfl ?wt44 ?put44 ?next44; (case wt44 => rfl)) | (refine' grow_lit rfl ?wt44 ?run44 ?put44 ?next44; (case wt44 => rfl); (case run44 => (intro w' hS H; clear H; (obtain ⟨q0, q1, q2, -, -, -⟩ := (K1'.out.keep hS).o3); (obtain ⟨q3, q4, q5, -, -, -⟩ := (K2'.out.keep hS).o3); (obtain ⟨q6, q7, q8, -, -, -⟩ := (K3'.out.keep hS).o3); clear hS; go_simp; first | done | exact rfl)))); (case put44 => (simp only [Act.put, List.setIfInBounds_toArray, List.set_cons_zero, List.set_cons_succ]; first | done | exact rfl)); (case' next44 => skip)
  (first | (refine' grow_skip rfl ?wt45 ?put45 ?next45; (case wt45 => rfl)) | (refine' grow_lit rfl ?wt45 ?run45 ?put45 ?next45; (case wt45 => rfl); (case run45 => (intro w' hS H; clear H; (obtain ⟨q0, q1, q2, -, -, -⟩ := (K1'.out.keep hS).o3); (obtain ⟨q3, q4, q5, -, -, -⟩ := (K2'.out.keep hS).o3); (obtain ⟨q6, q7, q8, -, -, -⟩ := (K3'.out.keep hS).o3); clear hS; go_simp; first | done | exact rfl)))); (case put45 => (simp only [Act.put, List.setIfInBounds_toArray, List.set_cons_zero, List.set_cons_succ]; first | done | exact rfl)); (case' next45 => skip)
  (first | (refine' grow_skip rfl ?wt46 ?put46 ?next46; (case wt46 => rfl)) | (refine' grow_lit rfl ?wt46 ?run46 ?put46 ?next46; (case wt46 => rfl); (case run46 => (intro w' hS H; clear H; (obtain ⟨q0, q1, q2, -, -, -⟩ := (K1'.out.keep hS).o3); (obtain ⟨q3, q4, q5, -, -, -⟩ := (K2'.out.keep hS).o3); (obtain ⟨q6, q7, q8, -, -, -⟩ := (K3'.out.keep hS).o3); clear hS; go_simp; first | done | exact rfl)))); (case put46 => (simp only [Act.put, List.setIfInBounds_toArray, List.set_cons_zero, List.set_cons_succ]; first | done | exact rfl)); (case' next46 => skip)
  (first | (refine' grow_skip rfl ?wt47 ?put47 ?next47; (case wt47 => rfl)) | (refine' grow_lit rfl ?wt47 ?run47 ?put47 ?next47; (case wt47 => rfl); (case run47 => (intro w' hS H; clear H; (obtain ⟨q0, q1, q2, -, -, -⟩ := (K1'.out.keep hS).o3); (obtain ⟨q3, q4, q5, -, -, -⟩ := (K2'.out.keep hS).o3); (obtain ⟨q6, q7, q8, -, -, -⟩ := (K3'.out.keep hS).o3); clear hS; go_simp; first | done | exact rfl)))); (case put47 => (simp only [Act.put, List.setIfInBounds_toArray, List.set_cons_zero, List.set_cons_succ]; first | done | exact rfl)); (case' next47 => skip)
  (refine' grow_call (u := .bool false) rfl Tryd.func13 (by kernel_rfl) rfl hGS rfl ?wt65 ?run65 ?put65 ?next65; (case wt65 => rfl); (case run65 => (intro w' hS H; exact (tsame_any 2 3 2 3 _ _ sixL sixU w' (T1'.out.below hS) (T2'.out.below hS)).mono (fun e w2 h => ⟨h.1.trans (by rfl), h.2⟩))); (case put65 => (simp only [Act.put, List.setIfInBounds_toArray, List.set_cons_zero, List.set_cons_succ]; first | done | exact rfl)); (case' next65 => skip))
  (first | (refine' grow_skip rfl ?wt48 ?put48 ?next48; (case wt48 => rfl)) | (refine' grow_lit rfl ?wt48 ?run48 ?put48 ?next48; (case wt48 => rfl); (case run48 => (intro w' hS H; clear H; (obtain ⟨q0, q1, q2, -, -, -⟩ := (K1'.out.keep hS).o3); (obtain ⟨q3, q4, q5, -, -, -⟩ := (K2'.out.keep hS).o3); (obtain ⟨q6, q7, q8, -, -, -⟩ := (K3'.out.keep hS).o3); clear hS; go_simp; first | done | exact rfl)))); (case put48 => (simp only [Act.put, List.setIfInBounds_toArray, List.set_cons_zero, List.set_cons_succ]; first | done | exact rfl)); (case' next48 => skip)
  (first | (refine' grow_skip rfl ?wt49 ?put49 ?next49; (case wt49 => rfl)) | (refine' grow_lit rfl ?wt49 ?run49 ?put49 ?next49; (case wt49 => rfl); (case run49 => (intro w' hS H; clear H; (obtain ⟨q0, q1, q2, -, -, -⟩ := (K1'.out.keep hS).o3); (obtain ⟨q3, q4, q5, -, -, -⟩ := (K2'.out.keep hS).o3); (obtain ⟨q6, q7, q8, -, -, -⟩ := (K3'.out.keep hS).o3); clear hS; go_simp; first | done | exact rfl)))); (case put49 => (simp only [Act.put, List.setIfInBounds_toArray, List.set_cons_zero, List.set_cons_succ]; first | done | exact rfl)); (case' next49 => skip)
  (first | (refine' grow_skip rfl ?wt50 ?put50 ?next50; (case wt50 => rfl)) | (refine' grow_lit rfl ?wt50 ?run50 ?put50 ?next50; (case wt50 => rfl); (case run50 => (intro w' hS H; clear H; (obtain ⟨q0, q1, q2, -, -, -⟩ := (K1'.out.keep hS).o3); (obtain ⟨q3, q4, q5, -, -, -⟩ := (K2'.out.keep hS).o3); (obtain ⟨q6, q7, q8, -, -, -⟩ := (K3'.out.keep hS).o3); clear hS; go_simp; first | done | exact rfl)))); (case put50 => (simp only [Act.put, List.setIfInBounds_toArray, List.set_cons_zero, List.set_cons_succ]; first | done | exact rfl)); (case' next50 => skip)
  (first | (refine' grow_skip rfl ?wt51 ?put51 ?next51; (case wt51 => rfl)) | (refine' grow_lit rfl ?wt51 ?run51 ?put51 ?next51; (case wt51 => rfl); (case run51 => (intro w' hS H; clear H; (obtain ⟨q0, q1, q2, -, -, -⟩ := (K1'.out.keep hS).o3); (obtain ⟨q3, q4, q5, -, -, -⟩ := (K2'.out.keep hS).o3); (obtain ⟨q6, q7, q8, -, -, -⟩ := (K3'.out.keep hS).o3); clear hS; go_simp; first | done | exact rfl)))); (case put51 => (simp only [Act.put, List.setIfInBounds_toArray, List.set_cons_zero, List.set_cons_succ]; first | done | exact rfl)); (case' next51 => skip)
  (refine' grow_callP (p := fun v w => WrongV w v [(turnB, 0)] 5) (hp := fun v w w' h hb => h.below hb) rfl Tryd.func27 (by kernel_rfl) rfl hGS rfl ?wt66 ?run66 ?put66 ?next66; (case wt66 => rfl); (case run66 => (intro w' hS H; exact (at_post turnB 0 5 w').mono (fun e w2 ⟨v, h1, h2, h3⟩ => ⟨v, h1, h2, h3⟩))); (case put66 => (intro v; simp only [Act.put, List.setIfInBounds_toArray, List.set_cons_zero, List.set_cons_succ]; first | done | exact rfl)); (case' next66 => intro v59))
  (refine' grow_call (u := .bool true) rfl Tryd.func10 (by kernel_rfl) rfl hGS rfl ?wt67 ?run67 ?put67 ?next67; (case wt67 => rfl); (case run67 => (intro w' hS H; exact tells_post _ v59 [(turnB, 0)] 5 w' (HG.out.below HGL.out (B6.out.trans (hS.mono B6.out.size))) (E4.out.below hS) (H 59 (by decide)) (Or.inr (by simp)))); (case put67 => (simp only [Act.put, List.setIfInBounds_toArray, List.set_cons_zero, List.set_cons_succ]; first | done | exact rfl)); (case' next67 => skip))
  (first | (refine' grow_skip rfl ?wt52 ?put52 ?next52; (case wt52 => rfl)) | (refine' grow_lit rfl ?wt52 ?run52 ?put52 ?next52; (case wt52 => rfl); (case run52 => (intro w' hS H; clear H; (obtain ⟨q0, q1, q2, -, -, -⟩ := (K1'.out.keep hS).o3); (obtain ⟨q3, q4, q5, -, -, -⟩ := (K2'.out.keep hS).o3); (obtain ⟨q6, q7, q8, -, -, -⟩ := (K3'.out.keep hS).o3); clear hS; go_simp; first | done | exact rfl)))); (case put52 => (simp only [Act.put, List.setIfInBounds_toArray, List.set_cons_zero, List.set_cons_succ]; first | done | exact rfl)); (case' next52 => skip)
  (first | (refine' grow_skip rfl ?wt53 ?put53 ?next53; (case wt53 => rfl)) | (refine' grow_lit rfl ?wt53 ?run53 ?put53 ?next53; (case wt53 => rfl); (case run53 => (intro w' hS H; clear H; (obtain ⟨q0, q1, q2, -, -, -⟩ := (K1'.out.keep hS).o3); (obtain ⟨q3, q4, q5, -, -, -⟩ := (K2'.out.keep hS).o3); (obtain ⟨q6, q7, q8, -, -, -⟩ := (K3'.out.keep hS).o3); clear hS; go_simp; first | done | exact rfl)))); (case put53 => (simp only [Act.put, List.setIfInBounds_toArray, List.set_cons_zero, List.set_cons_succ]; first | done | exact rfl)); (case' next53 => skip)
  (first | (refine' grow_skip rfl ?wt54 ?put54 ?next54; (case wt54 => rfl)) | (refine' grow_lit rfl ?wt54 ?run54 ?put54 ?next54; (case wt54 => rfl); (case run54 => (intro w' hS H; clear H; (obtain ⟨q0, q1, q2, -, -, -⟩ := (K1'.out.keep hS).o3); (obtain ⟨q3, q4, q5, -, -, -⟩ := (K2'.out.keep hS).o3); (obtain ⟨q6, q7, q8, -, -, -⟩ := (K3'.out.keep hS).o3); clear hS; go_simp; first | done | exact rfl)))); (case put54 => (simp only [Act.put, List.setIfInBounds_toArray, List.set_cons_zero, List.set_cons_succ]; first | done | exact rfl)); (case' next54 => skip)
  (refine' grow_call (u := .nilIface) rfl Tryd.func11 (by kernel_rfl) rfl hGS rfl ?wt68 ?run68 ?put68 ?next68; (case wt68 => rfl); (case run68 => (intro w' hS H; exact (tcheck_any 2 3 _ sixU w' (T2'.out.below hS) inU).mono (fun e w2 ⟨v, h1, h2, h3⟩ => ⟨h1.trans (by rw [ckU] at h2; rw [h2.none]), h3⟩))); (case put68 => (simp only [Act.put, List.setIfInBounds_toArray, List.set_cons_zero, List.set_cons_succ]; first | done | exact rfl)); (case' next68 => skip))
  (first | (refine' grow_skip rfl ?wt55 ?put55 ?next55; (case wt55 => rfl)) | (refine' grow_lit rfl ?wt55 ?run55 ?put55 ?next55; (case wt55 => rfl); (case run55 => (intro w' hS H; clear H; (obtain ⟨q0, q1, q2, -, -, -⟩ := (K1'.out.keep hS).o3); (obtain ⟨q3, q4, q5, -, -, -⟩ := (K2'.out.keep hS).o3); (obtain ⟨q6, q7, q8, -, -, -⟩ := (K3'.out.keep hS).o3); clear hS; go_simp; first | done | exact rfl)))); (case put55 => (simp only [Act.put, List.setIfInBounds_toArray, List.set_cons_zero, List.set_cons_succ]; first | done | exact rfl)); (case' next55 => skip)
  (first | (refine' grow_skip rfl ?wt56 ?put56 ?next56; (case wt56 => rfl)) | (refine' grow_lit rfl ?wt56 ?run56 ?put56 ?next56; (case wt56 => rfl); (case run56 => (intro w' hS H; clear H; (obtain ⟨q0, q1, q2, -, -, -⟩ := (K1'.out.keep hS).o3); (obtain ⟨q3, q4, q5, -, -, -⟩ := (K2'.out.keep hS).o3); (obtain ⟨q6, q7, q8, -, -, -⟩ := (K3'.out.keep hS).o3); clear hS; go_simp; first | done | exact rfl)))); (case put56 => (simp only [Act.put, List.setIfInBounds_toArray, List.set_cons_zero, List.set_cons_succ]; first | done | exact rfl)); (case' next56 => skip)
  (first | (refine' grow_skip rfl ?wt57 ?put57 ?next57; (case wt57 => rfl)) | (refine' grow_lit rfl ?wt57 ?run57 ?put57 ?next57; (case wt57 => rfl); (case run57 => (intro w' hS H; clear H; (obtain ⟨q0, q1, q2, -, -, -⟩ := (K1'.out.keep hS).o3); (obtain ⟨q3, q4, q5, -, -, -⟩ := (K2'.out.keep hS).o3); (obtain ⟨q6, q7, q8, -, -, -⟩ := (K3'.out.keep hS).o3); clear hS; go_simp; first | done | exact rfl)))); (case put57 => (simp only [Act.put, List.setIfInBounds_toArray, List.set_cons_zero]; first | done | exact rfl)); (case' next57 => skip)
  intro w' hS _
  have HF := Lib.hid (B6.out.trans (hS.mono B6.out.size))
  clear hS
  go_wp2_with fail
  go_ret
  exact ⟨rfl, HF.out⟩

end Go.Proofs.YtboimdgldjimpaaDoor
