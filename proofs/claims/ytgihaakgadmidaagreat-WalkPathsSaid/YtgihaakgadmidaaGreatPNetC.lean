/-
  The program's own nets: what going over all arcs once tells.
-/
import Derived.Test.YtgihaakgadmidaaGreatPNetB
import Derived.Test.YtgihaakgadmidaaGreatRNetE
import Derived.Test.YtgihaakgadmidaaGreatStage
import Derived.Test.YtgihaakgadmidaaGreatAps
namespace Go.Proofs.YtgihaakgadmidaaGreat
open Go.RowKit

theorem ntake_at (b m c : Nat) (f : Nat → Int) (v : Nat) (C : Int) (w : World) (hk : Blk w b (arrC f m) 3) (hv : v < m) (hC : f v = C) (h0 : 0 ≤ C) (h1 : C ≤ 1000000) :
    Calls Tryz.prog 108 #[.slice (some ⟨b, 0, none⟩) m c, .int .i64 v] w fun e w' => e = .returned (.int .i64 C) ∧ w' = w.setCell ⟨b, v, none⟩ (.int .i64 (C + 1)) := by
  have HV : Hid (decide (0 ≤ (v : Int) ∧ (v : Int) < (m : Int)) = true) := Lib.hid (by simp; omega)
  have hvi : (v : Int) < (m : Int) := by omega
  have x0 : w.cell? ⟨b, v, none⟩ = some (.int .i64 C) := (hk.cell v (arrC_at f hv)).trans (by rw [hC])
  have f0 := hk.free v
  have hl := hk.lt
  have hs : C + 1 - 1 = C := by omega
  clear hC hk
  go_enter Tryz.func108, Tryz.ntmps108
  go_wp2_with fail
  refine (namong_is _ _ true _ HV.out).mono ?_
  rintro e w' ⟨rfl, rfl⟩
  go_wp2_with fail
  go_ret
  exact ⟨ret_int (by omega), rfl⟩

/-- A row of zeros that was made behind W. -/
def NewInts (W : World) (m : Nat) (v : Value) (w : World) : Prop := ∃ b, v = .slice (some ⟨b, 0, none⟩) m m ∧ W.heap.size ≤ b ∧ Blk w b (arrC (fun _ => 0) m) 3
theorem NewInts.below {W w w' : World} {m : Nat} {v : Value} (h : NewInts W m v w) (hb : Below w.heap.size w w') : NewInts W m v w' := by
  obtain ⟨b, e, h1, h2⟩ := h
  exact ⟨b, e, h1, h2.keep hb⟩
theorem run_makeN (m : Nat) (h1 : m ≤ 1000000) (w : World) :
    (Instr.makeSlice 43 (.int .i64 m) (.int .i64 m)).run Tryz.prog w = .ok (.slice (some ⟨w.heap.size, 0, none⟩) m m) (w.alloc (.cells (arrC (fun _ => 0) m) 3)) := by
  have := run_makeInts (m : Int) (by omega) (by omega) w
  rw [Int.toNat_natCast, arrC_zero] at this
  exact this
theorem arrC_put {f : Nat → Int} {m k : Nat} {C : Int} (hC : f k = C) : (arrC (doneL f k) m).setIfInBounds k (.int .i64 C) = arrC (doneL f (k + 1)) m := by
  subst hC
  unfold arrC
  rw [List.setIfInBounds_toArray, ← List.map_set, cntL_put]
theorem doneL_zero (f : Nat → Int) : doneL f 0 = fun _ => 0 := by funext i; simp [doneL]
theorem arrC_congr {f g : Nat → Int} {m : Nat} (h : ∀ i, i < m → f i = g i) : arrC f m = arrC g m := by
  unfold arrC cntL
  congr 2
  exact List.map_congr_left fun i hi => h i (List.mem_range.1 hi)

/-- While the arcs are gone over: which of the four stores have been done. -/
structure EndSt (n : NetD) (base : Nat) (wb : World) (bi bo ci co be ba : Nat) (k kf kt : Nat) (X : Int) (l : Nat → Bool) (w : World) : Prop where
  below : Below base wb w
  size : base ≤ w.heap.size
  e : Blk w be #[.slice (some ⟨bi, 0, none⟩) n.v.length n.v.length, .slice (some ⟨bo, 0, none⟩) n.v.length n.v.length, .slice (some ⟨ci, 0, none⟩) n.a.length n.a.length, .slice (some ⟨co, 0, none⟩) n.a.length n.a.length] 147
  a : Blk w ba #[.int .i64 kf, .int .i64 kt, .int .i64 X] 98
  bi : Blk w bi (if l 10 = true then arrC (fun v => insC (n.a.take (k + 1)) v) n.v.length else arrC (fun v => insC (n.a.take k) v) n.v.length) 3
  bo : Blk w bo (if l 15 = true then arrC (fun v => outsC (n.a.take (k + 1)) v) n.v.length else arrC (fun v => outsC (n.a.take k) v) n.v.length) 3
  ci : Blk w ci (if l 17 = true then arrC (doneL (inP n) (k + 1)) n.a.length else arrC (doneL (inP n) k) n.a.length) 3
  co : Blk w co (if l 19 = true then arrC (doneL (outP n) (k + 1)) n.a.length else arrC (doneL (outP n) k) n.a.length) 3
theorem EndSt.step {n : NetD} {base : Nat} {wb : World} {bi bo ci co be ba k kf kt : Nat} {X : Int} {l : Nat → Bool} {w : World} (h : EndSt n base wb bi bo ci co be ba k kf kt X l w) {i : Nat} (h1 : i ≠ 10) (h2 : i ≠ 15) (h3 : i ≠ 17) (h4 : i ≠ 19) : EndSt n base wb bi bo ci co be ba k kf kt X (done l i) w := by
  refine ⟨h.below, h.size, h.e, h.a, ?_, ?_, ?_, ?_⟩
  · have : done l i 10 = l 10 := by unfold done; rw [if_neg (Ne.symm h1)]
    rw [this]; exact h.bi
  · have : done l i 15 = l 15 := by unfold done; rw [if_neg (Ne.symm h2)]
    rw [this]; exact h.bo
  · have : done l i 17 = l 17 := by unfold done; rw [if_neg (Ne.symm h3)]
    rw [this]; exact h.ci
  · have : done l i 19 = l 19 := by unfold done; rw [if_neg (Ne.symm h4)]
    rw [this]; exact h.co
theorem EndSt.drew {n : NetD} {base : Nat} {wb : World} {bi bo ci co be ba k kf kt : Nat} {X : Int} {l : Nat → Bool} {w : World} (h : EndSt n base wb bi bo ci co be ba k kf kt X l w) : EndSt n base wb bi bo ci co be ba k kf kt X l w.drew :=
  ⟨h.below.drew, h.size, h.e, h.a, h.bi, h.bo, h.ci, h.co⟩
/-- .. ahead of the k-th arc. -/
structure EndR (n : NetD) (base : Nat) (wb : World) (bi bo ci co be k : Nat) (w : World) : Prop where
  below : Below base wb w
  size : base ≤ w.heap.size
  e : Blk w be #[.slice (some ⟨bi, 0, none⟩) n.v.length n.v.length, .slice (some ⟨bo, 0, none⟩) n.v.length n.v.length, .slice (some ⟨ci, 0, none⟩) n.a.length n.a.length, .slice (some ⟨co, 0, none⟩) n.a.length n.a.length] 147
  bi : Blk w bi (arrC (fun v => insC (n.a.take k) v) n.v.length) 3
  bo : Blk w bo (arrC (fun v => outsC (n.a.take k) v) n.v.length) 3
  ci : Blk w ci (arrC (doneL (inP n) k) n.a.length) 3
  co : Blk w co (arrC (doneL (outP n) k) n.a.length) 3
theorem EndR.start {n : NetD} {base : Nat} {wb : World} {bi bo ci co be k : Nat} {w : World} (h : EndR n base wb bi bo ci co be k w) (kf kt : Nat) (X : Int) : EndSt n base wb bi bo ci co be w.heap.size k kf kt X (fun _ => false) (w.alloc (.cells #[.int .i64 kf, .int .i64 kt, .int .i64 X] 98)) := by
  refine ⟨h.below.trans ((below_new _).mono h.size), by have := h.size; simp; omega, h.e.old _, Blk.new _ _ _ _ rfl, ?_, ?_, ?_, ?_⟩ <;> rw [if_neg (by simp)]
  · exact h.bi.old _
  · exact h.bo.old _
  · exact h.ci.old _
  · exact h.co.old _
theorem EndSt.fin {n : NetD} {base : Nat} {wb : World} {bi bo ci co be ba k kf kt : Nat} {X : Int} {l : Nat → Bool} {w : World} (h : EndSt n base wb bi bo ci co be ba k kf kt X l w) (h1 : l 10 = true) (h2 : l 15 = true) (h3 : l 17 = true) (h4 : l 19 = true) : EndR n base wb bi bo ci co be (k + 1) w := by
  refine ⟨h.below, h.size, h.e, ?_, ?_, ?_, ?_⟩
  · have := h.bi; rwa [if_pos h1] at this
  · have := h.bo; rwa [if_pos h2] at this
  · have := h.ci; rwa [if_pos h3] at this
  · have := h.co; rwa [if_pos h4] at this
theorem EndSt.w10 {n : NetD} {base : Nat} {wb : World} {bi bo ci co be ba k kf kt : Nat} {X : Int} {l : Nat → Bool} {w : World} (h : EndSt n base wb bi bo ci co be ba k kf kt X l w) (hi : l 10 = false) (hba : bi < ba) (hbase : base ≤ bi) (hne : be ≠ bi ∧ bo ≠ bi ∧ ci ≠ bi ∧ co ≠ bi) (hv : kt < n.v.length) (hs : ∀ j : Nat, insC (n.a.take (k + 1)) j = insC (n.a.take k) j + (if (kt : Int) = j then 1 else 0)) :
    EndSt n base wb bi bo ci co be ba k kf kt X (done l 10) (w.setCell ⟨bi, kt, none⟩ (.int .i64 (insC (n.a.take k) kt + 1))) := by
  refine ⟨h.below.setCell (by simp only []; omega) _, by simpa using h.size, ?_, ?_, ?_, ?_, ?_, ?_⟩
  · exact h.e.other _ _ (by omega)
  · exact h.a.other _ _ (by omega)
  · have : done l 10 10 = true := by unfold done; rw [if_pos rfl]
    rw [if_pos this]
    have hb := h.bi
    rw [if_neg (by rw [hi]; simp)] at hb
    have := hb.set kt (.int .i64 (insC (n.a.take k) kt + 1))
    rwa [arrC_set (g := fun v => insC (n.a.take (k + 1)) v) hv (by rw [hs kt, if_pos rfl]) (fun j hj => by rw [hs j, if_neg (by omega), Int.add_zero])] at this
  · have : done l 10 15 = l 15 := by unfold done; rw [if_neg (by decide)]
    rw [this]; exact h.bo.other _ _ (by omega)
  · have : done l 10 17 = l 17 := by unfold done; rw [if_neg (by decide)]
    rw [this]; exact h.ci.other _ _ (by omega)
  · have : done l 10 19 = l 19 := by unfold done; rw [if_neg (by decide)]
    rw [this]; exact h.co.other _ _ (by omega)
theorem EndSt.w15 {n : NetD} {base : Nat} {wb : World} {bi bo ci co be ba k kf kt : Nat} {X : Int} {l : Nat → Bool} {w : World} (h : EndSt n base wb bi bo ci co be ba k kf kt X l w) (hi : l 15 = false) (hba : bo < ba) (hbase : base ≤ bo) (hne : be ≠ bo ∧ bi ≠ bo ∧ ci ≠ bo ∧ co ≠ bo) (hv : kf < n.v.length) (hs : ∀ j : Nat, outsC (n.a.take (k + 1)) j = outsC (n.a.take k) j + (if (kf : Int) = j then 1 else 0)) :
    EndSt n base wb bi bo ci co be ba k kf kt X (done l 15) (w.setCell ⟨bo, kf, none⟩ (.int .i64 (outsC (n.a.take k) kf + 1))) := by
  refine ⟨h.below.setCell (by simp only []; omega) _, by simpa using h.size, ?_, ?_, ?_, ?_, ?_, ?_⟩
  · exact h.e.other _ _ (by omega)
  · exact h.a.other _ _ (by omega)
  · have : done l 15 10 = l 10 := by unfold done; rw [if_neg (by decide)]
    rw [this]; exact h.bi.other _ _ (by omega)
  · have : done l 15 15 = true := by unfold done; rw [if_pos rfl]
    rw [if_pos this]
    have hb := h.bo
    rw [if_neg (by rw [hi]; simp)] at hb
    have := hb.set kf (.int .i64 (outsC (n.a.take k) kf + 1))
    rwa [arrC_set (g := fun v => outsC (n.a.take (k + 1)) v) hv (by rw [hs kf, if_pos rfl]) (fun j hj => by rw [hs j, if_neg (by omega), Int.add_zero])] at this
  · have : done l 15 17 = l 17 := by unfold done; rw [if_neg (by decide)]
    rw [this]; exact h.ci.other _ _ (by omega)
  · have : done l 15 19 = l 19 := by unfold done; rw [if_neg (by decide)]
    rw [this]; exact h.co.other _ _ (by omega)
theorem EndSt.w17 {n : NetD} {base : Nat} {wb : World} {bi bo ci co be ba k kf kt : Nat} {X : Int} {l : Nat → Bool} {w : World} (h : EndSt n base wb bi bo ci co be ba k kf kt X l w) (hi : l 17 = false) (hba : ci < ba) (hbase : base ≤ ci) (hne : be ≠ ci ∧ bi ≠ ci ∧ bo ≠ ci ∧ co ≠ ci) {C : Int} (hC : inP n k = C) :
    EndSt n base wb bi bo ci co be ba k kf kt X (done l 17) (w.setCell ⟨ci, k, none⟩ (.int .i64 C)) := by
  refine ⟨h.below.setCell (by simp only []; omega) _, by simpa using h.size, ?_, ?_, ?_, ?_, ?_, ?_⟩
  · exact h.e.other _ _ (by omega)
  · exact h.a.other _ _ (by omega)
  · have : done l 17 10 = l 10 := by unfold done; rw [if_neg (by decide)]
    rw [this]; exact h.bi.other _ _ (by omega)
  · have : done l 17 15 = l 15 := by unfold done; rw [if_neg (by decide)]
    rw [this]; exact h.bo.other _ _ (by omega)
  · have : done l 17 17 = true := by unfold done; rw [if_pos rfl]
    rw [if_pos this]
    have hb := h.ci
    rw [if_neg (by rw [hi]; simp)] at hb
    have := hb.set k (.int .i64 C)
    rwa [arrC_put hC] at this
  · have : done l 17 19 = l 19 := by unfold done; rw [if_neg (by decide)]
    rw [this]; exact h.co.other _ _ (by omega)
theorem EndSt.w19 {n : NetD} {base : Nat} {wb : World} {bi bo ci co be ba k kf kt : Nat} {X : Int} {l : Nat → Bool} {w : World} (h : EndSt n base wb bi bo ci co be ba k kf kt X l w) (hi : l 19 = false) (hba : co < ba) (hbase : base ≤ co) (hne : be ≠ co ∧ bi ≠ co ∧ bo ≠ co ∧ ci ≠ co) {C : Int} (hC : outP n k = C) :
    EndSt n base wb bi bo ci co be ba k kf kt X (done l 19) (w.setCell ⟨co, k, none⟩ (.int .i64 C)) := by
  refine ⟨h.below.setCell (by simp only []; omega) _, by simpa using h.size, ?_, ?_, ?_, ?_, ?_, ?_⟩
  · exact h.e.other _ _ (by omega)
  · exact h.a.other _ _ (by omega)
  · have : done l 19 10 = l 10 := by unfold done; rw [if_neg (by decide)]
    rw [this]; exact h.bi.other _ _ (by omega)
  · have : done l 19 15 = l 15 := by unfold done; rw [if_neg (by decide)]
    rw [this]; exact h.bo.other _ _ (by omega)
  · have : done l 19 17 = l 17 := by unfold done; rw [if_neg (by decide)]
    rw [this]; exact h.ci.other _ _ (by omega)
  · have : done l 19 19 = true := by unfold done; rw [if_pos rfl]
    rw [if_pos this]
    have hb := h.co
    rw [if_neg (by rw [hi]; simp)] at hb
    have := hb.set k (.int .i64 C)
    rwa [arrC_put hC] at this

/-- Four rows of zeros, apart. -/
def EndsAgg (W : World) (n : NetD) (v : Value) (w : World) : Prop := ∃ bi bo ci co, v = .agg #[.slice (some ⟨bi, 0, none⟩) n.v.length n.v.length, .slice (some ⟨bo, 0, none⟩) n.v.length n.v.length, .slice (some ⟨ci, 0, none⟩) n.a.length n.a.length, .slice (some ⟨co, 0, none⟩) n.a.length n.a.length] ∧
  (W.heap.size ≤ bi ∧ Blk w bi (arrC (fun _ => 0) n.v.length) 3) ∧ (W.heap.size ≤ bo ∧ Blk w bo (arrC (fun _ => 0) n.v.length) 3) ∧ (W.heap.size ≤ ci ∧ Blk w ci (arrC (fun _ => 0) n.a.length) 3) ∧ (W.heap.size ≤ co ∧ Blk w co (arrC (fun _ => 0) n.a.length) 3) ∧
  bi ≠ bo ∧ bi ≠ ci ∧ bi ≠ co ∧ bo ≠ ci ∧ bo ≠ co ∧ ci ≠ co
theorem EndsAgg.below {W w w' : World} {n : NetD} {v : Value} (h : EndsAgg W n v w) (hb : Below w.heap.size w w') : EndsAgg W n v w' := by
  obtain ⟨bi, bo, ci, co, e, ⟨h1, k1⟩, ⟨h2, k2⟩, ⟨h3, k3⟩, ⟨h4, k4⟩, r⟩ := h
  exact ⟨bi, bo, ci, co, e, ⟨h1, k1.keep hb⟩, ⟨h2, k2.keep hb⟩, ⟨h3, k3.keep hb⟩, ⟨h4, k4.keep hb⟩, r⟩
def PtrEnds (W : World) (v : Value) (w : World) : Prop := ∃ b, v = .pointer (some ⟨b, 0, none⟩) ∧ W.heap.size ≤ b ∧ Blk w b #[.slice none 0 0, .slice none 0 0, .slice none 0 0, .slice none 0 0] 147
theorem PtrEnds.below {W w w' : World} {v : Value} (h : PtrEnds W v w) (hb : Below w.heap.size w w') : PtrEnds W v w' := by
  obtain ⟨b, e, h1, h2⟩ := h
  exact ⟨b, e, h1, h2.keep hb⟩
theorem Blk.ne {w : World} {b b' : Nat} {cs cs' : Array Value} {t t' : TypeId} (h : Blk w b cs t) (h' : Blk w b' cs' t') (ht : t ≠ t') : b ≠ b' := by
  rintro rfl
  unfold Blk at h h'
  rw [h] at h'
  injection h' with e
  injection e with e1 e2
  exact ht e2
/-- What endsOf tells. -/
def EndsV (n : NetD) (v : Value) (w : World) : Prop := ∃ bi bo ci co, v = .agg #[.slice (some ⟨bi, 0, none⟩) n.v.length n.v.length, .slice (some ⟨bo, 0, none⟩) n.v.length n.v.length, .slice (some ⟨ci, 0, none⟩) n.a.length n.a.length, .slice (some ⟨co, 0, none⟩) n.a.length n.a.length] ∧
  Blk w bi (arrC (fun v => insC n.a v) n.v.length) 3 ∧ Blk w bo (arrC (fun v => outsC n.a v) n.v.length) 3 ∧ Blk w ci (arrC (inP n) n.a.length) 3 ∧ Blk w co (arrC (outP n) n.a.length) 3
theorem EndsV.below {n : NetD} {v : Value} {w w' : World} (h : EndsV n v w) (hb : Below w.heap.size w w') : EndsV n v w' := by
  obtain ⟨bi, bo, ci, co, e, h1, h2, h3, h4⟩ := h
  exact ⟨bi, bo, ci, co, e, h1.keep hb, h2.keep hb, h3.keep hb, h4.keep hb⟩

set_option maxHeartbeats 4000000 in
set_option maxRecDepth 100000 in
theorem endsof_any (n : NetD) (vq aq tq : Option Addr) (vc ac tc : Nat) (w : World) (h : NetS w n vq aq tq vc ac tc) (hin : ArcsIn n) (hsv : n.v.length ≤ 4096) (hsa : n.a.length ≤ 16384) :
    Calls Tryz.prog 100 #[netVal n vq aq tq vc ac tc] w fun e w' => ∃ v, e = .returned v ∧ EndsV n v w' ∧ Below w.heap.size w w' := by
  have HIN := Lib.hid hin
  clear hin
  go_enter Tryz.func100, Tryz.ntmps100
  go_wp2_with fail
  obtain ⟨W0, hW0⟩ := named ((w.alloc (.cells #[.slice vq n.v.length vc, .slice aq n.a.length ac, .slice tq n.t.length tc] 62)).alloc (.cells #[.slice none 0 0, .slice none 0 0, .slice none 0 0, .slice none 0 0] 147))
  rw [← hW0]
  have hb0 : Below w.heap.size w W0 := by rw [hW0]; exact below_alloc2 _ _
  have z0 : W0.heap.size = w.heap.size + 2 := by rw [hW0]; simp
  have B0 := Lib.hid hb0
  have K0 : Hid (Blk W0 w.heap.size #[.slice vq n.v.length vc, .slice aq n.a.length ac, .slice tq n.t.length tc] 62) := by rw [hW0]; exact Lib.hid ((Blk.new _ _ _ _ rfl).old _)
  have KR : Hid (Blk W0 (w.heap.size + 1) #[.slice none 0 0, .slice none 0 0, .slice none 0 0, .slice none 0 0] 147) := by rw [hW0]; exact Lib.hid (Blk.new _ _ _ _ (by simp))
  have HS := Lib.hid (h.below hb0)
  clear h hW0 hb0
  have hGS : Grows (fun w' => Below W0.heap.size W0 w') := Grows.below W0
  refine' wp_apL _ 18 (fun w' => Below W0.heap.size W0 w') [[], [0], [1], [2], [], [4], [5], [6], [], [8], [9], [10], [], [12], [13], [14], [3, 7, 11, 15], []] (Fact.lit _ :: Fact.lit _ :: Fact.lit _ :: Fact.fresh _ _ :: Fact.lit _ :: Fact.lit _ :: Fact.lit _ :: Fact.fresh _ _ :: Fact.lit _ :: Fact.lit _ :: Fact.lit _ :: Fact.fresh _ _ :: Fact.lit _ :: Fact.lit _ :: Fact.lit _ :: Fact.fresh _ _ :: Fact.prop _ _ :: Fact.fresh _ _ :: []) (by kernel_rfl) rfl (by kernel_rfl) (Below.refl _ _).drew ?seqone
  case' seqone => skip
  (refine' ap_lit rfl ?wtmk0 ?runmk0 ?putmk0 ?nextmk0; (case wtmk0 => rfl); (case runmk0 => (intro w' hS H; clear H; (obtain ⟨c0, c1, c2, -, -, -⟩ := (K0.out.keep hS).o3); clear hS; go_simp; first | done | exact rfl)); (case putmk0 => (simp only [Act.put, List.setIfInBounds_toArray, List.set_cons_zero, List.set_cons_succ]; first | done | exact rfl)); (case' nextmk0 => skip))
  (refine' ap_lit rfl ?wtmk1 ?runmk1 ?putmk1 ?nextmk1; (case wtmk1 => rfl); (case runmk1 => (intro w' hS H; clear H; (obtain ⟨c0, c1, c2, -, -, -⟩ := (K0.out.keep hS).o3); clear hS; go_simp; first | done | exact rfl)); (case putmk1 => (simp only [Act.put, List.setIfInBounds_toArray, List.set_cons_zero, List.set_cons_succ]; first | done | exact rfl)); (case' nextmk1 => skip))
  (refine' ap_lit rfl ?wtmk2 ?runmk2 ?putmk2 ?nextmk2; (case wtmk2 => rfl); (case runmk2 => (intro w' hS H; clear H; (obtain ⟨c0, c1, c2, -, -, -⟩ := (K0.out.keep hS).o3); clear hS; go_simp; first | done | exact rfl)); (case putmk2 => (simp only [Act.put, List.setIfInBounds_toArray, List.set_cons_zero, List.set_cons_succ]; first | done | exact rfl)); (case' nextmk2 => skip))
  (refine' ap_fresh (p := NewInts W0 n.v.length) (hp := fun v w w' h hb => h.below hb) hGS rfl ?wtmk3 ?runmk3 ?putmk3 ?nextmk3; (case wtmk3 => rfl); (case runmk3 => (intro w' hS H; clear H; refine ⟨.slice (some ⟨w'.heap.size, 0, none⟩) n.v.length n.v.length, w'.alloc (.cells (arrC (fun _ => 0) n.v.length) 3), ?_, ⟨w'.heap.size, rfl, hS.size, Blk.new _ _ _ _ rfl⟩, ⟨w'.heap.size, rfl, Nat.le_refl _, by simp⟩, below_new _⟩; have hmk := run_makeN n.v.length (by omega) w'; (clear hS; go_simp; (first | done | simp only [hmk] | (simp [hmk]))))); (case putmk3 => (intro v; simp only [Act.put, List.setIfInBounds_toArray, List.set_cons_zero, List.set_cons_succ]; first | done | exact rfl)); (case' nextmk3 => intro v3))
  (refine' ap_lit rfl ?wtmk4 ?runmk4 ?putmk4 ?nextmk4; (case wtmk4 => rfl); (case runmk4 => (intro w' hS H; clear H; (obtain ⟨c0, c1, c2, -, -, -⟩ := (K0.out.keep hS).o3); clear hS; go_simp; first | done | exact rfl)); (case putmk4 => (simp only [Act.put, List.setIfInBounds_toArray, List.set_cons_zero, List.set_cons_succ]; first | done | exact rfl)); (case' nextmk4 => skip))
  (refine' ap_lit rfl ?wtmk5 ?runmk5 ?putmk5 ?nextmk5; (case wtmk5 => rfl); (case runmk5 => (intro w' hS H; clear H; (obtain ⟨c0, c1, c2, -, -, -⟩ := (K0.out.keep hS).o3); clear hS; go_simp; first | done | exact rfl)); (case putmk5 => (simp only [Act.put, List.setIfInBounds_toArray, List.set_cons_zero, List.set_cons_succ]; first | done | exact rfl)); (case' nextmk5 => skip))
  (refine' ap_lit rfl ?wtmk6 ?runmk6 ?putmk6 ?nextmk6; (case wtmk6 => rfl); (case runmk6 => (intro w' hS H; clear H; (obtain ⟨c0, c1, c2, -, -, -⟩ := (K0.out.keep hS).o3); clear hS; go_simp; first | done | exact rfl)); (case putmk6 => (simp only [Act.put, List.setIfInBounds_toArray, List.set_cons_zero, List.set_cons_succ]; first | done | exact rfl)); (case' nextmk6 => skip))
  (refine' ap_fresh (p := NewInts W0 n.v.length) (hp := fun v w w' h hb => h.below hb) hGS rfl ?wtmk7 ?runmk7 ?putmk7 ?nextmk7; (case wtmk7 => rfl); (case runmk7 => (intro w' hS H; clear H; refine ⟨.slice (some ⟨w'.heap.size, 0, none⟩) n.v.length n.v.length, w'.alloc (.cells (arrC (fun _ => 0) n.v.length) 3), ?_, ⟨w'.heap.size, rfl, hS.size, Blk.new _ _ _ _ rfl⟩, ⟨w'.heap.size, rfl, Nat.le_refl _, by simp⟩, below_new _⟩; have hmk := run_makeN n.v.length (by omega) w'; (clear hS; go_simp; (first | done | simp only [hmk] | (simp [hmk]))))); (case putmk7 => (intro v; simp only [Act.put, List.setIfInBounds_toArray, List.set_cons_zero, List.set_cons_succ]; first | done | exact rfl)); (case' nextmk7 => intro v7))
  (refine' ap_lit rfl ?wtmk8 ?runmk8 ?putmk8 ?nextmk8; (case wtmk8 => rfl); (case runmk8 => (intro w' hS H; clear H; (obtain ⟨c0, c1, c2, -, -, -⟩ := (K0.out.keep hS).o3); clear hS; go_simp; first | done | exact rfl)); (case putmk8 => (simp only [Act.put, List.setIfInBounds_toArray, List.set_cons_zero, List.set_cons_succ]; first | done | exact rfl)); (case' nextmk8 => skip))
  (refine' ap_lit rfl ?wtmk9 ?runmk9 ?putmk9 ?nextmk9; (case wtmk9 => rfl); (case runmk9 => (intro w' hS H; clear H; (obtain ⟨c0, c1, c2, -, -, -⟩ := (K0.out.keep hS).o3); clear hS; go_simp; first | done | exact rfl)); (case putmk9 => (simp only [Act.put, List.setIfInBounds_toArray, List.set_cons_zero, List.set_cons_succ]; first | done | exact rfl)); (case' nextmk9 => skip))
  (refine' ap_lit rfl ?wtmk10 ?runmk10 ?putmk10 ?nextmk10; (case wtmk10 => rfl); (case runmk10 => (intro w' hS H; clear H; (obtain ⟨c0, c1, c2, -, -, -⟩ := (K0.out.keep hS).o3); clear hS; go_simp; first | done | exact rfl)); (case putmk10 => (simp only [Act.put, List.setIfInBounds_toArray, List.set_cons_zero, List.set_cons_succ]; first | done | exact rfl)); (case' nextmk10 => skip))
  (refine' ap_fresh (p := NewInts W0 n.a.length) (hp := fun v w w' h hb => h.below hb) hGS rfl ?wtmk11 ?runmk11 ?putmk11 ?nextmk11; (case wtmk11 => rfl); (case runmk11 => (intro w' hS H; clear H; refine ⟨.slice (some ⟨w'.heap.size, 0, none⟩) n.a.length n.a.length, w'.alloc (.cells (arrC (fun _ => 0) n.a.length) 3), ?_, ⟨w'.heap.size, rfl, hS.size, Blk.new _ _ _ _ rfl⟩, ⟨w'.heap.size, rfl, Nat.le_refl _, by simp⟩, below_new _⟩; have hmk := run_makeN n.a.length (by omega) w'; (clear hS; go_simp; (first | done | simp only [hmk] | (simp [hmk]))))); (case putmk11 => (intro v; simp only [Act.put, List.setIfInBounds_toArray, List.set_cons_zero, List.set_cons_succ]; first | done | exact rfl)); (case' nextmk11 => intro v11))
  (refine' ap_lit rfl ?wtmk12 ?runmk12 ?putmk12 ?nextmk12; (case wtmk12 => rfl); (case runmk12 => (intro w' hS H; clear H; (obtain ⟨c0, c1, c2, -, -, -⟩ := (K0.out.keep hS).o3); clear hS; go_simp; first | done | exact rfl)); (case putmk12 => (simp only [Act.put, List.setIfInBounds_toArray, List.set_cons_zero, List.set_cons_succ]; first | done | exact rfl)); (case' nextmk12 => skip))
  (refine' ap_lit rfl ?wtmk13 ?runmk13 ?putmk13 ?nextmk13; (case wtmk13 => rfl); (case runmk13 => (intro w' hS H; clear H; (obtain ⟨c0, c1, c2, -, -, -⟩ := (K0.out.keep hS).o3); clear hS; go_simp; first | done | exact rfl)); (case putmk13 => (simp only [Act.put, List.setIfInBounds_toArray, List.set_cons_zero, List.set_cons_succ]; first | done | exact rfl)); (case' nextmk13 => skip))
  (refine' ap_lit rfl ?wtmk14 ?runmk14 ?putmk14 ?nextmk14; (case wtmk14 => rfl); (case runmk14 => (intro w' hS H; clear H; (obtain ⟨c0, c1, c2, -, -, -⟩ := (K0.out.keep hS).o3); clear hS; go_simp; first | done | exact rfl)); (case putmk14 => (simp only [Act.put, List.setIfInBounds_toArray, List.set_cons_zero, List.set_cons_succ]; first | done | exact rfl)); (case' nextmk14 => skip))
  (refine' ap_fresh (p := NewInts W0 n.a.length) (hp := fun v w w' h hb => h.below hb) hGS rfl ?wtmk15 ?runmk15 ?putmk15 ?nextmk15; (case wtmk15 => rfl); (case runmk15 => (intro w' hS H; clear H; refine ⟨.slice (some ⟨w'.heap.size, 0, none⟩) n.a.length n.a.length, w'.alloc (.cells (arrC (fun _ => 0) n.a.length) 3), ?_, ⟨w'.heap.size, rfl, hS.size, Blk.new _ _ _ _ rfl⟩, ⟨w'.heap.size, rfl, Nat.le_refl _, by simp⟩, below_new _⟩; have hmk := run_makeN n.a.length (by omega) w'; (clear hS; go_simp; (first | done | simp only [hmk] | (simp [hmk]))))); (case putmk15 => (intro v; simp only [Act.put, List.setIfInBounds_toArray, List.set_cons_zero, List.set_cons_succ]; first | done | exact rfl)); (case' nextmk15 => intro v15))
  (refine' ap_prop (p := EndsAgg W0 n) (hp := fun v w w' h hb => h.below hb) rfl ?wtmk16 ?runmk16 ?putmk16 ?nextmk16; (case wtmk16 => rfl); (case runmk16 => (intro w' hS H G; (have q3 : NewInts W0 n.v.length v3 w' := H 3 (by decide)); (have q7 : NewInts W0 n.v.length v7 w' := H 7 (by decide)); (have q11 : NewInts W0 n.a.length v11 w' := H 11 (by decide)); (have q15 : NewInts W0 n.a.length v15 w' := H 15 (by decide)); clear H hS; obtain ⟨bi, rfl, q3⟩ := q3; obtain ⟨bo, rfl, q7⟩ := q7; obtain ⟨ci, rfl, q11⟩ := q11; obtain ⟨co, rfl, q15⟩ := q15; (have g1 : bi ≠ bo := fun e => G 3 (by decide) 7 (by decide) (by decide) rfl rfl 9 13 rfl rfl (by subst e; rfl)); (have g2 : bi ≠ ci := fun e => G 3 (by decide) 11 (by decide) (by decide) rfl rfl 9 17 rfl rfl (by subst e; rfl)); (have g3 : bi ≠ co := fun e => G 3 (by decide) 15 (by decide) (by decide) rfl rfl 9 21 rfl rfl (by subst e; rfl)); (have g4 : bo ≠ ci := fun e => G 7 (by decide) 11 (by decide) (by decide) rfl rfl 13 17 rfl rfl (by subst e; rfl)); (have g5 : bo ≠ co := fun e => G 7 (by decide) 15 (by decide) (by decide) rfl rfl 13 21 rfl rfl (by subst e; rfl)); (have g6 : ci ≠ co := fun e => G 11 (by decide) 15 (by decide) (by decide) rfl rfl 17 21 rfl rfl (by subst e; rfl)); clear G; refine ⟨_, ?_, ⟨bi, bo, ci, co, rfl, q3, q7, q11, q15, g1, g2, g3, g4, g5, g6⟩⟩; clear q3 q7 q11 q15 g1 g2 g3 g4 g5 g6; go_simp; first | done | exact rfl)); (case putmk16 => (intro v; simp only [Act.put, List.setIfInBounds_toArray, List.set_cons_zero, List.set_cons_succ]; first | done | exact rfl)); (case' nextmk16 => intro v16))
  (refine' ap_fresh (p := PtrEnds W0) (hp := fun v w w' h hb => h.below hb) hGS rfl ?wtmk17 ?runmk17 ?putmk17 ?nextmk17; (case wtmk17 => rfl); (case runmk17 => (intro w' hS H; clear H; refine ⟨.pointer (some ⟨w'.heap.size, 0, none⟩), w'.alloc (.cells #[.slice none 0 0, .slice none 0 0, .slice none 0 0, .slice none 0 0] 147), ?_, ⟨w'.heap.size, rfl, hS.size, Blk.new _ _ _ _ rfl⟩, ⟨w'.heap.size, rfl, Nat.le_refl _, by simp⟩, below_new _⟩; (clear hS; go_simp))); (case putmk17 => (intro v; simp only [Act.put, List.setIfInBounds_toArray, List.set_cons_zero, List.set_cons_succ]; first | done | exact rfl)); (case' nextmk17 => intro v17))
  intro w9 hb hk _
  have q16 : EndsAgg W0 n v16 w9 := hk 16 (by decide)
  have q17 : PtrEnds W0 v17 w9 := hk 17 (by decide)
  obtain ⟨bi, bo, ci, co, rfl, ⟨hbi, ki⟩, ⟨hbo, ko⟩, ⟨hci, kx⟩, ⟨hco, ky⟩, n1, n2, n3, n4, n5, n6⟩ := q16
  obtain ⟨be, rfl, hbe, ke⟩ := q17
  have m1 := ki.ne ke (by decide)
  have m2 := ko.ne ke (by decide)
  have m3 := kx.ne ke (by decide)
  have m4 := ky.ne ke (by decide)
  have l1 := ki.lt
  have l2 := ko.lt
  have l3 := kx.lt
  have l4 := ky.lt
  have l5 := ke.lt
  have z9 := hb.size
  clear hk hGS
  obtain ⟨s0, s1, s2, s3, f0, f1, f2, f3⟩ := ke.o4
  refine wpAny_ready (rs := [18]) (by kernel_rfl) (by simp) (AllReady.cons rfl (fun K hK => ?_) AllReady.nil)
  go_simp
  refine hK _ _ ?_
  clear hK K
  refine wpAny_done (by kernel_rfl) ?_ _
  clear s0 s1 s2 s3 f0 f1 f2 f3
  obtain ⟨W1, hW1⟩ := named ((((w9.setCell ⟨be, 0, none⟩ (.slice (some ⟨bi, 0, none⟩) n.v.length n.v.length)).setCell ⟨be, 1, none⟩ (.slice (some ⟨bo, 0, none⟩) n.v.length n.v.length)).setCell ⟨be, 2, none⟩ (.slice (some ⟨ci, 0, none⟩) n.a.length n.a.length)).setCell ⟨be, 3, none⟩ (.slice (some ⟨co, 0, none⟩) n.a.length n.a.length))
  rw [← hW1]
  have HR0 : Hid (EndR n W0.heap.size W0 bi bo ci co be 0 W1) := by
    rw [hW1]
    refine Lib.hid ⟨?_, by simp; omega, ?_, ?_, ?_, ?_, ?_⟩
    · iterate 4 (refine Below.setCell ?_ (by simp only []; omega) _)
      exact hb
    · have := (((ke.set 0 (.slice (some ⟨bi, 0, none⟩) n.v.length n.v.length)).set 1 (.slice (some ⟨bo, 0, none⟩) n.v.length n.v.length)).set 2 (.slice (some ⟨ci, 0, none⟩) n.a.length n.a.length)).set 3 (.slice (some ⟨co, 0, none⟩) n.a.length n.a.length)
      simpa using this
    · exact (((ki.other _ _ m1).other _ _ m1).other _ _ m1).other _ _ m1
    · exact (((ko.other _ _ m2).other _ _ m2).other _ _ m2).other _ _ m2
    · rw [doneL_zero]; exact (((kx.other _ _ m3).other _ _ m3).other _ _ m3).other _ _ m3
    · rw [doneL_zero]; exact (((ky.other _ _ m4).other _ _ m4).other _ _ m4).other _ _ m4
  clear hW1 ki ko kx ky ke hb l1 l2 l3 l4 l5 z9
  have K1 := Lib.hid (K0.out.keep HR0.out.below)
  obtain ⟨c0, c1, c2, -, -, -⟩ := K1.out.o3
  go_wp2_with fail
  clear c0 c1 c2 K1
  go_loopw [4, 5, 26] (fun _ _ i wr => ∃ k : Nat, k ≤ n.a.length ∧ i = .int .i64 k ∧ Hid (EndR n W0.heap.size W0 bi bo ci co be k wr)) (fun _ _ i _ => n.a.length - (intOf i).toNat)
  case atStart => exact ⟨0, Nat.zero_le _, rfl, HR0⟩
  case round =>
    obtain ⟨k, hk, rfl, HE⟩ := hrel
    clear HR0
    by_cases hlt : k < n.a.length
    · have hli : (k : Int) < (n.a.length : Int) := by omega
      obtain ⟨ab, ao, rfl, x0, x1, x2⟩ := (HS.out.below HE.out.below).a.at hlt
      have hbb := World.block_lt_of_cell? wr _ x0
      obtain ⟨g0, g1, g2, g3⟩ := HIN.out k hlt
      obtain ⟨⟨F, T, X⟩, eA⟩ : ∃ A, n.a[k] = A := ⟨_, rfl⟩
      rw [eA] at x0 x1 x2 g0 g1 g2 g3
      simp only [] at x0 x1 x2 g0 g1 g2 g3
      obtain ⟨kf, rfl⟩ : ∃ kf : Nat, F = kf := ⟨F.toNat, by omega⟩
      obtain ⟨kt, rfl⟩ : ∃ kt : Nat, T = kt := ⟨T.toNat, by omega⟩
      have hF : kf < n.v.length := by omega
      have hT : kt < n.v.length := by omega
      have HOS : Hid (∀ j : Nat, outsC (n.a.take (k + 1)) j = outsC (n.a.take k) j + (if (kf : Int) = j then 1 else 0)) := Lib.hid (fun j => by rw [outsC_snoc hlt, eA])
      have HIS : Hid (∀ j : Nat, insC (n.a.take (k + 1)) j = insC (n.a.take k) j + (if (kt : Int) = j then 1 else 0)) := Lib.hid (fun j => by rw [insC_snoc hlt, eA])
      have ob := outsC_bd (n.a.take k) kf
      have ib := insC_bd (n.a.take k) kt
      have hlk : (n.a.take k).length ≤ 16384 := by rw [List.length_take]; omega
      have hPI : inP n k = insC (n.a.take k) kt := by rw [inP_at hlt, eA]
      have hPO : outP n k = outsC (n.a.take k) kf := by rw [outP_at hlt, eA]
      obtain ⟨CO, eCO⟩ : ∃ CO, outsC (n.a.take k) kf = CO := ⟨_, rfl⟩
      obtain ⟨CI, eCI⟩ : ∃ CI, insC (n.a.take k) kt = CI := ⟨_, rfl⟩
      rw [eCO] at ob hPO
      rw [eCI] at ib hPI
      have HO2 : Hid (0 ≤ CO ∧ CO ≤ 1000000) := Lib.hid ⟨ob.1, by omega⟩
      have HI2 : Hid (0 ≤ CI ∧ CI ≤ 1000000) := Lib.hid ⟨ib.1, by omega⟩
      have ECO := Lib.hid eCO
      have ECI := Lib.hid eCI
      have EPI := Lib.hid hPI
      have EPO := Lib.hid hPO
      have HST := Lib.hid (HE.out.start kf kt X)
      have z2 := HE.out.size
      have y1 := HE.out.bi.lt
      have y2 := HE.out.bo.lt
      have y3 := HE.out.ci.lt
      have y4 := HE.out.co.lt
      have N1 := Lib.hid (And.intro n1 (And.intro n2 (And.intro n3 (And.intro m1 (And.intro n4 (And.intro n5 (And.intro m2 (And.intro n6 (And.intro m3 m4)))))))))
      have B1 := Lib.hid (And.intro hbi (And.intro hbo (And.intro hci (And.intro hco (And.intro y1 (And.intro y2 (And.intro y3 y4)))))))
      clear eA eCO eCI ob ib hlk hPI hPO g0 g1 g2 g3 y1 y2 y3 y4 n1 n2 n3 n4 n5 n6 m1 m2 m3 m4 hbi hbo hci hco HE
      go_wp2_with fail
      clear x0 x1 x2
      refine' wp_stageL _ (EndSt n W0.heap.size W0 bi bo ci co be wr.heap.size k kf kt X) [[], [0], [], [], [3], [], [], [6], [], [8], [6, 7, 8, 9], [], [11], [], [13], [11, 12, 13, 14], [0, 1, 2], [0, 1, 2, 6, 7, 8, 9, 10, 16], [3, 4, 5], [3, 4, 5, 11, 12, 13, 14, 15, 18]] (Fact.lit _ :: Fact.lit _ :: Fact.lit _ :: Fact.lit _ :: Fact.lit _ :: Fact.lit _ :: Fact.lit _ :: Fact.lit _ :: Fact.lit _ :: Fact.lit _ :: Fact.lit _ :: Fact.lit _ :: Fact.lit _ :: Fact.lit _ :: Fact.lit _ :: Fact.lit _ :: Fact.lit _ :: Fact.lit _ :: Fact.lit _ :: Fact.lit _ :: []) ((Lits.cons _ (Lits.cons _ (Lits.cons _ (Lits.cons _ (Lits.cons _ (Lits.cons _ (Lits.cons _ (Lits.cons _ (Lits.cons _ (Lits.cons _ (Lits.cons _ (Lits.cons _ (Lits.cons _ (Lits.cons _ (Lits.cons _ (Lits.cons _ (Lits.cons _ (Lits.cons _ (Lits.cons _ (Lits.cons _ Lits.nil))))))))))))))))))))) (by kernel_rfl) rfl (by kernel_rfl) (HST.out.drew) ?stgst
      case' stgst => skip
      (refine' st_lit rfl ?wtst0 ?stst0 ?runst0 ?putst0 ?nextst0; (case wtst0 => rfl); (case stst0 => (intro l w' h; exact h.step (by decide) (by decide) (by decide) (by decide))); (case runst0 => (intro l w' hS; (obtain ⟨e0, e1, e2, e3, -, -, -, -⟩ := hS.e.o4); (obtain ⟨a0, a1, a2, -, -, -⟩ := hS.a.o3); clear hS; go_simp; first | done | exact rfl)); (case putst0 => (simp only [Act.put, List.setIfInBounds_toArray, List.set_cons_zero, List.set_cons_succ]; first | done | exact rfl)); (case' nextst0 => skip))
      (refine' st_lit rfl ?wtst1 ?stst1 ?runst1 ?putst1 ?nextst1; (case wtst1 => rfl); (case stst1 => (intro l w' h; exact h.step (by decide) (by decide) (by decide) (by decide))); (case runst1 => (intro l w' hS; (obtain ⟨e0, e1, e2, e3, -, -, -, -⟩ := hS.e.o4); (obtain ⟨a0, a1, a2, -, -, -⟩ := hS.a.o3); clear hS; go_simp; first | done | exact rfl)); (case putst1 => (simp only [Act.put, List.setIfInBounds_toArray, List.set_cons_zero, List.set_cons_succ]; first | done | exact rfl)); (case' nextst1 => skip))
      (refine' st_lit rfl ?wtst2 ?stst2 ?runst2 ?putst2 ?nextst2; (case wtst2 => rfl); (case stst2 => (intro l w' h; exact h.step (by decide) (by decide) (by decide) (by decide))); (case runst2 => (intro l w' hS; (obtain ⟨e0, e1, e2, e3, -, -, -, -⟩ := hS.e.o4); (obtain ⟨a0, a1, a2, -, -, -⟩ := hS.a.o3); clear hS; go_simp; first | done | exact rfl)); (case putst2 => (simp only [Act.put, List.setIfInBounds_toArray, List.set_cons_zero, List.set_cons_succ]; first | done | exact rfl)); (case' nextst2 => skip))
      (refine' st_lit rfl ?wtst3 ?stst3 ?runst3 ?putst3 ?nextst3; (case wtst3 => rfl); (case stst3 => (intro l w' h; exact h.step (by decide) (by decide) (by decide) (by decide))); (case runst3 => (intro l w' hS; (obtain ⟨e0, e1, e2, e3, -, -, -, -⟩ := hS.e.o4); (obtain ⟨a0, a1, a2, -, -, -⟩ := hS.a.o3); clear hS; go_simp; first | done | exact rfl)); (case putst3 => (simp only [Act.put, List.setIfInBounds_toArray, List.set_cons_zero, List.set_cons_succ]; first | done | exact rfl)); (case' nextst3 => skip))
      (refine' st_lit rfl ?wtst4 ?stst4 ?runst4 ?putst4 ?nextst4; (case wtst4 => rfl); (case stst4 => (intro l w' h; exact h.step (by decide) (by decide) (by decide) (by decide))); (case runst4 => (intro l w' hS; (obtain ⟨e0, e1, e2, e3, -, -, -, -⟩ := hS.e.o4); (obtain ⟨a0, a1, a2, -, -, -⟩ := hS.a.o3); clear hS; go_simp; first | done | exact rfl)); (case putst4 => (simp only [Act.put, List.setIfInBounds_toArray, List.set_cons_zero, List.set_cons_succ]; first | done | exact rfl)); (case' nextst4 => skip))
      (refine' st_lit rfl ?wtst5 ?stst5 ?runst5 ?putst5 ?nextst5; (case wtst5 => rfl); (case stst5 => (intro l w' h; exact h.step (by decide) (by decide) (by decide) (by decide))); (case runst5 => (intro l w' hS; (obtain ⟨e0, e1, e2, e3, -, -, -, -⟩ := hS.e.o4); (obtain ⟨a0, a1, a2, -, -, -⟩ := hS.a.o3); clear hS; go_simp; first | done | exact rfl)); (case putst5 => (simp only [Act.put, List.setIfInBounds_toArray, List.set_cons_zero, List.set_cons_succ]; first | done | exact rfl)); (case' nextst5 => skip))
      (refine' st_lit rfl ?wtst6 ?stst6 ?runst6 ?putst6 ?nextst6; (case wtst6 => rfl); (case stst6 => (intro l w' h; exact h.step (by decide) (by decide) (by decide) (by decide))); (case runst6 => (intro l w' hS; (obtain ⟨e0, e1, e2, e3, -, -, -, -⟩ := hS.e.o4); (obtain ⟨a0, a1, a2, -, -, -⟩ := hS.a.o3); clear hS; go_simp; first | done | exact rfl)); (case putst6 => (simp only [Act.put, List.setIfInBounds_toArray, List.set_cons_zero, List.set_cons_succ]; first | done | exact rfl)); (case' nextst6 => skip))
      (refine' st_lit rfl ?wtst7 ?stst7 ?runst7 ?putst7 ?nextst7; (case wtst7 => rfl); (case stst7 => (intro l w' h; exact h.step (by decide) (by decide) (by decide) (by decide))); (case runst7 => (intro l w' hS; (obtain ⟨e0, e1, e2, e3, -, -, -, -⟩ := hS.e.o4); (obtain ⟨a0, a1, a2, -, -, -⟩ := hS.a.o3); clear hS; go_simp; first | done | exact rfl)); (case putst7 => (simp only [Act.put, List.setIfInBounds_toArray, List.set_cons_zero, List.set_cons_succ]; first | done | exact rfl)); (case' nextst7 => skip))
      (refine' st_lit rfl ?wtst8 ?stst8 ?runst8 ?putst8 ?nextst8; (case wtst8 => rfl); (case stst8 => (intro l w' h; exact h.step (by decide) (by decide) (by decide) (by decide))); (case runst8 => (intro l w' hS; (obtain ⟨e0, e1, e2, e3, -, -, -, -⟩ := hS.e.o4); (obtain ⟨a0, a1, a2, -, -, -⟩ := hS.a.o3); clear hS; go_simp; first | done | exact rfl)); (case putst8 => (simp only [Act.put, List.setIfInBounds_toArray, List.set_cons_zero, List.set_cons_succ]; first | done | exact rfl)); (case' nextst8 => skip))
      (refine' st_lit rfl ?wtst9 ?stst9 ?runst9 ?putst9 ?nextst9; (case wtst9 => rfl); (case stst9 => (intro l w' h; exact h.step (by decide) (by decide) (by decide) (by decide))); (case runst9 => (intro l w' hS; (obtain ⟨e0, e1, e2, e3, -, -, -, -⟩ := hS.e.o4); (obtain ⟨a0, a1, a2, -, -, -⟩ := hS.a.o3); clear hS; go_simp; first | done | exact rfl)); (case putst9 => (simp only [Act.put, List.setIfInBounds_toArray, List.set_cons_zero, List.set_cons_succ]; first | done | exact rfl)); (case' nextst9 => skip))
      (refine' st_call (u := .int .i64 CI) rfl Tryz.func108 (by kernel_rfl) rfl rfl ?wtst10 ?runst10 ?putst10 ?nextst10; (case wtst10 => rfl); (case runst10 => (intro l w' hS hi hk; (obtain ⟨n1, n2, n3, m1, n4, n5, m2, n6, m3, m4⟩ := N1.out); (obtain ⟨hbi, hbo, hci, hco, y1, y2, y3, y4⟩ := B1.out); exact (ntake_at bi n.v.length n.v.length (fun v => insC (n.a.take k) v) kt CI w' (by have := hS.bi; rwa [if_neg (by rw [hi]; simp)] at this) hT ECI.out HI2.out.1 HI2.out.2).mono (fun e w2 h => ⟨h.1, by rw [h.2, ← ECI.out]; exact hS.w10 hi y1 hbi ⟨Ne.symm m1, Ne.symm n1, Ne.symm n2, Ne.symm n3⟩ hT HIS.out⟩))); (case putst10 => (simp only [Act.put, List.setIfInBounds_toArray, List.set_cons_zero, List.set_cons_succ]; first | done | exact rfl)); (case' nextst10 => skip))
      (refine' st_lit rfl ?wtst11 ?stst11 ?runst11 ?putst11 ?nextst11; (case wtst11 => rfl); (case stst11 => (intro l w' h; exact h.step (by decide) (by decide) (by decide) (by decide))); (case runst11 => (intro l w' hS; (obtain ⟨e0, e1, e2, e3, -, -, -, -⟩ := hS.e.o4); (obtain ⟨a0, a1, a2, -, -, -⟩ := hS.a.o3); clear hS; go_simp; first | done | exact rfl)); (case putst11 => (simp only [Act.put, List.setIfInBounds_toArray, List.set_cons_zero, List.set_cons_succ]; first | done | exact rfl)); (case' nextst11 => skip))
      (refine' st_lit rfl ?wtst12 ?stst12 ?runst12 ?putst12 ?nextst12; (case wtst12 => rfl); (case stst12 => (intro l w' h; exact h.step (by decide) (by decide) (by decide) (by decide))); (case runst12 => (intro l w' hS; (obtain ⟨e0, e1, e2, e3, -, -, -, -⟩ := hS.e.o4); (obtain ⟨a0, a1, a2, -, -, -⟩ := hS.a.o3); clear hS; go_simp; first | done | exact rfl)); (case putst12 => (simp only [Act.put, List.setIfInBounds_toArray, List.set_cons_zero, List.set_cons_succ]; first | done | exact rfl)); (case' nextst12 => skip))
      (refine' st_lit rfl ?wtst13 ?stst13 ?runst13 ?putst13 ?nextst13; (case wtst13 => rfl); (case stst13 => (intro l w' h; exact h.step (by decide) (by decide) (by decide) (by decide))); (case runst13 => (intro l w' hS; (obtain ⟨e0, e1, e2, e3, -, -, -, -⟩ := hS.e.o4); (obtain ⟨a0, a1, a2, -, -, -⟩ := hS.a.o3); clear hS; go_simp; first | done | exact rfl)); (case putst13 => (simp only [Act.put, List.setIfInBounds_toArray, List.set_cons_zero, List.set_cons_succ]; first | done | exact rfl)); (case' nextst13 => skip))
      (refine' st_lit rfl ?wtst14 ?stst14 ?runst14 ?putst14 ?nextst14; (case wtst14 => rfl); (case stst14 => (intro l w' h; exact h.step (by decide) (by decide) (by decide) (by decide))); (case runst14 => (intro l w' hS; (obtain ⟨e0, e1, e2, e3, -, -, -, -⟩ := hS.e.o4); (obtain ⟨a0, a1, a2, -, -, -⟩ := hS.a.o3); clear hS; go_simp; first | done | exact rfl)); (case putst14 => (simp only [Act.put, List.setIfInBounds_toArray, List.set_cons_zero, List.set_cons_succ]; first | done | exact rfl)); (case' nextst14 => skip))
      (refine' st_call (u := .int .i64 CO) rfl Tryz.func108 (by kernel_rfl) rfl rfl ?wtst15 ?runst15 ?putst15 ?nextst15; (case wtst15 => rfl); (case runst15 => (intro l w' hS hi hk; (obtain ⟨n1, n2, n3, m1, n4, n5, m2, n6, m3, m4⟩ := N1.out); (obtain ⟨hbi, hbo, hci, hco, y1, y2, y3, y4⟩ := B1.out); exact (ntake_at bo n.v.length n.v.length (fun v => outsC (n.a.take k) v) kf CO w' (by have := hS.bo; rwa [if_neg (by rw [hi]; simp)] at this) hF ECO.out HO2.out.1 HO2.out.2).mono (fun e w2 h => ⟨h.1, by rw [h.2, ← ECO.out]; exact hS.w15 hi y2 hbo ⟨Ne.symm m2, n1, Ne.symm n4, Ne.symm n5⟩ hF HOS.out⟩))); (case putst15 => (simp only [Act.put, List.setIfInBounds_toArray, List.set_cons_zero, List.set_cons_succ]; first | done | exact rfl)); (case' nextst15 => skip))
      (refine' st_lit rfl ?wtst16 ?stst16 ?runst16 ?putst16 ?nextst16; (case wtst16 => rfl); (case stst16 => (intro l w' h; exact h.step (by decide) (by decide) (by decide) (by decide))); (case runst16 => (intro l w' hS; (obtain ⟨e0, e1, e2, e3, -, -, -, -⟩ := hS.e.o4); (obtain ⟨a0, a1, a2, -, -, -⟩ := hS.a.o3); clear hS; go_simp; first | done | exact rfl)); (case putst16 => (simp only [Act.put, List.setIfInBounds_toArray, List.set_cons_zero, List.set_cons_succ]; first | done | exact rfl)); (case' nextst16 => skip))
      (refine' st_write (u := undef) rfl ?wtst17 ?runst17 ?putst17 ?nextst17; (case wtst17 => rfl); (case runst17 => (intro l w' hS hi hk; (obtain ⟨n1, n2, n3, m1, n4, n5, m2, n6, m3, m4⟩ := N1.out); (obtain ⟨hbi, hbo, hci, hco, y1, y2, y3, y4⟩ := B1.out); refine ⟨.skip, w'.setCell ⟨ci, k, none⟩ (.int .i64 CI), ?_, Or.inr ⟨rfl, rfl⟩, hS.w17 hi y3 hci ⟨Ne.symm m3, n2, n4, Ne.symm n6⟩ EPI.out⟩; (have hc := hS.ci); rw [if_neg (by rw [hi]; simp)] at hc; (have x := hc.cell k (arrC_at (doneL (inP n) k) hlt)); (have f := hc.free k); clear hc hS hk n1 n2 n3 m1 n4 n5 m2 n6 m3 m4; go_simp)); (case putst17 => rfl); (case' nextst17 => skip))
      (refine' st_lit rfl ?wtst18 ?stst18 ?runst18 ?putst18 ?nextst18; (case wtst18 => rfl); (case stst18 => (intro l w' h; exact h.step (by decide) (by decide) (by decide) (by decide))); (case runst18 => (intro l w' hS; (obtain ⟨e0, e1, e2, e3, -, -, -, -⟩ := hS.e.o4); (obtain ⟨a0, a1, a2, -, -, -⟩ := hS.a.o3); clear hS; go_simp; first | done | exact rfl)); (case putst18 => (simp only [Act.put, List.setIfInBounds_toArray, List.set_cons_zero, List.set_cons_succ]; first | done | exact rfl)); (case' nextst18 => skip))
      (refine' st_write (u := undef) rfl ?wtst19 ?runst19 ?putst19 ?nextst19; (case wtst19 => rfl); (case runst19 => (intro l w' hS hi hk; (obtain ⟨n1, n2, n3, m1, n4, n5, m2, n6, m3, m4⟩ := N1.out); (obtain ⟨hbi, hbo, hci, hco, y1, y2, y3, y4⟩ := B1.out); refine ⟨.skip, w'.setCell ⟨co, k, none⟩ (.int .i64 CO), ?_, Or.inr ⟨rfl, rfl⟩, hS.w19 hi y4 hco ⟨Ne.symm m4, n3, n5, n6⟩ EPO.out⟩; (have hc := hS.co); rw [if_neg (by rw [hi]; simp)] at hc; (have x := hc.cell k (arrC_at (doneL (outP n) k) hlt)); (have f := hc.free k); clear hc hS hk n1 n2 n3 m1 n4 n5 m2 n6 m3 m4; go_simp)); (case putst19 => rfl); (case' nextst19 => skip))
      intro l w' hS hall
      have HE2 := Lib.hid (hS.fin (hall 10 (by decide)) (hall 15 (by decide)) (hall 17 (by decide)) (hall 19 (by decide)))
      clear hS hall
      go_wp2_with fail
      go_roundw
      case rel => exact ⟨k + 1, by omega, by go_num, HE2⟩
      case measure => simp [intOf]; omega
    · have hli : ¬ (k : Int) < (n.a.length : Int) := by omega
      obtain rfl : k = n.a.length := by omega
      have KR1 := Lib.hid (KR.out.keep HE.out.below)
      have k1 := HE.out.bi
      have k2 := HE.out.bo
      have k3 := HE.out.ci
      have k4 := HE.out.co
      rw [List.take_length] at k1 k2
      rw [arrC_congr (g := inP n) (fun i hi => by simp [doneL, hi])] at k3
      rw [arrC_congr (g := outP n) (fun i hi => by simp [doneL, hi])] at k4
      have r1 := HE.out.bi.lt
      obtain ⟨e0, e1, e2, e3, -, -, -, -⟩ := HE.out.e.o4
      obtain ⟨r0, r1, r2, r3, f0, f1, f2, f3⟩ := KR1.out.o4
      have hkr := KR1.out.lt
      have hz := HE.out.size
      have p1 : bi ≠ w.heap.size + 1 := by omega
      have p2 : bo ≠ w.heap.size + 1 := by omega
      have p3 : ci ≠ w.heap.size + 1 := by omega
      have p4 : co ≠ w.heap.size + 1 := by omega
      have q1 := Lib.hid ((((k1.other 0 (.slice (some ⟨bi, 0, none⟩) n.v.length n.v.length) p1).other 1 (.slice (some ⟨bo, 0, none⟩) n.v.length n.v.length) p1).other 2 (.slice (some ⟨ci, 0, none⟩) n.a.length n.a.length) p1).other 3 (.slice (some ⟨co, 0, none⟩) n.a.length n.a.length) p1)
      have q2 := Lib.hid ((((k2.other 0 (.slice (some ⟨bi, 0, none⟩) n.v.length n.v.length) p2).other 1 (.slice (some ⟨bo, 0, none⟩) n.v.length n.v.length) p2).other 2 (.slice (some ⟨ci, 0, none⟩) n.a.length n.a.length) p2).other 3 (.slice (some ⟨co, 0, none⟩) n.a.length n.a.length) p2)
      have q3 := Lib.hid ((((k3.other 0 (.slice (some ⟨bi, 0, none⟩) n.v.length n.v.length) p3).other 1 (.slice (some ⟨bo, 0, none⟩) n.v.length n.v.length) p3).other 2 (.slice (some ⟨ci, 0, none⟩) n.a.length n.a.length) p3).other 3 (.slice (some ⟨co, 0, none⟩) n.a.length n.a.length) p3)
      have q4 := Lib.hid ((((k4.other 0 (.slice (some ⟨bi, 0, none⟩) n.v.length n.v.length) p4).other 1 (.slice (some ⟨bo, 0, none⟩) n.v.length n.v.length) p4).other 2 (.slice (some ⟨ci, 0, none⟩) n.a.length n.a.length) p4).other 3 (.slice (some ⟨co, 0, none⟩) n.a.length n.a.length) p4)
      have HZ := Lib.hid (((((B0.out.trans (HE.out.below.mono (by omega))).setCell (p := ⟨w.heap.size + 1, 0, none⟩) (by simp only []; omega) (.slice (some ⟨bi, 0, none⟩) n.v.length n.v.length)).setCell (p := ⟨w.heap.size + 1, 1, none⟩) (by simp only []; omega) (.slice (some ⟨bo, 0, none⟩) n.v.length n.v.length)).setCell (p := ⟨w.heap.size + 1, 2, none⟩) (by simp only []; omega) (.slice (some ⟨ci, 0, none⟩) n.a.length n.a.length)).setCell (p := ⟨w.heap.size + 1, 3, none⟩) (by simp only []; omega) (.slice (some ⟨co, 0, none⟩) n.a.length n.a.length))
      clear k1 k2 k3 k4 HE KR1
      go_wp2_with fail
      exact bodyPost_ret (v := .agg #[.slice (some ⟨bi, 0, none⟩) n.v.length n.v.length, .slice (some ⟨bo, 0, none⟩) n.v.length n.v.length, .slice (some ⟨ci, 0, none⟩) n.a.length n.a.length, .slice (some ⟨co, 0, none⟩) n.a.length n.a.length]) (by simp [results, Tryz.results100, go_sem]; go_simp) rfl ⟨_, rfl, ⟨bi, bo, ci, co, rfl, q1.out, q2.out, q3.out, q4.out⟩, HZ.out⟩

end Go.Proofs.YtgihaakgadmidaaGreat
