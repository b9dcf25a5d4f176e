/-
  The document's nets: what it costs to turn.
-/
import Derived.Test.YtgihaakgadmidaaGreatA1
import Derived.Test.YtgihaakgadmidaaGreatRNetA
import Derived.Test.YtgihaakgadmidaaGreatA2
import Derived.Test.YtgihaakgadmidaaGreatGrow
namespace Go.Proofs.YtgihaakgadmidaaGreat
open Go.RowKit

set_option maxHeartbeats 2000000 in
set_option maxRecDepth 100000 in
theorem rturn_outa (n : NetD) (vq aq tq : Option Addr) (vc ac tc : Nat) (a b : Int) (w : World) (h : NetS w n vq aq tq vc ac tc) (ha : n.there a = false) :
    Calls Tryz.prog 35 #[netVal n vq aq tq vc ac tc, .int .i64 a, .int .i64 b] w fun e w' => e = .returned (.int .i64 1152921504606846976) ∧ Below w.heap.size w w' := by
  have HA := Lib.hid ha
  clear ha
  go_enter Tryz.func35, Tryz.ntmps35
  go_wp2_with fail
  obtain ⟨W0, hW0⟩ := named (w.alloc (.cells #[.slice vq n.v.length vc, .slice aq n.a.length ac, .slice tq n.t.length tc] 26))
  rw [← hW0]
  have B0 : Hid (Below w.heap.size w W0) := by rw [hW0]; exact Lib.hid (below_new _)
  have K0 : Hid (Blk W0 w.heap.size #[.slice vq n.v.length vc, .slice aq n.a.length ac, .slice tq n.t.length tc] 26) := by rw [hW0]; exact Lib.hid (Blk.new _ _ _ _ rfl)
  have HS := Lib.hid (h.below B0.out)
  clear h hW0
  have hGS : Grows (fun w' => Below W0.heap.size W0 w') := Grows.below W0
  refine' wp_growL _ (fun w' => Below W0.heap.size W0 w') [[], [], [0, 1], [2], [3], [4], [4], [4, 5, 6], [4, 7], [4, 8], [9], [10], [10, 11], [10], [10, 12, 13], [10, 14], [10, 15], [10], [10, 17], [10], [10, 18, 19], [10, 20], [10, 21], [10, 16, 22], [10, 23]] (Fact.lit _ :: Fact.lit _ :: Fact.lit _ :: Fact.lit _ :: Fact.lit _ :: Fact.lit _ :: Fact.lit _ :: Fact.lit _ :: Fact.lit _ :: Fact.lit _ :: Fact.lit _ :: Fact.lit _ :: Fact.lit _ :: Fact.lit _ :: Fact.lit _ :: Fact.lit _ :: Fact.lit _ :: Fact.lit _ :: Fact.lit _ :: Fact.lit _ :: Fact.lit _ :: Fact.lit _ :: Fact.lit _ :: Fact.lit _ :: Fact.lit _ :: []) (by kernel_rfl) rfl (by kernel_rfl) (Below.refl _ _).drew ?seqonea
  case' seqonea => skip
  iterate 2 ((first | (apply grow_skip; (case hf => rfl); (case hw => rfl)) | (apply grow_lit; (case hf => rfl); (case hw => rfl); (case hrun => (intro w' hS H; clear H; (obtain ⟨c0, c1, c2, -, -, -⟩ := (K0.out.keep hS).o3); clear hS; go_simp; first | done | exact rfl)))); (case hc => (simp only [Act.put, List.setIfInBounds_toArray, List.set_cons_zero, List.set_cons_succ]; first | done | exact rfl)); (try (case hj => rfl)))
  (refine' grow_call (u := .bool false) rfl Tryz.func28 (by kernel_rfl) rfl hGS rfl ?wt1 ?run1 ?put1 ?next1; (case wt1 => rfl); (case run1 => (intro w' hS H; exact (rthere_any n _ _ _ vc ac tc a w').mono (fun e w2 h => ⟨h.1.trans (by rw [HA.out]), h.2⟩))); (case put1 => (simp only [Act.put, List.setIfInBounds_toArray, List.set_cons_zero, List.set_cons_succ]; first | done | exact rfl)); (case' next1 => skip))
  iterate 22 ((first | (apply grow_skip; (case hf => rfl); (case hw => rfl)) | (apply grow_lit; (case hf => rfl); (case hw => rfl); (case hrun => (intro w' hS H; clear H; (obtain ⟨c0, c1, c2, -, -, -⟩ := (K0.out.keep hS).o3); clear hS; go_simp; first | done | exact rfl)))); (case hc => (simp only [Act.put, List.setIfInBounds_toArray, List.set_cons_zero, List.set_cons_succ]; first | done | exact rfl)); (try (case hj => rfl)))
  intro w1 hb _
  have HB1 := Lib.hid hb
  clear hb hGS
  go_wp2_with fail
  go_ret
  exact ⟨rfl, B0.out.trans (HB1.out.mono B0.out.size)⟩

set_option maxHeartbeats 2000000 in
set_option maxRecDepth 100000 in
theorem rturn_outb (n : NetD) (vq aq tq : Option Addr) (vc ac tc : Nat) (a b : Int) (w : World) (h : NetS w n vq aq tq vc ac tc) (ha : n.there a = true) (hb : n.there b = false) :
    Calls Tryz.prog 35 #[netVal n vq aq tq vc ac tc, .int .i64 a, .int .i64 b] w fun e w' => e = .returned (.int .i64 1152921504606846976) ∧ Below w.heap.size w w' := by
  have HA := Lib.hid ha
  have HB := Lib.hid hb
  clear ha hb
  go_enter Tryz.func35, Tryz.ntmps35
  go_wp2_with fail
  obtain ⟨W0, hW0⟩ := named (w.alloc (.cells #[.slice vq n.v.length vc, .slice aq n.a.length ac, .slice tq n.t.length tc] 26))
  rw [← hW0]
  have B0 : Hid (Below w.heap.size w W0) := by rw [hW0]; exact Lib.hid (below_new _)
  have K0 : Hid (Blk W0 w.heap.size #[.slice vq n.v.length vc, .slice aq n.a.length ac, .slice tq n.t.length tc] 26) := by rw [hW0]; exact Lib.hid (Blk.new _ _ _ _ rfl)
  have HS := Lib.hid (h.below B0.out)
  clear h hW0
  have hGS : Grows (fun w' => Below W0.heap.size W0 w') := Grows.below W0
  refine' wp_growL _ (fun w' => Below W0.heap.size W0 w') [[], [], [0, 1], [2], [3], [4], [4], [4, 5, 6], [4, 7], [4, 8], [9], [10], [10, 11], [10], [10, 12, 13], [10, 14], [10, 15], [10], [10, 17], [10], [10, 18, 19], [10, 20], [10, 21], [10, 16, 22], [10, 23]] (Fact.lit _ :: Fact.lit _ :: Fact.lit _ :: Fact.lit _ :: Fact.lit _ :: Fact.lit _ :: Fact.lit _ :: Fact.lit _ :: Fact.lit _ :: Fact.lit _ :: Fact.lit _ :: Fact.lit _ :: Fact.lit _ :: Fact.lit _ :: Fact.lit _ :: Fact.lit _ :: Fact.lit _ :: Fact.lit _ :: Fact.lit _ :: Fact.lit _ :: Fact.lit _ :: Fact.lit _ :: Fact.lit _ :: Fact.lit _ :: Fact.lit _ :: []) (by kernel_rfl) rfl (by kernel_rfl) (Below.refl _ _).drew ?seqoneb
  case' seqoneb => skip
  iterate 2 ((first | (apply grow_skip; (case hf => rfl); (case hw => rfl)) | (apply grow_lit; (case hf => rfl); (case hw => rfl); (case hrun => (intro w' hS H; clear H; (obtain ⟨c0, c1, c2, -, -, -⟩ := (K0.out.keep hS).o3); clear hS; go_simp; first | done | exact rfl)))); (case hc => (simp only [Act.put, List.setIfInBounds_toArray, List.set_cons_zero, List.set_cons_succ]; first | done | exact rfl)); (try (case hj => rfl)))
  (refine' grow_call (u := .bool true) rfl Tryz.func28 (by kernel_rfl) rfl hGS rfl ?wt2 ?run2 ?put2 ?next2; (case wt2 => rfl); (case run2 => (intro w' hS H; exact (rthere_any n _ _ _ vc ac tc a w').mono (fun e w2 h => ⟨h.1.trans (by rw [HA.out]), h.2⟩))); (case put2 => (simp only [Act.put, List.setIfInBounds_toArray, List.set_cons_zero, List.set_cons_succ]; first | done | exact rfl)); (case' next2 => skip))
  iterate 4 ((first | (apply grow_skip; (case hf => rfl); (case hw => rfl)) | (apply grow_lit; (case hf => rfl); (case hw => rfl); (case hrun => (intro w' hS H; clear H; (obtain ⟨c0, c1, c2, -, -, -⟩ := (K0.out.keep hS).o3); clear hS; go_simp; first | done | exact rfl)))); (case hc => (simp only [Act.put, List.setIfInBounds_toArray, List.set_cons_zero, List.set_cons_succ]; first | done | exact rfl)); (try (case hj => rfl)))
  (refine' grow_call (u := .bool false) rfl Tryz.func28 (by kernel_rfl) rfl hGS rfl ?wt3 ?run3 ?put3 ?next3; (case wt3 => rfl); (case run3 => (intro w' hS H; exact (rthere_any n _ _ _ vc ac tc b w').mono (fun e w2 h => ⟨h.1.trans (by rw [HB.out]), h.2⟩))); (case put3 => (simp only [Act.put, List.setIfInBounds_toArray, List.set_cons_zero, List.set_cons_succ]; first | done | exact rfl)); (case' next3 => skip))
  iterate 17 ((first | (apply grow_skip; (case hf => rfl); (case hw => rfl)) | (apply grow_lit; (case hf => rfl); (case hw => rfl); (case hrun => (intro w' hS H; clear H; (obtain ⟨c0, c1, c2, -, -, -⟩ := (K0.out.keep hS).o3); clear hS; go_simp; first | done | exact rfl)))); (case hc => (simp only [Act.put, List.setIfInBounds_toArray, List.set_cons_zero, List.set_cons_succ]; first | done | exact rfl)); (try (case hj => rfl)))
  intro w1 hb _
  have HB1 := Lib.hid hb
  clear hb hGS
  go_wp2_with fail
  go_ret
  exact ⟨rfl, B0.out.trans (HB1.out.mono B0.out.size)⟩

set_option maxHeartbeats 2000000 in
set_option maxRecDepth 100000 in
theorem rturn_inc (n : NetD) (vq aq tq : Option Addr) (vc ac tc : Nat) (ka kb : Nat) (w : World) (h : NetS w n vq aq tq vc ac tc) (hka : ka < n.a.length) (hkb : kb < n.a.length) (hne : ¬ n.a[ka].2.1 = n.a[kb].1) :
    Calls Tryz.prog 35 #[netVal n vq aq tq vc ac tc, .int .i64 ka, .int .i64 kb] w fun e w' => e = .returned (.int .i64 1152921504606846976) ∧ Below w.heap.size w w' := by
  obtain ⟨ab, ao, rfl, xa0, xa, -⟩ := h.a.at hka
  obtain ⟨ab', ao', e, xb, -, -⟩ := h.a.at hkb
  obtain ⟨rfl, rfl⟩ : ab = ab' ∧ ao = ao' := by injection e with e; injection e with e1 e2; exact ⟨e1, e2⟩
  clear e xa0
  obtain ⟨A, eA⟩ : ∃ A, n.a[ka].2.1 = A := ⟨_, rfl⟩
  obtain ⟨B, eB⟩ : ∃ B, n.a[kb].1 = B := ⟨_, rfl⟩
  rw [eA] at xa hne
  rw [eB] at xb hne
  clear eA eB
  have hne' : (A == B) = false := by simpa using hne
  have hne2 : (A != B) = true := by simpa using hne
  clear hne
  have HA := Lib.hid (there_at (n := n) hka)
  have HB := Lib.hid (there_at (n := n) hkb)
  have hla : (ka : Int) < (n.a.length : Int) := by omega
  have hlb : (kb : Int) < (n.a.length : Int) := by omega
  have XA' := Lib.hid xa
  have XB' := Lib.hid xb
  clear xa xb
  go_enter Tryz.func35, Tryz.ntmps35
  go_wp2_with fail
  obtain ⟨W0, hW0⟩ := named (w.alloc (.cells #[.slice vq n.v.length vc, .slice (some ⟨ab, ao, none⟩) n.a.length ac, .slice tq n.t.length tc] 26))
  rw [← hW0]
  have B0 : Hid (Below w.heap.size w W0) := by rw [hW0]; exact Lib.hid (below_new _)
  have K0 : Hid (Blk W0 w.heap.size #[.slice vq n.v.length vc, .slice (some ⟨ab, ao, none⟩) n.a.length ac, .slice tq n.t.length tc] 26) := by rw [hW0]; exact Lib.hid (Blk.new _ _ _ _ rfl)
  have HS := Lib.hid (h.below B0.out)
  clear h hW0
  have XA := Lib.hid (keep B0.out XA'.out)
  have XB := Lib.hid (keep B0.out XB'.out)
  clear XA' XB'
  have hGS : Grows (fun w' => Below W0.heap.size W0 w') := Grows.below W0
  refine' wp_growL _ (fun w' => Below W0.heap.size W0 w') [[], [], [0, 1], [2], [3], [4], [4], [4, 5, 6], [4, 7], [4, 8], [9], [10], [10, 11], [10], [10, 12, 13], [10, 14], [10, 15], [10], [10, 17], [10], [10, 18, 19], [10, 20], [10, 21], [10, 16, 22], [10, 23]] (Fact.lit _ :: Fact.lit _ :: Fact.lit _ :: Fact.lit _ :: Fact.lit _ :: Fact.lit _ :: Fact.lit _ :: Fact.lit _ :: Fact.lit _ :: Fact.lit _ :: Fact.lit _ :: Fact.lit _ :: Fact.lit _ :: Fact.lit _ :: Fact.lit _ :: Fact.lit _ :: Fact.lit _ :: Fact.lit _ :: Fact.lit _ :: Fact.lit _ :: Fact.lit _ :: Fact.lit _ :: Fact.lit _ :: Fact.lit _ :: Fact.lit _ :: []) (by kernel_rfl) rfl (by kernel_rfl) (Below.refl _ _).drew ?seqonec
  case' seqonec => skip
  iterate 2 ((first | (apply grow_skip; (case hf => rfl); (case hw => rfl)) | (apply grow_lit; (case hf => rfl); (case hw => rfl); (case hrun => (intro w' hS H; clear H; (obtain ⟨c0, c1, c2, -, -, -⟩ := (K0.out.keep hS).o3); clear hS; go_simp; first | done | exact rfl)))); (case hc => (simp only [Act.put, List.setIfInBounds_toArray, List.set_cons_zero, List.set_cons_succ]; first | done | exact rfl)); (try (case hj => rfl)))
  (refine' grow_call (u := .bool true) rfl Tryz.func28 (by kernel_rfl) rfl hGS rfl ?wt4 ?run4 ?put4 ?next4; (case wt4 => rfl); (case run4 => (intro w' hS H; exact (rthere_any n _ _ _ vc ac tc ka w').mono (fun e w2 h => ⟨h.1.trans (by rw [HA.out]), h.2⟩))); (case put4 => (simp only [Act.put, List.setIfInBounds_toArray, List.set_cons_zero, List.set_cons_succ]; first | done | exact rfl)); (case' next4 => skip))
  iterate 4 ((first | (apply grow_skip; (case hf => rfl); (case hw => rfl)) | (apply grow_lit; (case hf => rfl); (case hw => rfl); (case hrun => (intro w' hS H; clear H; (obtain ⟨c0, c1, c2, -, -, -⟩ := (K0.out.keep hS).o3); clear hS; go_simp; first | done | exact rfl)))); (case hc => (simp only [Act.put, List.setIfInBounds_toArray, List.set_cons_zero, List.set_cons_succ]; first | done | exact rfl)); (try (case hj => rfl)))
  (refine' grow_call (u := .bool true) rfl Tryz.func28 (by kernel_rfl) rfl hGS rfl ?wt5 ?run5 ?put5 ?next5; (case wt5 => rfl); (case run5 => (intro w' hS H; exact (rthere_any n _ _ _ vc ac tc kb w').mono (fun e w2 h => ⟨h.1.trans (by rw [HB.out]), h.2⟩))); (case put5 => (simp only [Act.put, List.setIfInBounds_toArray, List.set_cons_zero, List.set_cons_succ]; first | done | exact rfl)); (case' next5 => skip))
  iterate 17 ((first | (apply grow_skip; (case hf => rfl); (case hw => rfl)) | (apply grow_lit; (case hf => rfl); (case hw => rfl); (case hrun => (intro w' hS H; clear H; (obtain ⟨c0, c1, c2, -, -, -⟩ := (K0.out.keep hS).o3); (have xa := keep hS XA.out); (have xb := keep hS XB.out); clear hS; go_simp; first | done | exact rfl)))); (case hc => (simp only [Act.put, List.setIfInBounds_toArray, List.set_cons_zero, List.set_cons_succ]; first | done | exact rfl)); (try (case hj => rfl)))
  intro w1 hb _
  have HB1 := Lib.hid hb
  clear hb hGS
  go_wp2_with fail
  go_ret
  exact ⟨rfl, B0.out.trans (HB1.out.mono B0.out.size)⟩

set_option maxHeartbeats 2000000 in
set_option maxRecDepth 100000 in
theorem rturn_ind (n : NetD) (vq aq tq : Option Addr) (vc ac tc : Nat) (ka kb : Nat) (w : World) (h : NetS w n vq aq tq vc ac tc) (hg : NetGood n) (hka : ka < n.a.length) (hkb : kb < n.a.length) (heq : n.a[ka].2.1 = n.a[kb].1) (kv : Nat) (ekv : n.a[ka].2.1 = kv) (hkv : kv < n.v.length) (kt : Nat) (ekt : n.v[kv].2.2 = kt) (hkt : kt < n.t.length) :
    Calls Tryz.prog 35 #[netVal n vq aq tq vc ac tc, .int .i64 ka, .int .i64 kb] w fun e w' => e = .returned (.int .i64 (turnAt n.t[kt].1 n.t[kt].2.1 n.t[kt].2.2 (placeL (insL n.a kv) ka) (placeL (outsL n.a kv) kb))) ∧ Below w.heap.size w w' := by
  obtain ⟨ab, ao, rfl, xa0, xa, -⟩ := h.a.at hka
  obtain ⟨ab', ao', e, xb, -, -⟩ := h.a.at hkb
  obtain ⟨rfl, rfl⟩ : ab = ab' ∧ ao = ao' := by injection e with e; injection e with e1 e2; exact ⟨e1, e2⟩
  clear e xa0
  rw [ekv] at xa
  rw [← heq, ekv] at xb
  obtain ⟨vb, vo, rfl, -, -, xv⟩ := h.v.at hkv
  rw [ekt] at xv
  obtain ⟨tb, to, tu, rfl, xt0, xt1, xt2, ht⟩ := h.t.at hkt
  have htab := hg.tabs kt hkt
  obtain ⟨T, eT⟩ : ∃ T, n.t[kt] = T := ⟨_, rfl⟩
  rw [eT] at xt0 xt1 ht htab
  obtain ⟨q0, q1, q2, q3, hn, -⟩ := chkT_ok (I := T.1) (O := T.2.1) (l := T.2.2) (by rw [htab])
  obtain ⟨tq', tc', rfl⟩ := ht.shape
  have HN := Lib.hid hn
  have HQ := Lib.hid (And.intro q0 (And.intro q1 (And.intro q2 q3)))
  have HSA := Lib.hid hg.sa
  rw [eT]
  clear heq ekv ekt eT htab hn q0 q1 q2 q3 hg
  have hlv : (kv : Int) < (n.v.length : Int) := by omega
  have hlt : (kt : Int) < (n.t.length : Int) := by omega
  have hbv := World.block_lt_of_cell? w _ xv
  have hbt := World.block_lt_of_cell? w _ xt0
  have HA := Lib.hid (there_at (n := n) hka)
  have HB := Lib.hid (there_at (n := n) hkb)
  have hla : (ka : Int) < (n.a.length : Int) := by omega
  have hlb : (kb : Int) < (n.a.length : Int) := by omega
  have XA' := Lib.hid xa
  have XB' := Lib.hid xb
  clear xa xb
  have XV' := Lib.hid xv
  have XT0' := Lib.hid xt0
  have XT1' := Lib.hid xt1
  have XT2' := Lib.hid xt2
  have HT' := Lib.hid ht
  clear xv xt0 xt1 xt2 ht
  go_enter Tryz.func35, Tryz.ntmps35
  go_wp2_with fail
  obtain ⟨W0, hW0⟩ := named (w.alloc (.cells #[.slice (some ⟨vb, vo, none⟩) n.v.length vc, .slice (some ⟨ab, ao, none⟩) n.a.length ac, .slice (some ⟨tb, to, none⟩) n.t.length tc] 26))
  rw [← hW0]
  have B0 : Hid (Below w.heap.size w W0) := by rw [hW0]; exact Lib.hid (below_new _)
  have K0 : Hid (Blk W0 w.heap.size #[.slice (some ⟨vb, vo, none⟩) n.v.length vc, .slice (some ⟨ab, ao, none⟩) n.a.length ac, .slice (some ⟨tb, to, none⟩) n.t.length tc] 26) := by rw [hW0]; exact Lib.hid (Blk.new _ _ _ _ rfl)
  have HS := Lib.hid (h.below B0.out)
  clear h hW0
  have XA := Lib.hid (keep B0.out XA'.out)
  have XB := Lib.hid (keep B0.out XB'.out)
  clear XA' XB'
  have XV := Lib.hid (keep B0.out XV'.out)
  have XT0 := Lib.hid (keep B0.out XT0'.out)
  have XT1 := Lib.hid (keep B0.out XT1'.out)
  have XT2 := Lib.hid (keep B0.out XT2'.out)
  have HT := Lib.hid (HT'.out.below B0.out)
  clear XV' XT0' XT1' XT2' HT'
  have hGS : Grows (fun w' => Below W0.heap.size W0 w') := Grows.below W0
  refine' wp_growL _ (fun w' => Below W0.heap.size W0 w') [[], [], [0, 1], [2], [3], [4], [4], [4, 5, 6], [4, 7], [4, 8], [9], [10], [10, 11], [10], [10, 12, 13], [10, 14], [10, 15], [10], [10, 17], [10], [10, 18, 19], [10, 20], [10, 21], [10, 16, 22], [10, 23]] (Fact.lit _ :: Fact.lit _ :: Fact.lit _ :: Fact.lit _ :: Fact.lit _ :: Fact.lit _ :: Fact.lit _ :: Fact.lit _ :: Fact.lit _ :: Fact.lit _ :: Fact.lit _ :: Fact.lit _ :: Fact.lit _ :: Fact.lit _ :: Fact.lit _ :: Fact.lit _ :: Fact.lit _ :: Fact.lit _ :: Fact.lit _ :: Fact.lit _ :: Fact.lit _ :: Fact.lit _ :: Fact.lit _ :: Fact.lit _ :: Fact.lit _ :: []) (by kernel_rfl) rfl (by kernel_rfl) (Below.refl _ _).drew ?seqoned
  case' seqoned => skip
  iterate 2 ((first | (apply grow_skip; (case hf => rfl); (case hw => rfl)) | (apply grow_lit; (case hf => rfl); (case hw => rfl); (case hrun => (intro w' hS H; clear H; (obtain ⟨c0, c1, c2, -, -, -⟩ := (K0.out.keep hS).o3); clear hS; go_simp; first | done | exact rfl)))); (case hc => (simp only [Act.put, List.setIfInBounds_toArray, List.set_cons_zero, List.set_cons_succ]; first | done | exact rfl)); (try (case hj => rfl)))
  (refine' grow_call (u := .bool true) rfl Tryz.func28 (by kernel_rfl) rfl hGS rfl ?wt6 ?run6 ?put6 ?next6; (case wt6 => rfl); (case run6 => (intro w' hS H; exact (rthere_any n _ _ _ vc ac tc ka w').mono (fun e w2 h => ⟨h.1.trans (by rw [HA.out]), h.2⟩))); (case put6 => (simp only [Act.put, List.setIfInBounds_toArray, List.set_cons_zero, List.set_cons_succ]; first | done | exact rfl)); (case' next6 => skip))
  iterate 4 ((first | (apply grow_skip; (case hf => rfl); (case hw => rfl)) | (apply grow_lit; (case hf => rfl); (case hw => rfl); (case hrun => (intro w' hS H; clear H; (obtain ⟨c0, c1, c2, -, -, -⟩ := (K0.out.keep hS).o3); clear hS; go_simp; first | done | exact rfl)))); (case hc => (simp only [Act.put, List.setIfInBounds_toArray, List.set_cons_zero, List.set_cons_succ]; first | done | exact rfl)); (try (case hj => rfl)))
  (refine' grow_call (u := .bool true) rfl Tryz.func28 (by kernel_rfl) rfl hGS rfl ?wt7 ?run7 ?put7 ?next7; (case wt7 => rfl); (case run7 => (intro w' hS H; exact (rthere_any n _ _ _ vc ac tc kb w').mono (fun e w2 h => ⟨h.1.trans (by rw [HB.out]), h.2⟩))); (case put7 => (simp only [Act.put, List.setIfInBounds_toArray, List.set_cons_zero, List.set_cons_succ]; first | done | exact rfl)); (case' next7 => skip))
  iterate 17 ((first | (apply grow_skip; (case hf => rfl); (case hw => rfl)) | (apply grow_lit; (case hf => rfl); (case hw => rfl); (case hrun => (intro w' hS H; clear H; (obtain ⟨c0, c1, c2, -, -, -⟩ := (K0.out.keep hS).o3); (have xa := keep hS XA.out); (have xb := keep hS XB.out); clear hS; go_simp; first | done | exact rfl)))); (case hc => (simp only [Act.put, List.setIfInBounds_toArray, List.set_cons_zero, List.set_cons_succ]; first | done | exact rfl)); (try (case hj => rfl)))
  intro w1 hb _
  have HB1 := Lib.hid hb
  clear hb hGS
  obtain ⟨c0, c1, c2, -, -, -⟩ := (K0.out.keep HB1.out).o3
  have xa := keep HB1.out XA.out
  go_wp2_with fail
  clear c0 c1 c2 xa
  have hGS : Grows (fun w' => Below W0.heap.size W0 w') := Grows.below W0
  refine' wp_growL _ (fun w' => Below W0.heap.size W0 w') [[], [0], [], [2], [], [3, 4], [5], [6], [1, 7], [8], [], [], [10, 11], [], [12, 13], [], [], [15, 16], [], [17, 18], [9, 14, 19], [20]] (Fact.lit _ :: Fact.lit _ :: Fact.lit _ :: Fact.lit _ :: Fact.lit _ :: Fact.lit _ :: Fact.lit _ :: Fact.lit _ :: Fact.lit _ :: Fact.lit _ :: Fact.lit _ :: Fact.lit _ :: Fact.prop _ _ :: Fact.lit _ :: Fact.lit _ :: Fact.lit _ :: Fact.lit _ :: Fact.prop _ _ :: Fact.lit _ :: Fact.lit _ :: Fact.lit _ :: Fact.lit _ :: []) (by kernel_rfl) rfl (by kernel_rfl) HB1.out.drew ?seqfour
  case' seqfour => skip
  iterate 12 ((first | (apply grow_skip; (case hf => rfl); (case hw => rfl)) | (apply grow_lit; (case hf => rfl); (case hw => rfl); (case hrun => (intro w' hS H; clear H; (obtain ⟨c0, c1, c2, -, -, -⟩ := (K0.out.keep hS).o3); (have xv := keep hS XV.out); (have xt0 := keep hS XT0.out); (have xt1 := keep hS XT1.out); (have xt2 := keep hS XT2.out); clear hS; go_simp; first | done | exact rfl)))); (case hc => (simp only [Act.put, List.setIfInBounds_toArray, List.set_cons_zero, List.set_cons_succ]; first | done | exact rfl)); (try (case hj => rfl)))
  (refine' grow_callP (p := fun v w => I64s w v (insL n.a kv)) (hp := fun v w w' h hb => h.below hb) rfl Tryz.func58 (by kernel_rfl) rfl hGS rfl ?wt8 ?run8 ?put8 ?next8; (case wt8 => rfl); (case run8 => (intro w' hS H; exact (rins_any n _ _ _ vc ac tc kv w' (by have := HSA.out; omega) (HS.out.below hS)).mono (fun e w2 ⟨v, h1, h2, h3⟩ => ⟨v, h1, h2, h3⟩))); (case put8 => (intro v; simp only [Act.put, List.setIfInBounds_toArray, List.set_cons_zero, List.set_cons_succ]; first | done | exact rfl)); (case' next8 => intro v12))
  iterate 1 ((first | (apply grow_skip; (case hf => rfl); (case hw => rfl)) | (apply grow_lit; (case hf => rfl); (case hw => rfl); (case hrun => (intro w' hS H; clear H; (obtain ⟨c0, c1, c2, -, -, -⟩ := (K0.out.keep hS).o3); (have xv := keep hS XV.out); (have xt0 := keep hS XT0.out); (have xt1 := keep hS XT1.out); (have xt2 := keep hS XT2.out); clear hS; go_simp; first | done | exact rfl)))); (case hc => (simp only [Act.put, List.setIfInBounds_toArray, List.set_cons_zero, List.set_cons_succ]; first | done | exact rfl)); (try (case hj => rfl)))
  (refine' grow_call (u := .int .i64 (placeL (insL n.a kv) ka)) rfl Tryz.func19 (by kernel_rfl) rfl hGS rfl ?wt9 ?run9 ?put9 ?next9; (case wt9 => rfl); (case run9 => (intro w' hS H; (have hv : I64s w' v12 (insL n.a kv) := H 12 (by decide)); exact (rplace_any v12 _ ka w' hv).mono (fun e w2 ⟨h1, h2⟩ => ⟨h1, h2 ▸ Below.refl _ _⟩))); (case put9 => (simp only [Act.put, List.setIfInBounds_toArray, List.set_cons_zero, List.set_cons_succ]; first | done | exact rfl)); (case' next9 => skip))
  iterate 2 ((first | (apply grow_skip; (case hf => rfl); (case hw => rfl)) | (apply grow_lit; (case hf => rfl); (case hw => rfl); (case hrun => (intro w' hS H; clear H; (obtain ⟨c0, c1, c2, -, -, -⟩ := (K0.out.keep hS).o3); (have xv := keep hS XV.out); (have xt0 := keep hS XT0.out); (have xt1 := keep hS XT1.out); (have xt2 := keep hS XT2.out); clear hS; go_simp; first | done | exact rfl)))); (case hc => (simp only [Act.put, List.setIfInBounds_toArray, List.set_cons_zero, List.set_cons_succ]; first | done | exact rfl)); (try (case hj => rfl)))
  (refine' grow_callP (p := fun v w => I64s w v (outsL n.a kv)) (hp := fun v w w' h hb => h.below hb) rfl Tryz.func59 (by kernel_rfl) rfl hGS rfl ?wt10 ?run10 ?put10 ?next10; (case wt10 => rfl); (case run10 => (intro w' hS H; exact (routs_any n _ _ _ vc ac tc kv w' (by have := HSA.out; omega) (HS.out.below hS)).mono (fun e w2 ⟨v, h1, h2, h3⟩ => ⟨v, h1, h2, h3⟩))); (case put10 => (intro v; simp only [Act.put, List.setIfInBounds_toArray, List.set_cons_zero, List.set_cons_succ]; first | done | exact rfl)); (case' next10 => intro v17))
  iterate 1 ((first | (apply grow_skip; (case hf => rfl); (case hw => rfl)) | (apply grow_lit; (case hf => rfl); (case hw => rfl); (case hrun => (intro w' hS H; clear H; (obtain ⟨c0, c1, c2, -, -, -⟩ := (K0.out.keep hS).o3); (have xv := keep hS XV.out); (have xt0 := keep hS XT0.out); (have xt1 := keep hS XT1.out); (have xt2 := keep hS XT2.out); clear hS; go_simp; first | done | exact rfl)))); (case hc => (simp only [Act.put, List.setIfInBounds_toArray, List.set_cons_zero, List.set_cons_succ]; first | done | exact rfl)); (try (case hj => rfl)))
  (refine' grow_call (u := .int .i64 (placeL (outsL n.a kv) kb)) rfl Tryz.func19 (by kernel_rfl) rfl hGS rfl ?wt11 ?run11 ?put11 ?next11; (case wt11 => rfl); (case run11 => (intro w' hS H; (have hv : I64s w' v17 (outsL n.a kv) := H 17 (by decide)); exact (rplace_any v17 _ kb w' hv).mono (fun e w2 ⟨h1, h2⟩ => ⟨h1, h2 ▸ Below.refl _ _⟩))); (case put11 => (simp only [Act.put, List.setIfInBounds_toArray, List.set_cons_zero, List.set_cons_succ]; first | done | exact rfl)); (case' next11 => skip))
  (refine' grow_call (u := .int .i64 (turnAt T.1 T.2.1 T.2.2 (placeL (insL n.a kv) ka) (placeL (outsL n.a kv) kb))) rfl Tryz.func26 (by kernel_rfl) rfl hGS rfl ?wt12 ?run12 ?put12 ?next12; (case wt12 => rfl); (case run12 => (intro w' hS H; exact rturnat_any T.1 T.2.1 _ T.2.2 _ _ w' HQ.out HN.out (HT.out.below hS))); (case put12 => (simp only [Act.put, List.setIfInBounds_toArray, List.set_cons_zero, List.set_cons_succ]; first | done | exact rfl)); (case' next12 => skip))
  iterate 1 ((first | (apply grow_skip; (case hf => rfl); (case hw => rfl)) | (apply grow_lit; (case hf => rfl); (case hw => rfl); (case hrun => (intro w' hS H; clear H; (obtain ⟨c0, c1, c2, -, -, -⟩ := (K0.out.keep hS).o3); (have xv := keep hS XV.out); (have xt0 := keep hS XT0.out); (have xt1 := keep hS XT1.out); (have xt2 := keep hS XT2.out); clear hS; go_simp; first | done | exact rfl)))); (case hc => (simp only [Act.put, List.setIfInBounds_toArray, List.set_cons_zero, List.set_cons_succ]; first | done | exact rfl)); (try (case hj => rfl)))
  intro w2 hb _
  have HB2 := Lib.hid (B0.out.trans (hb.mono B0.out.size))
  clear hb hGS
  go_wp2_with fail
  go_ret
  exact ⟨rfl, HB2.out⟩

theorem rturn_any (n : NetD) (vq aq tq : Option Addr) (vc ac tc : Nat) (a b : Int) (w : World) (h : NetS w n vq aq tq vc ac tc) (hg : NetGood n) :
    Calls Tryz.prog 35 #[netVal n vq aq tq vc ac tc, .int .i64 a, .int .i64 b] w fun e w' => e = .returned (.int .i64 (n.turn a b)) ∧ Below w.heap.size w w' := by
  unfold NetD.turn
  cases ha : n.there a with
  | false => rw [if_pos rfl]; exact rturn_outa n vq aq tq vc ac tc a b w h ha
  | true =>
    rw [if_neg (by simp)]
    cases hb : n.there b with
    | false => rw [if_pos rfl]; exact rturn_outb n vq aq tq vc ac tc a b w h ha hb
    | true =>
      rw [if_neg (by simp)]
      obtain ⟨ka, rfl, hka⟩ := there_of ha
      obtain ⟨kb, rfl, hkb⟩ := there_of hb
      rw [NetGood.arc_at ka hka, NetGood.arc_at kb hkb]
      by_cases he : n.a[ka].2.1 = n.a[kb].1
      · rw [if_pos he]
        obtain ⟨-, -, g0, g1, -⟩ := hg.arcs ka hka
        obtain ⟨kv, ekv⟩ : ∃ kv : Nat, n.a[ka].2.1 = kv := ⟨n.a[ka].2.1.toNat, by omega⟩
        have hkv : kv < n.v.length := by omega
        obtain ⟨-, -, g2, g3⟩ := hg.verts kv hkv
        obtain ⟨kt, ekt⟩ : ∃ kt : Nat, n.v[kv].2.2 = kt := ⟨n.v[kv].2.2.toNat, by omega⟩
        have hkt : kt < n.t.length := by omega
        simp only [ekv, NetGood.vert_at kv hkv, ekt, NetGood.tab_at kt hkt]
        exact rturn_ind n vq aq tq vc ac tc ka kb w h hg hka hkb he kv ekv hkv kt ekt hkt
      · rw [if_neg he]
        exact rturn_inc n vq aq tq vc ac tc ka kb w h hka hkb he

end Go.Proofs.YtgihaakgadmidaaGreat
