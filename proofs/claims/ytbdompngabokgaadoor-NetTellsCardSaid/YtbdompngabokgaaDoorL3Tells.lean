/-
  PROVED: of any net that may be: which arcs end at any vertex, begin there, what it costs to turn from any arc into any other one, as the document has them. For every net, vertex and two arcs. Conditions: the listed library variable holds what the program's own text lays (the card ties it).
-/
import Derived.Test.YtbdompngabokgaaDoorKnown3
import Derived.Test.YtbdompngabokgaaDoorNetIn
import Derived.Test.YtbdompngabokgaaDoorLaid2
import Derived.Test.YtbdompngabokgaaDoorCards
import Derived.Test.YtbdompngabokgaaDoorTie
import Derived.SevenTiedAt
namespace Go.Proofs.YtbdompngabokgaaDoor
open Go.ChangeShapes Go.WideShapes Go.ChangeAt Go.RowKit

set_option maxHeartbeats 8000000 in
set_option maxRecDepth 100000 in
theorem tells_no (v : Value) (n : NetD) (x a b : Int) (w : World) (hg : ErrT w) (hv : NetV w v n) (hin : InNet n) (hm : mayN n = false) :
    Calls Tryd.prog 4 #[v, .int .i64 x, .int .i64 a, .int .i64 b] w fun e w' => e = .returned (.bool true) ∧ Below w.heap.size w w' := by
  obtain ⟨vq, aq, tq, vc, ac, tc, rfl, -⟩ := hv.shape
  have HM := Lib.hid hm
  have HIN := Lib.hid hin
  clear hm hin
  go_enter Tryd.func4, Tryd.ntmps4
  go_wp2_with fail
  obtain ⟨W0, hW0⟩ := named (w.alloc (.cells #[.slice vq n.v.length vc, .slice aq n.a.length ac, .slice tq n.t.length tc] 26))
  rw [← hW0]
  have hc0 : Below w.heap.size w W0 := by rw [hW0]; exact below_alloc1 _
  have B0 := Lib.hid hc0
  have KA : Hid (Blk W0 (w.heap.size) #[.slice vq n.v.length vc, .slice aq n.a.length ac, .slice tq n.t.length tc] 26) := by rw [hW0]; exact Lib.hid (Blk.new _ _ _ _ rfl)
  have VA := Lib.hid (hv.below hc0)
  have HG := Lib.hid (hg.keep hc0)
  clear hc0 hW0 hv hg
  refine (known3_any _ HG.out).mono ?_
  rintro e w1 ⟨rfl, hb⟩
  obtain ⟨p0, p1, p2, -, -, -⟩ := (KA.out.keep hb).o3
  go_wp2_with fail
  clear p0 p1 p2
  have hd1 : Below W0.heap.size W0 w1 := hb
  have KA_ := Lib.hid (KA.out.keep hd1)
  have VA_ := Lib.hid (VA.out.below hd1)
  have HG_ := Lib.hid (HG.out.keep hd1)
  clear KA VA HG
  have KA := KA_
  have VA := VA_
  have HG := HG_
  clear KA_ VA_ HG_
  have B1 : Hid (Below w.heap.size w w1) := Lib.hid (B0.out.trans (hd1.mono B0.out.size))
  clear B0
  have B0 := B1
  clear B1
  clear hb hd1 
  refine (vmay VA.out HIN.out HM.out).mono ?_
  rintro e w2 ⟨rfl, hb⟩
  obtain ⟨p0, p1, p2, -, -, -⟩ := (KA.out.keep hb).o3
  go_wp2_with fail
  clear p0 p1 p2
  have hd2 : Below w1.heap.size w1 w2 := hb
  have KA_ := Lib.hid (KA.out.keep hd2)
  have VA_ := Lib.hid (VA.out.below hd2)
  have HG_ := Lib.hid (HG.out.keep hd2)
  clear KA VA HG
  have KA := KA_
  have VA := VA_
  have HG := HG_
  clear KA_ VA_ HG_
  have B1 : Hid (Below w.heap.size w w2) := Lib.hid (B0.out.trans (hd2.mono B0.out.size))
  clear B0
  have B0 := B1
  clear B1
  clear hb hd2 
  go_ret
  exact ⟨rfl, B0.out⟩

set_option maxHeartbeats 8000000 in
set_option maxRecDepth 100000 in
theorem tells_yes (v : Value) (n : NetD) (x a b : Int) (w : World) (hg : ErrT w) (hv : NetV w v n) (hin : InNet n) (hm : mayN n = true) :
    Calls Tryd.prog 4 #[v, .int .i64 x, .int .i64 a, .int .i64 b] w fun e w' => e = .returned (.bool true) ∧ Below w.heap.size w w' := by
  obtain ⟨vq, aq, tq, vc, ac, tc, rfl, -⟩ := hv.shape
  have HM := Lib.hid hm
  obtain ⟨hf, hk, hgd⟩ := may_of hm
  have F1 := Lib.hid hf
  have OK := Lib.hid hk
  have GD := Lib.hid hgd
  have HIN := Lib.hid hin
  clear hm hin hf hk hgd
  obtain ⟨TT, eT⟩ : ∃ T, n.turn a b = T := ⟨_, rfl⟩
  have ET := Lib.hid eT
  clear eT
  go_enter Tryd.func4, Tryd.ntmps4
  go_wp2_with fail
  obtain ⟨W0, hW0⟩ := named (w.alloc (.cells #[.slice vq n.v.length vc, .slice aq n.a.length ac, .slice tq n.t.length tc] 26))
  rw [← hW0]
  have hc0 : Below w.heap.size w W0 := by rw [hW0]; exact below_alloc1 _
  have B0 := Lib.hid hc0
  have KA : Hid (Blk W0 (w.heap.size) #[.slice vq n.v.length vc, .slice aq n.a.length ac, .slice tq n.t.length tc] 26) := by rw [hW0]; exact Lib.hid (Blk.new _ _ _ _ rfl)
  have VA := Lib.hid (hv.below hc0)
  have HG := Lib.hid (hg.keep hc0)
  clear hc0 hW0 hv hg
  refine (known3_any _ HG.out).mono ?_
  rintro e w1 ⟨rfl, hb⟩
  obtain ⟨p0, p1, p2, -, -, -⟩ := (KA.out.keep hb).o3
  go_wp2_with fail
  clear p0 p1 p2
  have hd1 : Below W0.heap.size W0 w1 := hb
  have KA_ := Lib.hid (KA.out.keep hd1)
  have VA_ := Lib.hid (VA.out.below hd1)
  have HG_ := Lib.hid (HG.out.keep hd1)
  clear KA VA HG
  have KA := KA_
  have VA := VA_
  have HG := HG_
  clear KA_ VA_ HG_
  have B1 : Hid (Below w.heap.size w w1) := Lib.hid (B0.out.trans (hd1.mono B0.out.size))
  clear B0
  have B0 := B1
  clear B1
  clear hb hd1 
  refine (vmay VA.out HIN.out HM.out).mono ?_
  rintro e w2 ⟨rfl, hb⟩
  obtain ⟨p0, p1, p2, -, -, -⟩ := (KA.out.keep hb).o3
  go_wp2_with fail
  clear p0 p1 p2
  have hd2 : Below w1.heap.size w1 w2 := hb
  have KA_ := Lib.hid (KA.out.keep hd2)
  have VA_ := Lib.hid (VA.out.below hd2)
  have HG_ := Lib.hid (HG.out.keep hd2)
  clear KA VA HG
  have KA := KA_
  have VA := VA_
  have HG := HG_
  clear KA_ VA_ HG_
  have B1 : Hid (Below w.heap.size w w2) := Lib.hid (B0.out.trans (hd2.mono B0.out.size))
  clear B0
  have B0 := B1
  clear B1
  clear hb hd2 
  refine (vtoF VA.out F1.out).mono ?_
  rintro e w3 ⟨xv, rfl, hX, hb⟩
  obtain ⟨xq, xa, xt, xvc, xac, xtc, rfl, -⟩ := hX.shape
  go_wp2_with fail
  obtain ⟨W3, hW3⟩ := named (w3.alloc (.cells #[.slice xq n.v.length xvc, .slice xa n.a.length xac, .slice xt n.t.length xtc] 37))
  rw [← hW3]
  have hc3 : Below w3.heap.size w3 W3 := by rw [hW3]; exact below_alloc1 _
  have hd3 : Below w2.heap.size w2 W3 := hb.trans (hc3.mono hb.size)
  have KA_ := Lib.hid (KA.out.keep hd3)
  have VA_ := Lib.hid (VA.out.below hd3)
  have HG_ := Lib.hid (HG.out.keep hd3)
  clear KA VA HG
  have KA := KA_
  have VA := VA_
  have HG := HG_
  clear KA_ VA_ HG_
  have B1 : Hid (Below w.heap.size w W3) := Lib.hid (B0.out.trans (hd3.mono B0.out.size))
  clear B0
  have B0 := B1
  clear B1
  have KX : Hid (Blk W3 (w3.heap.size) #[.slice xq n.v.length xvc, .slice xa n.a.length xac, .slice xt n.t.length xtc] 37) := by rw [hW3]; exact Lib.hid (Blk.new _ _ _ _ rfl)
  have VX := Lib.hid (hX.below hc3)
  clear hb hX hd3 hc3 hW3 
  have hGS : Grows (fun w' => Below W3.heap.size W3 w') := Grows.below W3
  refine' wp_growL _ (fun w' => Below W3.heap.size W3 w') [[], [], [0, 1], [], [], [3, 4], [2, 5], [6], [7], [7], [7, 8, 9], [7], [7], [7, 11, 12], [7, 10, 13], [7, 14], [15], [16], [16], [16], [16, 17, 18, 19], [16], [16], [16], [16, 21, 22, 23], [16, 20, 24], [16, 25], [26]] (Fact.lit _ :: Fact.lit _ :: Fact.prop _ _ :: Fact.lit _ :: Fact.lit _ :: Fact.prop _ _ :: Fact.lit _ :: Fact.lit _ :: Fact.lit _ :: Fact.lit _ :: Fact.prop _ _ :: Fact.lit _ :: Fact.lit _ :: Fact.prop _ _ :: Fact.lit _ :: Fact.lit _ :: Fact.lit _ :: Fact.lit _ :: Fact.lit _ :: Fact.lit _ :: Fact.lit _ :: Fact.lit _ :: Fact.lit _ :: Fact.lit _ :: Fact.lit _ :: Fact.lit _ :: Fact.lit _ :: Fact.lit _ :: []) (by kernel_rfl) rfl (by kernel_rfl) (Below.refl _ _).drew ?seqsix
  case' seqsix => skip
  (first | (refine' grow_skip rfl ?wt860 ?put860 ?next860; (case wt860 => rfl)) | (refine' grow_lit rfl ?wt860 ?run860 ?put860 ?next860; (case wt860 => rfl); (case run860 => (intro w' hS H; clear H; (obtain ⟨a0, a1, a2, -, -, -⟩ := (KA.out.keep hS).o3); (obtain ⟨x0, x1, x2, -, -, -⟩ := (KX.out.keep hS).o3); clear hS; go_simp; first | done | exact rfl)))); (case put860 => (simp only [Act.put, List.setIfInBounds_toArray, List.set_cons_zero, List.set_cons_succ]; first | done | exact rfl)); (case' next860 => skip)
  (first | (refine' grow_skip rfl ?wt861 ?put861 ?next861; (case wt861 => rfl)) | (refine' grow_lit rfl ?wt861 ?run861 ?put861 ?next861; (case wt861 => rfl); (case run861 => (intro w' hS H; clear H; (obtain ⟨a0, a1, a2, -, -, -⟩ := (KA.out.keep hS).o3); (obtain ⟨x0, x1, x2, -, -, -⟩ := (KX.out.keep hS).o3); clear hS; go_simp; first | done | exact rfl)))); (case put861 => (simp only [Act.put, List.setIfInBounds_toArray, List.set_cons_zero, List.set_cons_succ]; first | done | exact rfl)); (case' next861 => skip)
  (refine' grow_callP (p := fun v w => I64s w v (insL n.a x)) (hp := fun v w w' h hb => h.below hb) rfl Tryd.func20 (by kernel_rfl) rfl hGS rfl ?wt880 ?run880 ?put880 ?next880; (case wt880 => rfl); (case run880 => (intro w' hS H; exact vins (VX.out.below hS) GD.out x rfl)); (case put880 => (intro v; simp only [Act.put, List.setIfInBounds_toArray, List.set_cons_zero, List.set_cons_succ]; first | done | exact rfl)); (case' next880 => intro v2))
  (first | (refine' grow_skip rfl ?wt862 ?put862 ?next862; (case wt862 => rfl)) | (refine' grow_lit rfl ?wt862 ?run862 ?put862 ?next862; (case wt862 => rfl); (case run862 => (intro w' hS H; clear H; (obtain ⟨a0, a1, a2, -, -, -⟩ := (KA.out.keep hS).o3); (obtain ⟨x0, x1, x2, -, -, -⟩ := (KX.out.keep hS).o3); clear hS; go_simp; first | done | exact rfl)))); (case put862 => (simp only [Act.put, List.setIfInBounds_toArray, List.set_cons_zero, List.set_cons_succ]; first | done | exact rfl)); (case' next862 => skip)
  (first | (refine' grow_skip rfl ?wt863 ?put863 ?next863; (case wt863 => rfl)) | (refine' grow_lit rfl ?wt863 ?run863 ?put863 ?next863; (case wt863 => rfl); (case run863 => (intro w' hS H; clear H; (obtain ⟨a0, a1, a2, -, -, -⟩ := (KA.out.keep hS).o3); (obtain ⟨x0, x1, x2, -, -, -⟩ := (KX.out.keep hS).o3); clear hS; go_simp; first | done | exact rfl)))); (case put863 => (simp only [Act.put, List.setIfInBounds_toArray, List.set_cons_zero, List.set_cons_succ]; first | done | exact rfl)); (case' next863 => skip)
  (refine' grow_callP (p := fun v w => I64s w v (insL n.a x)) (hp := fun v w w' h hb => h.below hb) rfl Tryd.func21 (by kernel_rfl) rfl hGS rfl ?wt881 ?run881 ?put881 ?next881; (case wt881 => rfl); (case run881 => (intro w' hS H; exact rvins (VA.out.below hS) GD.out x rfl)); (case put881 => (intro v; simp only [Act.put, List.setIfInBounds_toArray, List.set_cons_zero, List.set_cons_succ]; first | done | exact rfl)); (case' next881 => intro v5))
  (refine' grow_call (u := .bool true) rfl Tryd.func19 (by kernel_rfl) rfl hGS rfl ?wt882 ?run882 ?put882 ?next882; (case wt882 => rfl); (case run882 => (intro w' hS H; exact vsameI (l := insL n.a x) (k := insL n.a x) (H 2 (by decide)) (H 5 (by decide)) (decide_eq_true rfl))); (case put882 => (simp only [Act.put, List.setIfInBounds_toArray, List.set_cons_zero, List.set_cons_succ]; first | done | exact rfl)); (case' next882 => skip))
  (first | (refine' grow_skip rfl ?wt864 ?put864 ?next864; (case wt864 => rfl)) | (refine' grow_lit rfl ?wt864 ?run864 ?put864 ?next864; (case wt864 => rfl); (case run864 => (intro w' hS H; clear H; (obtain ⟨a0, a1, a2, -, -, -⟩ := (KA.out.keep hS).o3); (obtain ⟨x0, x1, x2, -, -, -⟩ := (KX.out.keep hS).o3); clear hS; go_simp; first | done | exact rfl)))); (case put864 => (simp only [Act.put, List.setIfInBounds_toArray, List.set_cons_zero, List.set_cons_succ]; first | done | exact rfl)); (case' next864 => skip)
  (first | (refine' grow_skip rfl ?wt865 ?put865 ?next865; (case wt865 => rfl)) | (refine' grow_lit rfl ?wt865 ?run865 ?put865 ?next865; (case wt865 => rfl); (case run865 => (intro w' hS H; clear H; (obtain ⟨a0, a1, a2, -, -, -⟩ := (KA.out.keep hS).o3); (obtain ⟨x0, x1, x2, -, -, -⟩ := (KX.out.keep hS).o3); clear hS; go_simp; first | done | exact rfl)))); (case put865 => (simp only [Act.put, List.setIfInBounds_toArray, List.set_cons_zero, List.set_cons_succ]; first | done | exact rfl)); (case' next865 => skip)
  (first | (refine' grow_skip rfl ?wt866 ?put866 ?next866; (case wt866 => rfl)) | (refine' grow_lit rfl ?wt866 ?run866 ?put866 ?next866; (case wt866 => rfl); (case run866 => (intro w' hS H; clear H; (obtain ⟨a0, a1, a2, -, -, -⟩ := (KA.out.keep hS).o3); (obtain ⟨x0, x1, x2, -, -, -⟩ := (KX.out.keep hS).o3); clear hS; go_simp; first | done | exact rfl)))); (case put866 => (simp only [Act.put, List.setIfInBounds_toArray, List.set_cons_zero, List.set_cons_succ]; first | done | exact rfl)); (case' next866 => skip)
  (refine' grow_callP (p := fun v w => I64s w v (outsL n.a x)) (hp := fun v w w' h hb => h.below hb) rfl Tryd.func22 (by kernel_rfl) rfl hGS rfl ?wt883 ?run883 ?put883 ?next883; (case wt883 => rfl); (case run883 => (intro w' hS H; exact vouts (VX.out.below hS) GD.out x rfl)); (case put883 => (intro v; simp only [Act.put, List.setIfInBounds_toArray, List.set_cons_zero, List.set_cons_succ]; first | done | exact rfl)); (case' next883 => intro v10))
  (first | (refine' grow_skip rfl ?wt867 ?put867 ?next867; (case wt867 => rfl)) | (refine' grow_lit rfl ?wt867 ?run867 ?put867 ?next867; (case wt867 => rfl); (case run867 => (intro w' hS H; clear H; (obtain ⟨a0, a1, a2, -, -, -⟩ := (KA.out.keep hS).o3); (obtain ⟨x0, x1, x2, -, -, -⟩ := (KX.out.keep hS).o3); clear hS; go_simp; first | done | exact rfl)))); (case put867 => (simp only [Act.put, List.setIfInBounds_toArray, List.set_cons_zero, List.set_cons_succ]; first | done | exact rfl)); (case' next867 => skip)
  (first | (refine' grow_skip rfl ?wt868 ?put868 ?next868; (case wt868 => rfl)) | (refine' grow_lit rfl ?wt868 ?run868 ?put868 ?next868; (case wt868 => rfl); (case run868 => (intro w' hS H; clear H; (obtain ⟨a0, a1, a2, -, -, -⟩ := (KA.out.keep hS).o3); (obtain ⟨x0, x1, x2, -, -, -⟩ := (KX.out.keep hS).o3); clear hS; go_simp; first | done | exact rfl)))); (case put868 => (simp only [Act.put, List.setIfInBounds_toArray, List.set_cons_zero, List.set_cons_succ]; first | done | exact rfl)); (case' next868 => skip)
  (refine' grow_callP (p := fun v w => I64s w v (outsL n.a x)) (hp := fun v w w' h hb => h.below hb) rfl Tryd.func23 (by kernel_rfl) rfl hGS rfl ?wt884 ?run884 ?put884 ?next884; (case wt884 => rfl); (case run884 => (intro w' hS H; exact rvouts (VA.out.below hS) GD.out x rfl)); (case put884 => (intro v; simp only [Act.put, List.setIfInBounds_toArray, List.set_cons_zero, List.set_cons_succ]; first | done | exact rfl)); (case' next884 => intro v13))
  (refine' grow_call (u := .bool true) rfl Tryd.func19 (by kernel_rfl) rfl hGS rfl ?wt885 ?run885 ?put885 ?next885; (case wt885 => rfl); (case run885 => (intro w' hS H; exact vsameI (l := outsL n.a x) (k := outsL n.a x) (H 10 (by decide)) (H 13 (by decide)) (decide_eq_true rfl))); (case put885 => (simp only [Act.put, List.setIfInBounds_toArray, List.set_cons_zero, List.set_cons_succ]; first | done | exact rfl)); (case' next885 => skip))
  (first | (refine' grow_skip rfl ?wt869 ?put869 ?next869; (case wt869 => rfl)) | (refine' grow_lit rfl ?wt869 ?run869 ?put869 ?next869; (case wt869 => rfl); (case run869 => (intro w' hS H; clear H; (obtain ⟨a0, a1, a2, -, -, -⟩ := (KA.out.keep hS).o3); (obtain ⟨x0, x1, x2, -, -, -⟩ := (KX.out.keep hS).o3); clear hS; go_simp; first | done | exact rfl)))); (case put869 => (simp only [Act.put, List.setIfInBounds_toArray, List.set_cons_zero, List.set_cons_succ]; first | done | exact rfl)); (case' next869 => skip)
  (first | (refine' grow_skip rfl ?wt870 ?put870 ?next870; (case wt870 => rfl)) | (refine' grow_lit rfl ?wt870 ?run870 ?put870 ?next870; (case wt870 => rfl); (case run870 => (intro w' hS H; clear H; (obtain ⟨a0, a1, a2, -, -, -⟩ := (KA.out.keep hS).o3); (obtain ⟨x0, x1, x2, -, -, -⟩ := (KX.out.keep hS).o3); clear hS; go_simp; first | done | exact rfl)))); (case put870 => (simp only [Act.put, List.setIfInBounds_toArray, List.set_cons_zero, List.set_cons_succ]; first | done | exact rfl)); (case' next870 => skip)
  (first | (refine' grow_skip rfl ?wt871 ?put871 ?next871; (case wt871 => rfl)) | (refine' grow_lit rfl ?wt871 ?run871 ?put871 ?next871; (case wt871 => rfl); (case run871 => (intro w' hS H; clear H; (obtain ⟨a0, a1, a2, -, -, -⟩ := (KA.out.keep hS).o3); (obtain ⟨x0, x1, x2, -, -, -⟩ := (KX.out.keep hS).o3); clear hS; go_simp; first | done | exact rfl)))); (case put871 => (simp only [Act.put, List.setIfInBounds_toArray, List.set_cons_zero, List.set_cons_succ]; first | done | exact rfl)); (case' next871 => skip)
  (first | (refine' grow_skip rfl ?wt872 ?put872 ?next872; (case wt872 => rfl)) | (refine' grow_lit rfl ?wt872 ?run872 ?put872 ?next872; (case wt872 => rfl); (case run872 => (intro w' hS H; clear H; (obtain ⟨a0, a1, a2, -, -, -⟩ := (KA.out.keep hS).o3); (obtain ⟨x0, x1, x2, -, -, -⟩ := (KX.out.keep hS).o3); clear hS; go_simp; first | done | exact rfl)))); (case put872 => (simp only [Act.put, List.setIfInBounds_toArray, List.set_cons_zero, List.set_cons_succ]; first | done | exact rfl)); (case' next872 => skip)
  (first | (refine' grow_skip rfl ?wt873 ?put873 ?next873; (case wt873 => rfl)) | (refine' grow_lit rfl ?wt873 ?run873 ?put873 ?next873; (case wt873 => rfl); (case run873 => (intro w' hS H; clear H; (obtain ⟨a0, a1, a2, -, -, -⟩ := (KA.out.keep hS).o3); (obtain ⟨x0, x1, x2, -, -, -⟩ := (KX.out.keep hS).o3); clear hS; go_simp; first | done | exact rfl)))); (case put873 => (simp only [Act.put, List.setIfInBounds_toArray, List.set_cons_zero, List.set_cons_succ]; first | done | exact rfl)); (case' next873 => skip)
  (refine' grow_call (u := .int .i64 TT) rfl Tryd.func24 (by kernel_rfl) rfl hGS rfl ?wt886 ?run886 ?put886 ?next886; (case wt886 => rfl); (case run886 => (intro w' hS H; exact vturn (VX.out.below hS) GD.out ET.out)); (case put886 => (simp only [Act.put, List.setIfInBounds_toArray, List.set_cons_zero, List.set_cons_succ]; first | done | exact rfl)); (case' next886 => skip))
  (first | (refine' grow_skip rfl ?wt874 ?put874 ?next874; (case wt874 => rfl)) | (refine' grow_lit rfl ?wt874 ?run874 ?put874 ?next874; (case wt874 => rfl); (case run874 => (intro w' hS H; clear H; (obtain ⟨a0, a1, a2, -, -, -⟩ := (KA.out.keep hS).o3); (obtain ⟨x0, x1, x2, -, -, -⟩ := (KX.out.keep hS).o3); clear hS; go_simp; first | done | exact rfl)))); (case put874 => (simp only [Act.put, List.setIfInBounds_toArray, List.set_cons_zero, List.set_cons_succ]; first | done | exact rfl)); (case' next874 => skip)
  (first | (refine' grow_skip rfl ?wt875 ?put875 ?next875; (case wt875 => rfl)) | (refine' grow_lit rfl ?wt875 ?run875 ?put875 ?next875; (case wt875 => rfl); (case run875 => (intro w' hS H; clear H; (obtain ⟨a0, a1, a2, -, -, -⟩ := (KA.out.keep hS).o3); (obtain ⟨x0, x1, x2, -, -, -⟩ := (KX.out.keep hS).o3); clear hS; go_simp; first | done | exact rfl)))); (case put875 => (simp only [Act.put, List.setIfInBounds_toArray, List.set_cons_zero, List.set_cons_succ]; first | done | exact rfl)); (case' next875 => skip)
  (first | (refine' grow_skip rfl ?wt876 ?put876 ?next876; (case wt876 => rfl)) | (refine' grow_lit rfl ?wt876 ?run876 ?put876 ?next876; (case wt876 => rfl); (case run876 => (intro w' hS H; clear H; (obtain ⟨a0, a1, a2, -, -, -⟩ := (KA.out.keep hS).o3); (obtain ⟨x0, x1, x2, -, -, -⟩ := (KX.out.keep hS).o3); clear hS; go_simp; first | done | exact rfl)))); (case put876 => (simp only [Act.put, List.setIfInBounds_toArray, List.set_cons_zero, List.set_cons_succ]; first | done | exact rfl)); (case' next876 => skip)
  (refine' grow_call (u := .int .i64 TT) rfl Tryd.func25 (by kernel_rfl) rfl hGS rfl ?wt887 ?run887 ?put887 ?next887; (case wt887 => rfl); (case run887 => (intro w' hS H; exact rvturn (VA.out.below hS) GD.out ET.out)); (case put887 => (simp only [Act.put, List.setIfInBounds_toArray, List.set_cons_zero, List.set_cons_succ]; first | done | exact rfl)); (case' next887 => skip))
  (first | (refine' grow_skip rfl ?wt877 ?put877 ?next877; (case wt877 => rfl)) | (refine' grow_lit rfl ?wt877 ?run877 ?put877 ?next877; (case wt877 => rfl); (case run877 => (intro w' hS H; clear H; (obtain ⟨a0, a1, a2, -, -, -⟩ := (KA.out.keep hS).o3); (obtain ⟨x0, x1, x2, -, -, -⟩ := (KX.out.keep hS).o3); clear hS; go_simp; first | done | exact rfl)))); (case put877 => (simp only [Act.put, List.setIfInBounds_toArray, List.set_cons_zero, List.set_cons_succ]; first | done | exact rfl)); (case' next877 => skip)
  (first | (refine' grow_skip rfl ?wt878 ?put878 ?next878; (case wt878 => rfl)) | (refine' grow_lit rfl ?wt878 ?run878 ?put878 ?next878; (case wt878 => rfl); (case run878 => (intro w' hS H; clear H; (obtain ⟨a0, a1, a2, -, -, -⟩ := (KA.out.keep hS).o3); (obtain ⟨x0, x1, x2, -, -, -⟩ := (KX.out.keep hS).o3); clear hS; go_simp; first | done | exact rfl)))); (case put878 => (simp only [Act.put, List.setIfInBounds_toArray, List.set_cons_zero, List.set_cons_succ]; first | done | exact rfl)); (case' next878 => skip)
  (first | (refine' grow_skip rfl ?wt879 ?put879 ?next879; (case wt879 => rfl)) | (refine' grow_lit rfl ?wt879 ?run879 ?put879 ?next879; (case wt879 => rfl); (case run879 => (intro w' hS H; clear H; (obtain ⟨a0, a1, a2, -, -, -⟩ := (KA.out.keep hS).o3); (obtain ⟨x0, x1, x2, -, -, -⟩ := (KX.out.keep hS).o3); clear hS; go_simp; first | done | exact rfl)))); (case put879 => (simp only [Act.put, List.setIfInBounds_toArray, List.set_cons_zero, List.set_cons_succ]; first | done | exact rfl)); (case' next879 => skip)
  intro w9 hb _
  have HF := Lib.hid (B0.out.trans (hb.mono B0.out.size))
  clear hb hGS
  go_wp2_with fail
  go_ret
  exact ⟨rfl, HF.out⟩

theorem tells_walk (v : Value) (n : NetD) (x a b : Int) (w : World) (hg : ErrT w) (hv : NetV w v n) (hin : InNet n) (_ : -9223372036854775808 ≤ x) (_ : x ≤ 9223372036854775807) (_ : -9223372036854775808 ≤ a) (_ : a ≤ 9223372036854775807) (_ : -9223372036854775808 ≤ b) (_ : b ≤ 9223372036854775807) :
    Calls Tryd.prog 4 #[v, .int .i64 x, .int .i64 a, .int .i64 b] w fun e w' => e = .returned (.bool true) ∧ Below w.heap.size w w' := by
  cases hm : mayN n with
  | false => exact tells_no v n x a b w hg hv hin hm
  | true => exact tells_yes v n x a b w hg hv hin hm

set_option maxRecDepth 100000 in
theorem netTells_walks : Walks laidAll 4 Tryd.f4 := by
  intro H enc W args ds g
  obtain ⟨ps, hA⟩ := g.reads
  obtain ⟨base, hval⟩ := g.okay
  rw [Tryd.params4] at hA hval
  obtain ⟨v0, vs0, d0, ds0, p0, q0, hargs, rfl, rfl, h0, r0⟩ := trodAll_cons hA
  obtain ⟨v1, vs1, d1, ds1, p1, q1, rfl, rfl, rfl, h1, r1⟩ := trodAll_cons r0
  obtain ⟨v2, vs2, d2, ds2, p2, q2, rfl, rfl, rfl, h2, r2⟩ := trodAll_cons r1
  obtain ⟨v3, vs3, d3, ds3, p3, q3, rfl, rfl, rfl, h3, r3⟩ := trodAll_cons r2
  obtain ⟨rfl, rfl, rfl⟩ := trodAll_nil r3
  obtain rfl : args = #[v0, v1, v2, v3] := Array.toList_inj.1 hargs
  obtain ⟨n0, w0, u0⟩ := open_net (hval 0 26 v0 rfl rfl) h0
  obtain ⟨x1, rfl, rfl, rfl, w1⟩ := open_int Tryd.underlying3 (hval 1 3 v1 rfl rfl) h1
  obtain ⟨x2, rfl, rfl, rfl, w2⟩ := open_int Tryd.underlying3 (hval 2 3 v2 rfl rfl) h2
  obtain ⟨x3, rfl, rfl, rfl, w3⟩ := open_int Tryd.underlying3 (hval 3 3 v3 rfl rfl) h3
  exact tells_walk v0 n0 x1 x2 x3 W (errT_of_laid g.laid) w0 u0 (wf64 w1).1 (wf64 w1).2 (wf64 w2).1 (wf64 w2).2 (wf64 w3).1 (wf64 w3).2

theorem netTells_row : Rows.NetTellsSaid :=
  OpenClaim.holds_of_wide 4 Tryd.f4 rfl rfl rfl rfl rfl rfl rfl ⟨rfl, rfl, rfl, rfl, rfl⟩ rfl rfl rfl rfl rfl (by kernel_rfl) Tryd.func4 (by kernel_rfl)
    (of_decide_eq_true (by kernel_rfl)) (by unfold Func.isWrapper; rw [if_neg (of_decide_eq_false (by kernel_rfl))]; exact ⟨rfl, rfl⟩)
    (fun os started H enc _ => law_lifted (s := Rows.netTellsSpec) (L := laidAll) Tryd.func4 (by kernel_rfl) rfl (by kernel_rfl)
      (fun H ds hl => by
        rw [Tryd.params4] at hl
        match ds, hl with
        | [_, _, _, _], _ => exact ⟨rfl, rfl, rfl⟩)
      (by kernel_rfl) os started H enc
      (ChangeSpec.witness_at (enc := enc) (C := Tryd.checked) (os := os) (X := fun w _ => laidMetH Tryd.prog laidAll w) false (laidWorld os) #[.agg #[.slice none 0 0, .slice none 0 0, .slice none 0 0], .int .i64 0, .int .i64 0, .int .i64 0] 8 rfl (by kernel_rfl) (by kernel_rfl) (by kernel_rfl) (by kernel_rfl) (by kernel_rfl) (laidWorld_met os _))
      netTells_walks)

theorem netTells_card : Rows.NetTellsCardSaid :=
  Claim7.holds_tied_plain_at .later [] laidKindsAll true (Rows.netTellsCard.stood.harness) true
    netTells_row (fun _ h => by cases h) (by kernel_rfl) (fun _ h => by cases h) netTells_row_tie rfl ⟨rfl, rfl⟩ (by kernel_rfl) rfl
    (fun f fn hf hfn => by
      obtain rfl : f = 4 := Option.some.inj ((show Tryd.prog.funcNamed "roundsman/roundsmanlaw3.NetTells" = some 4 by kernel_rfl).symm.trans hf) |>.symm
      obtain rfl : fn = Tryd.f4 := (Option.some.inj (Tryd.func4.symm.trans hfn)).symm
      exact ⟨by kernel_rfl, fun j t ht => by
        rw [Tryd.params4] at ht
        exact stand_all #[26, 3, 3, 3] (by kernel_rfl) j t ht⟩)
    (by kernel_rfl)
#print axioms netTells_card

end Go.Proofs.YtbdompngabokgaaDoor
