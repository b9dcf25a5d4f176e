/-
  PROVED: any net: whether it may be, or what is wrong first, and where; any two: whether they are alike, as the document has them. For every two nets. Conditions: the listed library variable holds what the program's own text lays (the card ties it).
-/
import Derived.Test.YtbdompngabokgaaDoorKnown3
import Derived.Test.YtbdompngabokgaaDoorNetIn
import Derived.Test.YtbdompngabokgaaDoorLaid2
import Derived.Test.YtbdompngabokgaaDoorCards
import Derived.Test.YtbdompngabokgaaDoorTie
import Derived.SevenTiedAt
namespace Go.Proofs.YtbdompngabokgaaDoor
open Go.ChangeShapes Go.WideShapes Go.ChangeAt Go.RowKit

set_option maxHeartbeats 8000000 in
set_option maxRecDepth 100000 in
theorem any_few1 (v : Value) (n : NetD) (u : Value) (m : NetD) (w : World) (hg : ErrT w) (hv : NetV w v n) (hu : NetV w u m) (hf : fewN n = false) :
    Calls Tryd.prog 3 #[v, u] w fun e w' => e = .returned (.bool true) ∧ Below w.heap.size w w' := by
  obtain ⟨vq, aq, tq, vc, ac, tc, rfl, -⟩ := hv.shape
  obtain ⟨vq2, aq2, tq2, vc2, ac2, tc2, rfl, -⟩ := hu.shape
  have HF1 := Lib.hid hf
  clear hf
  go_enter Tryd.func3, Tryd.ntmps3
  go_wp2_with fail
  obtain ⟨W0, hW0⟩ := named ((w.alloc (.cells #[.slice vq n.v.length vc, .slice aq n.a.length ac, .slice tq n.t.length tc] 26)).alloc (.cells #[.slice vq2 m.v.length vc2, .slice aq2 m.a.length ac2, .slice tq2 m.t.length tc2] 26))
  rw [← hW0]
  have hc0 : Below w.heap.size w W0 := by rw [hW0]; exact below_alloc2 _ _
  have B0 := Lib.hid hc0
  have KA : Hid (Blk W0 (w.heap.size) #[.slice vq n.v.length vc, .slice aq n.a.length ac, .slice tq n.t.length tc] 26) := by rw [hW0]; exact Lib.hid ((Blk.new _ _ _ _ rfl).old _)
  have KB : Hid (Blk W0 (w.heap.size + 1) #[.slice vq2 m.v.length vc2, .slice aq2 m.a.length ac2, .slice tq2 m.t.length tc2] 26) := by rw [hW0]; exact Lib.hid (Blk.new _ _ _ _ (by simp))
  have VA := Lib.hid (hv.below hc0)
  have VB := Lib.hid (hu.below hc0)
  have HG := Lib.hid (hg.keep hc0)
  clear hc0 hW0 hv hu hg
  refine (known3_any _ HG.out).mono ?_
  rintro e w1 ⟨rfl, hb⟩
  obtain ⟨p0, p1, p2, -, -, -⟩ := (KA.out.keep hb).o3
  obtain ⟨r0, r1, r2, -, -, -⟩ := (KB.out.keep hb).o3
  go_wp2_with fail
  clear p0 p1 p2 r0 r1 r2
  have hd1 : Below W0.heap.size W0 w1 := hb
  have KA_ := Lib.hid (KA.out.keep hd1)
  have KB_ := Lib.hid (KB.out.keep hd1)
  have VA_ := Lib.hid (VA.out.below hd1)
  have VB_ := Lib.hid (VB.out.below hd1)
  have HG_ := Lib.hid (HG.out.keep hd1)
  clear KA KB VA VB HG
  have KA := KA_
  have KB := KB_
  have VA := VA_
  have VB := VB_
  have HG := HG_
  clear KA_ KB_ VA_ VB_ HG_
  have B1 : Hid (Below w.heap.size w w1) := Lib.hid (B0.out.trans (hd1.mono B0.out.size))
  clear B0
  have B0 := B1
  clear B1
  clear hb hd1 
  refine (vfew VA.out HF1.out).mono ?_
  rintro e w2 ⟨rfl, hb⟩
  obtain ⟨p0, p1, p2, -, -, -⟩ := (KA.out.keep hb).o3
  obtain ⟨r0, r1, r2, -, -, -⟩ := (KB.out.keep hb).o3
  go_wp2_with fail
  clear p0 p1 p2 r0 r1 r2
  have hd2 : Below w1.heap.size w1 w2 := hb
  have KA_ := Lib.hid (KA.out.keep hd2)
  have KB_ := Lib.hid (KB.out.keep hd2)
  have VA_ := Lib.hid (VA.out.below hd2)
  have VB_ := Lib.hid (VB.out.below hd2)
  have HG_ := Lib.hid (HG.out.keep hd2)
  clear KA KB VA VB HG
  have KA := KA_
  have KB := KB_
  have VA := VA_
  have VB := VB_
  have HG := HG_
  clear KA_ KB_ VA_ VB_ HG_
  have B1 : Hid (Below w.heap.size w w2) := Lib.hid (B0.out.trans (hd2.mono B0.out.size))
  clear B0
  have B0 := B1
  clear B1
  clear hb hd2 
  go_ret
  exact ⟨rfl, B0.out⟩

set_option maxHeartbeats 8000000 in
set_option maxRecDepth 100000 in
theorem any_few2 (v : Value) (n : NetD) (u : Value) (m : NetD) (w : World) (hg : ErrT w) (hv : NetV w v n) (hu : NetV w u m) (hf : fewN n = true) (hf2 : fewN m = false) :
    Calls Tryd.prog 3 #[v, u] w fun e w' => e = .returned (.bool true) ∧ Below w.heap.size w w' := by
  obtain ⟨vq, aq, tq, vc, ac, tc, rfl, -⟩ := hv.shape
  obtain ⟨vq2, aq2, tq2, vc2, ac2, tc2, rfl, -⟩ := hu.shape
  have HF1 := Lib.hid hf
  have HF2 := Lib.hid hf2
  clear hf hf2
  go_enter Tryd.func3, Tryd.ntmps3
  go_wp2_with fail
  obtain ⟨W0, hW0⟩ := named ((w.alloc (.cells #[.slice vq n.v.length vc, .slice aq n.a.length ac, .slice tq n.t.length tc] 26)).alloc (.cells #[.slice vq2 m.v.length vc2, .slice aq2 m.a.length ac2, .slice tq2 m.t.length tc2] 26))
  rw [← hW0]
  have hc0 : Below w.heap.size w W0 := by rw [hW0]; exact below_alloc2 _ _
  have B0 := Lib.hid hc0
  have KA : Hid (Blk W0 (w.heap.size) #[.slice vq n.v.length vc, .slice aq n.a.length ac, .slice tq n.t.length tc] 26) := by rw [hW0]; exact Lib.hid ((Blk.new _ _ _ _ rfl).old _)
  have KB : Hid (Blk W0 (w.heap.size + 1) #[.slice vq2 m.v.length vc2, .slice aq2 m.a.length ac2, .slice tq2 m.t.length tc2] 26) := by rw [hW0]; exact Lib.hid (Blk.new _ _ _ _ (by simp))
  have VA := Lib.hid (hv.below hc0)
  have VB := Lib.hid (hu.below hc0)
  have HG := Lib.hid (hg.keep hc0)
  clear hc0 hW0 hv hu hg
  refine (known3_any _ HG.out).mono ?_
  rintro e w1 ⟨rfl, hb⟩
  obtain ⟨p0, p1, p2, -, -, -⟩ := (KA.out.keep hb).o3
  obtain ⟨r0, r1, r2, -, -, -⟩ := (KB.out.keep hb).o3
  go_wp2_with fail
  clear p0 p1 p2 r0 r1 r2
  have hd1 : Below W0.heap.size W0 w1 := hb
  have KA_ := Lib.hid (KA.out.keep hd1)
  have KB_ := Lib.hid (KB.out.keep hd1)
  have VA_ := Lib.hid (VA.out.below hd1)
  have VB_ := Lib.hid (VB.out.below hd1)
  have HG_ := Lib.hid (HG.out.keep hd1)
  clear KA KB VA VB HG
  have KA := KA_
  have KB := KB_
  have VA := VA_
  have VB := VB_
  have HG := HG_
  clear KA_ KB_ VA_ VB_ HG_
  have B1 : Hid (Below w.heap.size w w1) := Lib.hid (B0.out.trans (hd1.mono B0.out.size))
  clear B0
  have B0 := B1
  clear B1
  clear hb hd1 
  refine (vfew VA.out HF1.out).mono ?_
  rintro e w2 ⟨rfl, hb⟩
  obtain ⟨p0, p1, p2, -, -, -⟩ := (KA.out.keep hb).o3
  obtain ⟨r0, r1, r2, -, -, -⟩ := (KB.out.keep hb).o3
  go_wp2_with fail
  clear p0 p1 p2 r0 r1 r2
  have hd2 : Below w1.heap.size w1 w2 := hb
  have KA_ := Lib.hid (KA.out.keep hd2)
  have KB_ := Lib.hid (KB.out.keep hd2)
  have VA_ := Lib.hid (VA.out.below hd2)
  have VB_ := Lib.hid (VB.out.below hd2)
  have HG_ := Lib.hid (HG.out.keep hd2)
  clear KA KB VA VB HG
  have KA := KA_
  have KB := KB_
  have VA := VA_
  have VB := VB_
  have HG := HG_
  clear KA_ KB_ VA_ VB_ HG_
  have B1 : Hid (Below w.heap.size w w2) := Lib.hid (B0.out.trans (hd2.mono B0.out.size))
  clear B0
  have B0 := B1
  clear B1
  clear hb hd2 
  refine (vfew VB.out HF2.out).mono ?_
  rintro e w3 ⟨rfl, hb⟩
  obtain ⟨p0, p1, p2, -, -, -⟩ := (KA.out.keep hb).o3
  obtain ⟨r0, r1, r2, -, -, -⟩ := (KB.out.keep hb).o3
  go_wp2_with fail
  clear p0 p1 p2 r0 r1 r2
  have hd3 : Below w2.heap.size w2 w3 := hb
  have KA_ := Lib.hid (KA.out.keep hd3)
  have KB_ := Lib.hid (KB.out.keep hd3)
  have VA_ := Lib.hid (VA.out.below hd3)
  have VB_ := Lib.hid (VB.out.below hd3)
  have HG_ := Lib.hid (HG.out.keep hd3)
  clear KA KB VA VB HG
  have KA := KA_
  have KB := KB_
  have VA := VA_
  have VB := VB_
  have HG := HG_
  clear KA_ KB_ VA_ VB_ HG_
  have B1 : Hid (Below w.heap.size w w3) := Lib.hid (B0.out.trans (hd3.mono B0.out.size))
  clear B0
  have B0 := B1
  clear B1
  clear hb hd3 
  go_ret
  exact ⟨rfl, B0.out⟩

set_option maxHeartbeats 8000000 in
set_option maxRecDepth 100000 in
theorem any_main (v : Value) (n : NetD) (u : Value) (m : NetD) (w : World) (hg : ErrT w) (hv : NetV w v n) (hin : InNet n) (hu : NetV w u m) (hf : fewN n = true) (hf2 : fewN m = true) :
    Calls Tryd.prog 3 #[v, u] w fun e w' => e = .returned (.bool true) ∧ Below w.heap.size w w' := by
  obtain ⟨vq, aq, tq, vc, ac, tc, rfl, -⟩ := hv.shape
  obtain ⟨vq2, aq2, tq2, vc2, ac2, tc2, rfl, -⟩ := hu.shape
  have HF1 := Lib.hid hf
  have HF2 := Lib.hid hf2
  have F1 := Lib.hid (few_of hf)
  have F2 := Lib.hid (few_of hf2)
  have HIN := Lib.hid hin
  obtain ⟨BS, eBS⟩ : ∃ B, sameN n m = B := ⟨_, rfl⟩
  have HBS := Lib.hid eBS
  clear hf hf2 hin eBS
  go_enter Tryd.func3, Tryd.ntmps3
  go_wp2_with fail
  obtain ⟨W0, hW0⟩ := named ((w.alloc (.cells #[.slice vq n.v.length vc, .slice aq n.a.length ac, .slice tq n.t.length tc] 26)).alloc (.cells #[.slice vq2 m.v.length vc2, .slice aq2 m.a.length ac2, .slice tq2 m.t.length tc2] 26))
  rw [← hW0]
  have hc0 : Below w.heap.size w W0 := by rw [hW0]; exact below_alloc2 _ _
  have B0 := Lib.hid hc0
  have KA : Hid (Blk W0 (w.heap.size) #[.slice vq n.v.length vc, .slice aq n.a.length ac, .slice tq n.t.length tc] 26) := by rw [hW0]; exact Lib.hid ((Blk.new _ _ _ _ rfl).old _)
  have KB : Hid (Blk W0 (w.heap.size + 1) #[.slice vq2 m.v.length vc2, .slice aq2 m.a.length ac2, .slice tq2 m.t.length tc2] 26) := by rw [hW0]; exact Lib.hid (Blk.new _ _ _ _ (by simp))
  have VA := Lib.hid (hv.below hc0)
  have VB := Lib.hid (hu.below hc0)
  have HG := Lib.hid (hg.keep hc0)
  clear hc0 hW0 hv hu hg
  refine (known3_any _ HG.out).mono ?_
  rintro e w1 ⟨rfl, hb⟩
  obtain ⟨p0, p1, p2, -, -, -⟩ := (KA.out.keep hb).o3
  obtain ⟨r0, r1, r2, -, -, -⟩ := (KB.out.keep hb).o3
  go_wp2_with fail
  clear p0 p1 p2 r0 r1 r2
  have hd1 : Below W0.heap.size W0 w1 := hb
  have KA_ := Lib.hid (KA.out.keep hd1)
  have KB_ := Lib.hid (KB.out.keep hd1)
  have VA_ := Lib.hid (VA.out.below hd1)
  have VB_ := Lib.hid (VB.out.below hd1)
  have HG_ := Lib.hid (HG.out.keep hd1)
  clear KA KB VA VB HG
  have KA := KA_
  have KB := KB_
  have VA := VA_
  have VB := VB_
  have HG := HG_
  clear KA_ KB_ VA_ VB_ HG_
  have B1 : Hid (Below w.heap.size w w1) := Lib.hid (B0.out.trans (hd1.mono B0.out.size))
  clear B0
  have B0 := B1
  clear B1
  clear hb hd1 
  refine (vfew VA.out HF1.out).mono ?_
  rintro e w2 ⟨rfl, hb⟩
  obtain ⟨p0, p1, p2, -, -, -⟩ := (KA.out.keep hb).o3
  obtain ⟨r0, r1, r2, -, -, -⟩ := (KB.out.keep hb).o3
  go_wp2_with fail
  clear p0 p1 p2 r0 r1 r2
  have hd2 : Below w1.heap.size w1 w2 := hb
  have KA_ := Lib.hid (KA.out.keep hd2)
  have KB_ := Lib.hid (KB.out.keep hd2)
  have VA_ := Lib.hid (VA.out.below hd2)
  have VB_ := Lib.hid (VB.out.below hd2)
  have HG_ := Lib.hid (HG.out.keep hd2)
  clear KA KB VA VB HG
  have KA := KA_
  have KB := KB_
  have VA := VA_
  have VB := VB_
  have HG := HG_
  clear KA_ KB_ VA_ VB_ HG_
  have B1 : Hid (Below w.heap.size w w2) := Lib.hid (B0.out.trans (hd2.mono B0.out.size))
  clear B0
  have B0 := B1
  clear B1
  clear hb hd2 
  refine (vfew VB.out HF2.out).mono ?_
  rintro e w3 ⟨rfl, hb⟩
  obtain ⟨p0, p1, p2, -, -, -⟩ := (KA.out.keep hb).o3
  obtain ⟨r0, r1, r2, -, -, -⟩ := (KB.out.keep hb).o3
  go_wp2_with fail
  clear p0 p1 p2 r0 r1 r2
  have hd3 : Below w2.heap.size w2 w3 := hb
  have KA_ := Lib.hid (KA.out.keep hd3)
  have KB_ := Lib.hid (KB.out.keep hd3)
  have VA_ := Lib.hid (VA.out.below hd3)
  have VB_ := Lib.hid (VB.out.below hd3)
  have HG_ := Lib.hid (HG.out.keep hd3)
  clear KA KB VA VB HG
  have KA := KA_
  have KB := KB_
  have VA := VA_
  have VB := VB_
  have HG := HG_
  clear KA_ KB_ VA_ VB_ HG_
  have B1 : Hid (Below w.heap.size w w3) := Lib.hid (B0.out.trans (hd3.mono B0.out.size))
  clear B0
  have B0 := B1
  clear B1
  clear hb hd3 
  have hGS : Grows (fun w' => Below w3.heap.size w3 w') := Grows.below w3
  refine' wp_growL _ (fun w' => Below w3.heap.size w3 w') [[], [0], [1], [], [3], [2, 4], [5], [6], [6, 7], [6], [6, 9], [6, 8, 10], [6], [6], [6, 12, 13], [6, 11, 14], [6, 15], [16], [17], [17, 18], [17], [17, 20], [17, 19, 21], [17, 22], [23]] (Fact.lit _ :: Fact.prop _ _ :: Fact.prop _ _ :: Fact.lit _ :: Fact.prop _ _ :: Fact.lit _ :: Fact.lit _ :: Fact.lit _ :: Fact.prop _ _ :: Fact.lit _ :: Fact.prop _ _ :: Fact.lit _ :: Fact.lit _ :: Fact.lit _ :: Fact.lit _ :: Fact.lit _ :: Fact.lit _ :: Fact.lit _ :: Fact.lit _ :: Fact.prop _ _ :: Fact.lit _ :: Fact.prop _ _ :: Fact.lit _ :: Fact.lit _ :: Fact.lit _ :: []) (by kernel_rfl) rfl (by kernel_rfl) (Below.refl _ _).drew ?seqfive
  case' seqfive => skip
  (first | (refine' grow_skip rfl ?wt835 ?put835 ?next835; (case wt835 => rfl)) | (refine' grow_lit rfl ?wt835 ?run835 ?put835 ?next835; (case wt835 => rfl); (case run835 => (intro w' hS H; clear H; (obtain ⟨a0, a1, a2, -, -, -⟩ := (KA.out.keep hS).o3); (obtain ⟨b0, b1, b2, -, -, -⟩ := (KB.out.keep hS).o3); clear hS; go_simp; first | done | exact rfl)))); (case put835 => (simp only [Act.put, List.setIfInBounds_toArray, List.set_cons_zero, List.set_cons_succ]; first | done | exact rfl)); (case' next835 => skip)
  (refine' grow_callP (p := fun v w => NetV w v n) (hp := fun v w w' h hb => h.below hb) rfl Tryd.func14 (by kernel_rfl) rfl hGS rfl ?wt849 ?run849 ?put849 ?next849; (case wt849 => rfl); (case run849 => (intro w' hS H; exact vtoF (VA.out.below hS) F1.out)); (case put849 => (intro v; simp only [Act.put, List.setIfInBounds_toArray, List.set_cons_zero, List.set_cons_succ]; first | done | exact rfl)); (case' next849 => intro v1))
  (refine' grow_callP (p := fun v w => FaultV w v (chkN n).1 (chkN n).2) (hp := fun v w w' h hb => h.below hb) rfl Tryd.func13 (by kernel_rfl) rfl hGS rfl ?wt850 ?run850 ?put850 ?next850; (case wt850 => rfl); (case run850 => (intro w' hS H; (have h1 : NetV w' v1 n := H 1 (by decide)); exact vcheckE h1 F1.out.small HIN.out rfl)); (case put850 => (intro v; simp only [Act.put, List.setIfInBounds_toArray, List.set_cons_zero, List.set_cons_succ]; first | done | exact rfl)); (case' next850 => intro v2))
  (first | (refine' grow_skip rfl ?wt836 ?put836 ?next836; (case wt836 => rfl)) | (refine' grow_lit rfl ?wt836 ?run836 ?put836 ?next836; (case wt836 => rfl); (case run836 => (intro w' hS H; clear H; (obtain ⟨a0, a1, a2, -, -, -⟩ := (KA.out.keep hS).o3); (obtain ⟨b0, b1, b2, -, -, -⟩ := (KB.out.keep hS).o3); clear hS; go_simp; first | done | exact rfl)))); (case put836 => (simp only [Act.put, List.setIfInBounds_toArray, List.set_cons_zero, List.set_cons_succ]; first | done | exact rfl)); (case' next836 => skip)
  (refine' grow_callP (p := fun v w => WrongV w v (chkN n).1 (chkN n).2) (hp := fun v w w' h hb => h.below hb) rfl Tryd.func15 (by kernel_rfl) rfl hGS rfl ?wt851 ?run851 ?put851 ?next851; (case wt851 => rfl); (case run851 => (intro w' hS H; exact (rvcheck (VA.out.below hS) HIN.out rfl).mono (fun e w2 ⟨v, h1, h2, h3⟩ => ⟨v, h1, h2, h3⟩))); (case put851 => (intro v; simp only [Act.put, List.setIfInBounds_toArray, List.set_cons_zero, List.set_cons_succ]; first | done | exact rfl)); (case' next851 => intro v4))
  (refine' grow_call (u := .bool true) rfl Tryd.func12 (by kernel_rfl) rfl hGS rfl ?wt852 ?run852 ?put852 ?next852; (case wt852 => rfl); (case run852 => (intro w' hS H; exact tells_post _ _ (chkN n).1 (chkN n).2 w' (HG.out.keep hS) (H 2 (by decide)) (H 4 (by decide)) flt_or)); (case put852 => (simp only [Act.put, List.setIfInBounds_toArray, List.set_cons_zero, List.set_cons_succ]; first | done | exact rfl)); (case' next852 => skip))
  (first | (refine' grow_skip rfl ?wt837 ?put837 ?next837; (case wt837 => rfl)) | (refine' grow_lit rfl ?wt837 ?run837 ?put837 ?next837; (case wt837 => rfl); (case run837 => (intro w' hS H; clear H; (obtain ⟨a0, a1, a2, -, -, -⟩ := (KA.out.keep hS).o3); (obtain ⟨b0, b1, b2, -, -, -⟩ := (KB.out.keep hS).o3); clear hS; go_simp; first | done | exact rfl)))); (case put837 => (simp only [Act.put, List.setIfInBounds_toArray, List.set_cons_zero, List.set_cons_succ]; first | done | exact rfl)); (case' next837 => skip)
  (first | (refine' grow_skip rfl ?wt838 ?put838 ?next838; (case wt838 => rfl)) | (refine' grow_lit rfl ?wt838 ?run838 ?put838 ?next838; (case wt838 => rfl); (case run838 => (intro w' hS H; clear H; (obtain ⟨a0, a1, a2, -, -, -⟩ := (KA.out.keep hS).o3); (obtain ⟨b0, b1, b2, -, -, -⟩ := (KB.out.keep hS).o3); clear hS; go_simp; first | done | exact rfl)))); (case put838 => (simp only [Act.put, List.setIfInBounds_toArray, List.set_cons_zero, List.set_cons_succ]; first | done | exact rfl)); (case' next838 => skip)
  (refine' grow_callP (p := fun v w => NetV w v n) (hp := fun v w w' h hb => h.below hb) rfl Tryd.func14 (by kernel_rfl) rfl hGS rfl ?wt853 ?run853 ?put853 ?next853; (case wt853 => rfl); (case run853 => (intro w' hS H; exact vtoF (VA.out.below hS) F1.out)); (case put853 => (intro v; simp only [Act.put, List.setIfInBounds_toArray, List.set_cons_zero, List.set_cons_succ]; first | done | exact rfl)); (case' next853 => intro v8))
  (first | (refine' grow_skip rfl ?wt839 ?put839 ?next839; (case wt839 => rfl)) | (refine' grow_lit rfl ?wt839 ?run839 ?put839 ?next839; (case wt839 => rfl); (case run839 => (intro w' hS H; clear H; (obtain ⟨a0, a1, a2, -, -, -⟩ := (KA.out.keep hS).o3); (obtain ⟨b0, b1, b2, -, -, -⟩ := (KB.out.keep hS).o3); clear hS; go_simp; first | done | exact rfl)))); (case put839 => (simp only [Act.put, List.setIfInBounds_toArray, List.set_cons_zero, List.set_cons_succ]; first | done | exact rfl)); (case' next839 => skip)
  (refine' grow_callP (p := fun v w => NetV w v m) (hp := fun v w w' h hb => h.below hb) rfl Tryd.func14 (by kernel_rfl) rfl hGS rfl ?wt854 ?run854 ?put854 ?next854; (case wt854 => rfl); (case run854 => (intro w' hS H; exact vtoF (VB.out.below hS) F2.out)); (case put854 => (intro v; simp only [Act.put, List.setIfInBounds_toArray, List.set_cons_zero, List.set_cons_succ]; first | done | exact rfl)); (case' next854 => intro v10))
  (refine' grow_call (u := .bool BS) rfl Tryd.func16 (by kernel_rfl) rfl hGS rfl ?wt855 ?run855 ?put855 ?next855; (case wt855 => rfl); (case run855 => (intro w' hS H; (have h8 : NetV w' v8 n := H 8 (by decide)); (have h10 : NetV w' v10 m := H 10 (by decide)); exact vsame h8 h10 HBS.out)); (case put855 => (simp only [Act.put, List.setIfInBounds_toArray, List.set_cons_zero, List.set_cons_succ]; first | done | exact rfl)); (case' next855 => skip))
  (first | (refine' grow_skip rfl ?wt840 ?put840 ?next840; (case wt840 => rfl)) | (refine' grow_lit rfl ?wt840 ?run840 ?put840 ?next840; (case wt840 => rfl); (case run840 => (intro w' hS H; clear H; (obtain ⟨a0, a1, a2, -, -, -⟩ := (KA.out.keep hS).o3); (obtain ⟨b0, b1, b2, -, -, -⟩ := (KB.out.keep hS).o3); clear hS; go_simp; first | done | exact rfl)))); (case put840 => (simp only [Act.put, List.setIfInBounds_toArray, List.set_cons_zero, List.set_cons_succ]; first | done | exact rfl)); (case' next840 => skip)
  (first | (refine' grow_skip rfl ?wt841 ?put841 ?next841; (case wt841 => rfl)) | (refine' grow_lit rfl ?wt841 ?run841 ?put841 ?next841; (case wt841 => rfl); (case run841 => (intro w' hS H; clear H; (obtain ⟨a0, a1, a2, -, -, -⟩ := (KA.out.keep hS).o3); (obtain ⟨b0, b1, b2, -, -, -⟩ := (KB.out.keep hS).o3); clear hS; go_simp; first | done | exact rfl)))); (case put841 => (simp only [Act.put, List.setIfInBounds_toArray, List.set_cons_zero, List.set_cons_succ]; first | done | exact rfl)); (case' next841 => skip)
  (refine' grow_call (u := .bool BS) rfl Tryd.func17 (by kernel_rfl) rfl hGS rfl ?wt856 ?run856 ?put856 ?next856; (case wt856 => rfl); (case run856 => (intro w' hS H; exact rvsame (VA.out.below hS) (VB.out.below hS) HBS.out)); (case put856 => (simp only [Act.put, List.setIfInBounds_toArray, List.set_cons_zero, List.set_cons_succ]; first | done | exact rfl)); (case' next856 => skip))
  (first | (refine' grow_skip rfl ?wt842 ?put842 ?next842; (case wt842 => rfl)) | (refine' grow_lit rfl ?wt842 ?run842 ?put842 ?next842; (case wt842 => rfl); (case run842 => (intro w' hS H; clear H; (obtain ⟨a0, a1, a2, -, -, -⟩ := (KA.out.keep hS).o3); (obtain ⟨b0, b1, b2, -, -, -⟩ := (KB.out.keep hS).o3); clear hS; go_simp; first | done | exact rfl)))); (case put842 => (simp only [Act.put, List.setIfInBounds_toArray, List.set_cons_zero, List.set_cons_succ]; first | done | exact rfl)); (case' next842 => skip)
  (first | (refine' grow_skip rfl ?wt843 ?put843 ?next843; (case wt843 => rfl)) | (refine' grow_lit rfl ?wt843 ?run843 ?put843 ?next843; (case wt843 => rfl); (case run843 => (intro w' hS H; clear H; (obtain ⟨a0, a1, a2, -, -, -⟩ := (KA.out.keep hS).o3); (obtain ⟨b0, b1, b2, -, -, -⟩ := (KB.out.keep hS).o3); clear hS; go_simp; first | done | exact rfl)))); (case put843 => (simp only [Act.put, List.setIfInBounds_toArray, List.set_cons_zero, List.set_cons_succ]; first | done | exact rfl)); (case' next843 => skip)
  (first | (refine' grow_skip rfl ?wt844 ?put844 ?next844; (case wt844 => rfl)) | (refine' grow_lit rfl ?wt844 ?run844 ?put844 ?next844; (case wt844 => rfl); (case run844 => (intro w' hS H; clear H; (obtain ⟨a0, a1, a2, -, -, -⟩ := (KA.out.keep hS).o3); (obtain ⟨b0, b1, b2, -, -, -⟩ := (KB.out.keep hS).o3); clear hS; go_simp; first | done | exact rfl)))); (case put844 => (simp only [Act.put, List.setIfInBounds_toArray, List.set_cons_zero, List.set_cons_succ]; first | done | exact rfl)); (case' next844 => skip)
  (first | (refine' grow_skip rfl ?wt845 ?put845 ?next845; (case wt845 => rfl)) | (refine' grow_lit rfl ?wt845 ?run845 ?put845 ?next845; (case wt845 => rfl); (case run845 => (intro w' hS H; clear H; (obtain ⟨a0, a1, a2, -, -, -⟩ := (KA.out.keep hS).o3); (obtain ⟨b0, b1, b2, -, -, -⟩ := (KB.out.keep hS).o3); clear hS; go_simp; first | done | exact rfl)))); (case put845 => (simp only [Act.put, List.setIfInBounds_toArray, List.set_cons_zero, List.set_cons_succ]; first | done | exact rfl)); (case' next845 => skip)
  (refine' grow_callP (p := fun v w => NetV w v n) (hp := fun v w w' h hb => h.below hb) rfl Tryd.func14 (by kernel_rfl) rfl hGS rfl ?wt857 ?run857 ?put857 ?next857; (case wt857 => rfl); (case run857 => (intro w' hS H; exact vtoF (VA.out.below hS) F1.out)); (case put857 => (intro v; simp only [Act.put, List.setIfInBounds_toArray, List.set_cons_zero, List.set_cons_succ]; first | done | exact rfl)); (case' next857 => intro v19))
  (first | (refine' grow_skip rfl ?wt846 ?put846 ?next846; (case wt846 => rfl)) | (refine' grow_lit rfl ?wt846 ?run846 ?put846 ?next846; (case wt846 => rfl); (case run846 => (intro w' hS H; clear H; (obtain ⟨a0, a1, a2, -, -, -⟩ := (KA.out.keep hS).o3); (obtain ⟨b0, b1, b2, -, -, -⟩ := (KB.out.keep hS).o3); clear hS; go_simp; first | done | exact rfl)))); (case put846 => (simp only [Act.put, List.setIfInBounds_toArray, List.set_cons_zero, List.set_cons_succ]; first | done | exact rfl)); (case' next846 => skip)
  (refine' grow_callP (p := fun v w => NetV w v n) (hp := fun v w w' h hb => h.below hb) rfl Tryd.func14 (by kernel_rfl) rfl hGS rfl ?wt858 ?run858 ?put858 ?next858; (case wt858 => rfl); (case run858 => (intro w' hS H; exact vtoF (VA.out.below hS) F1.out)); (case put858 => (intro v; simp only [Act.put, List.setIfInBounds_toArray, List.set_cons_zero, List.set_cons_succ]; first | done | exact rfl)); (case' next858 => intro v21))
  (refine' grow_call (u := .bool true) rfl Tryd.func16 (by kernel_rfl) rfl hGS rfl ?wt859 ?run859 ?put859 ?next859; (case wt859 => rfl); (case run859 => (intro w' hS H; (have h19 : NetV w' v19 n := H 19 (by decide)); (have h21 : NetV w' v21 n := H 21 (by decide)); exact vsame h19 h21 (by simp [sameN]))); (case put859 => (simp only [Act.put, List.setIfInBounds_toArray, List.set_cons_zero, List.set_cons_succ]; first | done | exact rfl)); (case' next859 => skip))
  (first | (refine' grow_skip rfl ?wt847 ?put847 ?next847; (case wt847 => rfl)) | (refine' grow_lit rfl ?wt847 ?run847 ?put847 ?next847; (case wt847 => rfl); (case run847 => (intro w' hS H; clear H; (obtain ⟨a0, a1, a2, -, -, -⟩ := (KA.out.keep hS).o3); (obtain ⟨b0, b1, b2, -, -, -⟩ := (KB.out.keep hS).o3); clear hS; go_simp; first | done | exact rfl)))); (case put847 => (simp only [Act.put, List.setIfInBounds_toArray, List.set_cons_zero, List.set_cons_succ]; first | done | exact rfl)); (case' next847 => skip)
  (first | (refine' grow_skip rfl ?wt848 ?put848 ?next848; (case wt848 => rfl)) | (refine' grow_lit rfl ?wt848 ?run848 ?put848 ?next848; (case wt848 => rfl); (case run848 => (intro w' hS H; clear H; (obtain ⟨a0, a1, a2, -, -, -⟩ := (KA.out.keep hS).o3); (obtain ⟨b0, b1, b2, -, -, -⟩ := (KB.out.keep hS).o3); clear hS; go_simp; first | done | exact rfl)))); (case put848 => (simp only [Act.put, List.setIfInBounds_toArray, List.set_cons_zero, List.set_cons_succ]; first | done | exact rfl)); (case' next848 => skip)
  intro w9 hb _
  have HF := Lib.hid (B0.out.trans (hb.mono B0.out.size))
  clear hb hGS
  go_wp2_with fail
  go_ret
  exact ⟨rfl, HF.out⟩

theorem any_walk (v : Value) (n : NetD) (u : Value) (m : NetD) (w : World) (hg : ErrT w) (hv : NetV w v n) (hin : InNet n) (hu : NetV w u m) (_ : InNet m) :
    Calls Tryd.prog 3 #[v, u] w fun e w' => e = .returned (.bool true) ∧ Below w.heap.size w w' := by
  cases hf : fewN n with
  | false => exact any_few1 v n u m w hg hv hu hf
  | true =>
    cases hf2 : fewN m with
    | false => exact any_few2 v n u m w hg hv hu hf hf2
    | true => exact any_main v n u m w hg hv hin hu hf hf2

set_option maxRecDepth 100000 in
theorem netAny_walks : Walks laidAll 3 Tryd.f3 := by
  intro H enc W args ds g
  obtain ⟨ps, hA⟩ := g.reads
  obtain ⟨base, hval⟩ := g.okay
  rw [Tryd.params3] at hA hval
  obtain ⟨v0, vs0, d0, ds0, p0, q0, hargs, rfl, rfl, h0, r0⟩ := trodAll_cons hA
  obtain ⟨v1, vs1, d1, ds1, p1, q1, rfl, rfl, rfl, h1, r1⟩ := trodAll_cons r0
  obtain ⟨rfl, rfl, rfl⟩ := trodAll_nil r1
  obtain rfl : args = #[v0, v1] := Array.toList_inj.1 hargs
  obtain ⟨n0, w0, u0⟩ := open_net (hval 0 26 v0 rfl rfl) h0
  obtain ⟨n1, w1, u1⟩ := open_net (hval 1 26 v1 rfl rfl) h1
  exact any_walk v0 n0 v1 n1 W (errT_of_laid g.laid) w0 u0 w1 u1

theorem netAny_row : Rows.NetAnySaid :=
  OpenClaim.holds_of_wide 3 Tryd.f3 rfl rfl rfl rfl rfl rfl rfl ⟨rfl, rfl, rfl, rfl, rfl⟩ rfl rfl rfl rfl rfl (by kernel_rfl) Tryd.func3 (by kernel_rfl)
    (of_decide_eq_true (by kernel_rfl)) (by unfold Func.isWrapper; rw [if_neg (of_decide_eq_false (by kernel_rfl))]; exact ⟨rfl, rfl⟩)
    (fun os started H enc _ => law_lifted (s := Rows.netAnySpec) (L := laidAll) Tryd.func3 (by kernel_rfl) rfl (by kernel_rfl)
      (fun H ds hl => by
        rw [Tryd.params3] at hl
        match ds, hl with
        | [_, _], _ => exact ⟨rfl, rfl, rfl⟩)
      (by kernel_rfl) os started H enc
      (ChangeSpec.witness_at (enc := enc) (C := Tryd.checked) (os := os) (X := fun w _ => laidMetH Tryd.prog laidAll w) false (laidWorld os) #[.agg #[.slice none 0 0, .slice none 0 0, .slice none 0 0], .agg #[.slice none 0 0, .slice none 0 0, .slice none 0 0]] 8 rfl (by kernel_rfl) (by kernel_rfl) (by kernel_rfl) (by kernel_rfl) (by kernel_rfl) (laidWorld_met os _))
      netAny_walks)

theorem netAny_card : Rows.NetAnyCardSaid :=
  Claim7.holds_tied_plain_at .later [] laidKindsAll true (Rows.netAnyCard.stood.harness) true
    netAny_row (fun _ h => by cases h) (by kernel_rfl) (fun _ h => by cases h) netAny_row_tie rfl ⟨rfl, rfl⟩ (by kernel_rfl) rfl
    (fun f fn hf hfn => by
      obtain rfl : f = 3 := Option.some.inj ((show Tryd.prog.funcNamed "roundsman/roundsmanlaw3.NetAny" = some 3 by kernel_rfl).symm.trans hf) |>.symm
      obtain rfl : fn = Tryd.f3 := (Option.some.inj (Tryd.func3.symm.trans hfn)).symm
      exact ⟨by kernel_rfl, fun j t ht => by
        rw [Tryd.params3] at ht
        exact stand_all #[26, 26] (by kernel_rfl) j t ht⟩)
    (by kernel_rfl)
#print axioms netAny_card

end Go.Proofs.YtbdompngabokgaaDoor
