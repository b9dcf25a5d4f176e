/-
  PROVED: two nets that may be are told in the same bytes just where they are alike. For every two nets. Conditions: the listed library variable holds what the program's own text lays (the card ties it).
-/
import Derived.Test.YtjapdbegfanfiaaGreatDoorB18
import Derived.Test.YtjapdbegfanfiaaGreatDoorNetIn
import Derived.Test.YtjapdbegfanfiaaGreatDoorB5
import Derived.Test.YtjapdbegfanfiaaGreatDoorLaid2
import Derived.Test.YtjapdbegfanfiaaGreatDoorCards
import Derived.Test.YtjapdbegfanfiaaGreatDoorTie
import Derived.SevenTiedAt
namespace Go.Proofs.YtjapdbegfanfiaaGreatDoor
open Go.ChangeShapes Go.WideShapes Go.ChangeAt Go.RowKit

set_option maxHeartbeats 8000000 in
set_option maxRecDepth 100000 in
theorem apart_n (v : Value) (n : NetD) (u : Value) (m : NetD) (w : World) (hg : ErrT w) (hv : NetV w v n) (hin : InNet n) (hu : NetV w u m) (hin2 : InNet m) (hm1 : mayN n = false) :
    Calls Tryz.prog 7 #[v, u] w fun e w' => e = .returned (.bool true) ∧ Below w.heap.size w w' := by
  obtain ⟨vq, aq, tq, vc, ac, tc, rfl, -⟩ := hv.shape
  obtain ⟨vq2, aq2, tq2, vc2, ac2, tc2, rfl, -⟩ := hu.shape
  have HIN := Lib.hid hin
  have HIN2 := Lib.hid hin2
  have G_0 := Lib.hid (hg)
  have B_0 := Lib.hid (Below.refl w.heap.size w)
  have V_0 := Lib.hid (hv)
  have U_0 := Lib.hid (hu)
  clear hg hv hu hin hin2
  go_enter Tryz.func7, Tryz.ntmps7
  obtain ⟨pW0, hpW0⟩ : ∃ p, w.heap.size = p := ⟨_, rfl⟩
  obtain ⟨W0, hW0⟩ := named ((w.alloc (.cells #[.slice vq n.v.length vc, .slice aq n.a.length ac, .slice tq n.t.length tc] 37)).alloc (.cells #[.slice vq2 m.v.length vc2, .slice aq2 m.a.length ac2, .slice tq2 m.t.length tc2] 37))
  have hb : Below w.heap.size w W0 := by rw [hW0]; exact (below_new8 _).trans ((below_new8 _).mono (by simp))
  have G_1 := Lib.hid (G_0.out.keep hb)
  have B_1 := Lib.hid (bOn B_0.out hb)
  have V_1 := Lib.hid (V_0.out.below hb)
  have U_1 := Lib.hid (U_0.out.below hb)
  have K_1 : Hid (Blk W0 pW0 #[.slice vq n.v.length vc, .slice aq n.a.length ac, .slice tq n.t.length tc] 37) := by rw [hW0]; exact Lib.hid ((Blk.new _ _ _ _ (by simp [hpW0])).old _)
  have J_1 : Hid (Blk W0 (pW0 + 1) #[.slice vq2 m.v.length vc2, .slice aq2 m.a.length ac2, .slice tq2 m.t.length tc2] 37) := by rw [hW0]; exact Lib.hid (Blk.new _ _ _ _ (by simp [hpW0]))
  go_upto_region 1 with fail
  rw [← hW0]
  clear hb hW0 hpW0 G_0 B_0 V_0 U_0
  go_wp2_with fail
  refine (known5_any _ G_1.out).mono ?_
  rintro ev w1 ⟨rfl, hb⟩
  have G_2 := Lib.hid (G_1.out.keep hb)
  have B_2 := Lib.hid (bOn B_1.out hb)
  have V_2 := Lib.hid (V_1.out.below hb)
  have U_2 := Lib.hid (U_1.out.below hb)
  have K_2 := Lib.hid (K_1.out.keep hb)
  have J_2 := Lib.hid (J_1.out.keep hb)
  clear hb G_1 B_1 V_1 U_1 K_1 J_1 
  obtain ⟨k0, k1, k2, -, -, -⟩ := K_2.out.o3
  obtain ⟨j0, j1, j2, -, -, -⟩ := J_2.out.o3
  go_wp2_with fail
  refine (vmay V_2.out HIN.out hm1).mono ?_
  rintro ev w2 ⟨rfl, hb⟩
  have G_3 := Lib.hid (G_2.out.keep hb)
  have B_3 := Lib.hid (bOn B_2.out hb)
  have V_3 := Lib.hid (V_2.out.below hb)
  have U_3 := Lib.hid (U_2.out.below hb)
  have K_3 := Lib.hid (K_2.out.keep hb)
  have J_3 := Lib.hid (J_2.out.keep hb)
  clear hb G_2 B_2 V_2 U_2 K_2 J_2 k0 k1 k2 j0 j1 j2
  obtain ⟨k0, k1, k2, -, -, -⟩ := K_3.out.o3
  obtain ⟨j0, j1, j2, -, -, -⟩ := J_3.out.o3
  go_wp2_with fail
  go_ret
  exact ⟨rfl, B_3.out⟩

set_option maxHeartbeats 8000000 in
set_option maxRecDepth 100000 in
theorem apart_m (v : Value) (n : NetD) (u : Value) (m : NetD) (w : World) (hg : ErrT w) (hv : NetV w v n) (hin : InNet n) (hu : NetV w u m) (hin2 : InNet m) (hm1 : mayN n = true) (hm2 : mayN m = false) :
    Calls Tryz.prog 7 #[v, u] w fun e w' => e = .returned (.bool true) ∧ Below w.heap.size w w' := by
  obtain ⟨vq, aq, tq, vc, ac, tc, rfl, -⟩ := hv.shape
  obtain ⟨vq2, aq2, tq2, vc2, ac2, tc2, rfl, -⟩ := hu.shape
  have HIN := Lib.hid hin
  have HIN2 := Lib.hid hin2
  have G_0 := Lib.hid (hg)
  have B_0 := Lib.hid (Below.refl w.heap.size w)
  have V_0 := Lib.hid (hv)
  have U_0 := Lib.hid (hu)
  clear hg hv hu hin hin2
  go_enter Tryz.func7, Tryz.ntmps7
  obtain ⟨pW0, hpW0⟩ : ∃ p, w.heap.size = p := ⟨_, rfl⟩
  obtain ⟨W0, hW0⟩ := named ((w.alloc (.cells #[.slice vq n.v.length vc, .slice aq n.a.length ac, .slice tq n.t.length tc] 37)).alloc (.cells #[.slice vq2 m.v.length vc2, .slice aq2 m.a.length ac2, .slice tq2 m.t.length tc2] 37))
  have hb : Below w.heap.size w W0 := by rw [hW0]; exact (below_new8 _).trans ((below_new8 _).mono (by simp))
  have G_1 := Lib.hid (G_0.out.keep hb)
  have B_1 := Lib.hid (bOn B_0.out hb)
  have V_1 := Lib.hid (V_0.out.below hb)
  have U_1 := Lib.hid (U_0.out.below hb)
  have K_1 : Hid (Blk W0 pW0 #[.slice vq n.v.length vc, .slice aq n.a.length ac, .slice tq n.t.length tc] 37) := by rw [hW0]; exact Lib.hid ((Blk.new _ _ _ _ (by simp [hpW0])).old _)
  have J_1 : Hid (Blk W0 (pW0 + 1) #[.slice vq2 m.v.length vc2, .slice aq2 m.a.length ac2, .slice tq2 m.t.length tc2] 37) := by rw [hW0]; exact Lib.hid (Blk.new _ _ _ _ (by simp [hpW0]))
  go_upto_region 1 with fail
  rw [← hW0]
  clear hb hW0 hpW0 G_0 B_0 V_0 U_0
  go_wp2_with fail
  refine (known5_any _ G_1.out).mono ?_
  rintro ev w1 ⟨rfl, hb⟩
  have G_2 := Lib.hid (G_1.out.keep hb)
  have B_2 := Lib.hid (bOn B_1.out hb)
  have V_2 := Lib.hid (V_1.out.below hb)
  have U_2 := Lib.hid (U_1.out.below hb)
  have K_2 := Lib.hid (K_1.out.keep hb)
  have J_2 := Lib.hid (J_1.out.keep hb)
  clear hb G_1 B_1 V_1 U_1 K_1 J_1 
  obtain ⟨k0, k1, k2, -, -, -⟩ := K_2.out.o3
  obtain ⟨j0, j1, j2, -, -, -⟩ := J_2.out.o3
  go_wp2_with fail
  refine (vmay V_2.out HIN.out hm1).mono ?_
  rintro ev w2 ⟨rfl, hb⟩
  have G_3 := Lib.hid (G_2.out.keep hb)
  have B_3 := Lib.hid (bOn B_2.out hb)
  have V_3 := Lib.hid (V_2.out.below hb)
  have U_3 := Lib.hid (U_2.out.below hb)
  have K_3 := Lib.hid (K_2.out.keep hb)
  have J_3 := Lib.hid (J_2.out.keep hb)
  clear hb G_2 B_2 V_2 U_2 K_2 J_2 k0 k1 k2 j0 j1 j2
  obtain ⟨k0, k1, k2, -, -, -⟩ := K_3.out.o3
  obtain ⟨j0, j1, j2, -, -, -⟩ := J_3.out.o3
  go_wp2_with fail
  refine (vmay U_3.out HIN2.out hm2).mono ?_
  rintro ev w3 ⟨rfl, hb⟩
  have G_4 := Lib.hid (G_3.out.keep hb)
  have B_4 := Lib.hid (bOn B_3.out hb)
  have V_4 := Lib.hid (V_3.out.below hb)
  have U_4 := Lib.hid (U_3.out.below hb)
  have K_4 := Lib.hid (K_3.out.keep hb)
  have J_4 := Lib.hid (J_3.out.keep hb)
  clear hb G_3 B_3 V_3 U_3 K_3 J_3 k0 k1 k2 j0 j1 j2
  obtain ⟨k0, k1, k2, -, -, -⟩ := K_4.out.o3
  obtain ⟨j0, j1, j2, -, -, -⟩ := J_4.out.o3
  go_wp2_with fail
  go_ret
  exact ⟨rfl, B_4.out⟩

set_option maxHeartbeats 8000000 in
set_option maxRecDepth 100000 in
theorem apart_e1 (v : Value) (n : NetD) (u : Value) (m : NetD) (w : World) (hg : ErrT w) (hv : NetV w v n) (hin : InNet n) (hu : NetV w u m) (hin2 : InNet m) (hm1 : mayN n = true) (hm2 : mayN m = true) (he1 : ¬ (encodeF n).2.2 = 0) :
    Calls Tryz.prog 7 #[v, u] w fun e w' => e = .returned (.bool true) ∧ Below w.heap.size w w' := by
  obtain ⟨vq, aq, tq, vc, ac, tc, rfl, -⟩ := hv.shape
  obtain ⟨vq2, aq2, tq2, vc2, ac2, tc2, rfl, -⟩ := hu.shape
  have HIN := Lib.hid hin
  have HIN2 := Lib.hid hin2
  obtain ⟨R1, hR1⟩ : ∃ R, encodeF n = R := ⟨_, rfl⟩
  obtain ⟨R2, hR2⟩ : ∃ R, encodeF m = R := ⟨_, rfl⟩
  obtain ⟨L1, q1', e1⟩ := R1
  obtain ⟨L2, q2', e2⟩ := R2
  have HR1 := Lib.hid hR1
  have HR2 := Lib.hid hR2
  rw [hR1] at he1
  have hb1 : (e1 != 0) = true := by simpa using he1
  clear he1 hR1 hR2
  have G_0 := Lib.hid (hg)
  have B_0 := Lib.hid (Below.refl w.heap.size w)
  have V_0 := Lib.hid (hv)
  have U_0 := Lib.hid (hu)
  clear hg hv hu hin hin2
  go_enter Tryz.func7, Tryz.ntmps7
  obtain ⟨pW0, hpW0⟩ : ∃ p, w.heap.size = p := ⟨_, rfl⟩
  obtain ⟨W0, hW0⟩ := named ((w.alloc (.cells #[.slice vq n.v.length vc, .slice aq n.a.length ac, .slice tq n.t.length tc] 37)).alloc (.cells #[.slice vq2 m.v.length vc2, .slice aq2 m.a.length ac2, .slice tq2 m.t.length tc2] 37))
  have hb : Below w.heap.size w W0 := by rw [hW0]; exact (below_new8 _).trans ((below_new8 _).mono (by simp))
  have G_1 := Lib.hid (G_0.out.keep hb)
  have B_1 := Lib.hid (bOn B_0.out hb)
  have V_1 := Lib.hid (V_0.out.below hb)
  have U_1 := Lib.hid (U_0.out.below hb)
  have K_1 : Hid (Blk W0 pW0 #[.slice vq n.v.length vc, .slice aq n.a.length ac, .slice tq n.t.length tc] 37) := by rw [hW0]; exact Lib.hid ((Blk.new _ _ _ _ (by simp [hpW0])).old _)
  have J_1 : Hid (Blk W0 (pW0 + 1) #[.slice vq2 m.v.length vc2, .slice aq2 m.a.length ac2, .slice tq2 m.t.length tc2] 37) := by rw [hW0]; exact Lib.hid (Blk.new _ _ _ _ (by simp [hpW0]))
  go_upto_region 1 with fail
  rw [← hW0]
  clear hb hW0 hpW0 G_0 B_0 V_0 U_0
  go_wp2_with fail
  refine (known5_any _ G_1.out).mono ?_
  rintro ev w1 ⟨rfl, hb⟩
  have G_2 := Lib.hid (G_1.out.keep hb)
  have B_2 := Lib.hid (bOn B_1.out hb)
  have V_2 := Lib.hid (V_1.out.below hb)
  have U_2 := Lib.hid (U_1.out.below hb)
  have K_2 := Lib.hid (K_1.out.keep hb)
  have J_2 := Lib.hid (J_1.out.keep hb)
  clear hb G_1 B_1 V_1 U_1 K_1 J_1 
  obtain ⟨k0, k1, k2, -, -, -⟩ := K_2.out.o3
  obtain ⟨j0, j1, j2, -, -, -⟩ := J_2.out.o3
  go_wp2_with fail
  refine (vmay V_2.out HIN.out hm1).mono ?_
  rintro ev w2 ⟨rfl, hb⟩
  have G_3 := Lib.hid (G_2.out.keep hb)
  have B_3 := Lib.hid (bOn B_2.out hb)
  have V_3 := Lib.hid (V_2.out.below hb)
  have U_3 := Lib.hid (U_2.out.below hb)
  have K_3 := Lib.hid (K_2.out.keep hb)
  have J_3 := Lib.hid (J_2.out.keep hb)
  clear hb G_2 B_2 V_2 U_2 K_2 J_2 k0 k1 k2 j0 j1 j2
  obtain ⟨k0, k1, k2, -, -, -⟩ := K_3.out.o3
  obtain ⟨j0, j1, j2, -, -, -⟩ := J_3.out.o3
  go_wp2_with fail
  refine (vmay U_3.out HIN2.out hm2).mono ?_
  rintro ev w3 ⟨rfl, hb⟩
  have G_4 := Lib.hid (G_3.out.keep hb)
  have B_4 := Lib.hid (bOn B_3.out hb)
  have V_4 := Lib.hid (V_3.out.below hb)
  have U_4 := Lib.hid (U_3.out.below hb)
  have K_4 := Lib.hid (K_3.out.keep hb)
  have J_4 := Lib.hid (J_3.out.keep hb)
  clear hb G_3 B_3 V_3 U_3 K_3 J_3 k0 k1 k2 j0 j1 j2
  obtain ⟨k0, k1, k2, -, -, -⟩ := K_4.out.o3
  obtain ⟨j0, j1, j2, -, -, -⟩ := J_4.out.o3
  go_wp2_with fail
  refine (rEncodeV V_4.out HIN.out HR1.out).mono ?_
  rintro ev w4 ⟨av, wv, rfl, ha, hw, hb⟩
  obtain ⟨wq, wn, wc, rfl⟩ := hw.shape
  have G_5 := Lib.hid (G_4.out.keep hb)
  have B_5 := Lib.hid (bOn B_4.out hb)
  have V_5 := Lib.hid (V_4.out.below hb)
  have U_5 := Lib.hid (U_4.out.below hb)
  have K_5 := Lib.hid (K_4.out.keep hb)
  have J_5 := Lib.hid (J_4.out.keep hb)
  clear hb G_4 B_4 V_4 U_4 K_4 J_4 k0 k1 k2 j0 j1 j2 ha hw
  obtain ⟨pW4, hpW4⟩ : ∃ p, w4.heap.size = p := ⟨_, rfl⟩
  obtain ⟨W4, hW4⟩ := named (w4.alloc (.cells #[.slice wq wn wc, .int .i64 e1] 40))
  have hb : Below w4.heap.size w4 W4 := by rw [hW4]; exact below_new8 _
  have G_6 := Lib.hid (G_5.out.keep hb)
  have B_6 := Lib.hid (bOn B_5.out hb)
  have V_6 := Lib.hid (V_5.out.below hb)
  have U_6 := Lib.hid (U_5.out.below hb)
  have K_6 := Lib.hid (K_5.out.keep hb)
  have J_6 := Lib.hid (J_5.out.keep hb)
  have L_6 : Hid (Blk W4 pW4 #[.slice wq wn wc, .int .i64 e1] 40) := by rw [hW4]; exact Lib.hid (Blk.new _ _ _ _ (by simp [hpW4]))
  go_upto_region 6 with fail
  rw [← hW4]
  clear hb hW4 hpW4 G_5 B_5 V_5 U_5 K_5 J_5
  obtain ⟨k0, k1, k2, -, -, -⟩ := K_6.out.o3
  obtain ⟨j0, j1, j2, -, -, -⟩ := J_6.out.o3
  go_wp2_with fail
  refine (rEncodeV U_6.out HIN2.out HR2.out).mono ?_
  rintro ev w5 ⟨bv, wv2, rfl, ha, hw, hb⟩
  obtain ⟨wq2, wn2, wc2, rfl⟩ := hw.shape
  have G_7 := Lib.hid (G_6.out.keep hb)
  have B_7 := Lib.hid (bOn B_6.out hb)
  have V_7 := Lib.hid (V_6.out.below hb)
  have U_7 := Lib.hid (U_6.out.below hb)
  have K_7 := Lib.hid (K_6.out.keep hb)
  have J_7 := Lib.hid (J_6.out.keep hb)
  have L_7 := Lib.hid (L_6.out.keep hb)
  clear hb G_6 B_6 V_6 U_6 K_6 J_6 L_6 k0 k1 k2 j0 j1 j2 ha hw
  obtain ⟨pW5, hpW5⟩ : ∃ p, w5.heap.size = p := ⟨_, rfl⟩
  obtain ⟨W5, hW5⟩ := named (w5.alloc (.cells #[.slice wq2 wn2 wc2, .int .i64 e2] 40))
  have hb : Below w5.heap.size w5 W5 := by rw [hW5]; exact below_new8 _
  have G_8 := Lib.hid (G_7.out.keep hb)
  have B_8 := Lib.hid (bOn B_7.out hb)
  have V_8 := Lib.hid (V_7.out.below hb)
  have U_8 := Lib.hid (U_7.out.below hb)
  have K_8 := Lib.hid (K_7.out.keep hb)
  have J_8 := Lib.hid (J_7.out.keep hb)
  have L_8 := Lib.hid (L_7.out.keep hb)
  have M_8 : Hid (Blk W5 pW5 #[.slice wq2 wn2 wc2, .int .i64 e2] 40) := by rw [hW5]; exact Lib.hid (Blk.new _ _ _ _ (by simp [hpW5]))
  go_upto_region 7 with fail
  rw [← hW5]
  clear hb hW5 hpW5 G_7 B_7 V_7 U_7 K_7 J_7 L_7
  obtain ⟨k0, k1, k2, -, -, -⟩ := K_8.out.o3
  obtain ⟨j0, j1, j2, -, -, -⟩ := J_8.out.o3
  obtain ⟨l0, l1, -, -⟩ := L_8.out.o2
  obtain ⟨m0, m1, -, -⟩ := M_8.out.o2
  go_wp2_with fail
  go_ret
  exact ⟨rfl, B_8.out⟩

set_option maxHeartbeats 8000000 in
set_option maxRecDepth 100000 in
theorem apart_e2 (v : Value) (n : NetD) (u : Value) (m : NetD) (w : World) (hg : ErrT w) (hv : NetV w v n) (hin : InNet n) (hu : NetV w u m) (hin2 : InNet m) (hm1 : mayN n = true) (hm2 : mayN m = true) (he1 : (encodeF n).2.2 = 0) (he2 : ¬ (encodeF m).2.2 = 0) :
    Calls Tryz.prog 7 #[v, u] w fun e w' => e = .returned (.bool true) ∧ Below w.heap.size w w' := by
  obtain ⟨vq, aq, tq, vc, ac, tc, rfl, -⟩ := hv.shape
  obtain ⟨vq2, aq2, tq2, vc2, ac2, tc2, rfl, -⟩ := hu.shape
  have HIN := Lib.hid hin
  have HIN2 := Lib.hid hin2
  obtain ⟨R1, hR1⟩ : ∃ R, encodeF n = R := ⟨_, rfl⟩
  obtain ⟨R2, hR2⟩ : ∃ R, encodeF m = R := ⟨_, rfl⟩
  obtain ⟨L1, q1', e1⟩ := R1
  obtain ⟨L2, q2', e2⟩ := R2
  have HR1 := Lib.hid hR1
  have HR2 := Lib.hid hR2
  rw [hR1] at he1
  rw [hR2] at he2
  have hb1 : (e1 != 0) = false := by simpa using he1
  have hb2 : (e2 != 0) = true := by simpa using he2
  clear he1 he2 hR1 hR2
  have G_0 := Lib.hid (hg)
  have B_0 := Lib.hid (Below.refl w.heap.size w)
  have V_0 := Lib.hid (hv)
  have U_0 := Lib.hid (hu)
  clear hg hv hu hin hin2
  go_enter Tryz.func7, Tryz.ntmps7
  obtain ⟨pW0, hpW0⟩ : ∃ p, w.heap.size = p := ⟨_, rfl⟩
  obtain ⟨W0, hW0⟩ := named ((w.alloc (.cells #[.slice vq n.v.length vc, .slice aq n.a.length ac, .slice tq n.t.length tc] 37)).alloc (.cells #[.slice vq2 m.v.length vc2, .slice aq2 m.a.length ac2, .slice tq2 m.t.length tc2] 37))
  have hb : Below w.heap.size w W0 := by rw [hW0]; exact (below_new8 _).trans ((below_new8 _).mono (by simp))
  have G_1 := Lib.hid (G_0.out.keep hb)
  have B_1 := Lib.hid (bOn B_0.out hb)
  have V_1 := Lib.hid (V_0.out.below hb)
  have U_1 := Lib.hid (U_0.out.below hb)
  have K_1 : Hid (Blk W0 pW0 #[.slice vq n.v.length vc, .slice aq n.a.length ac, .slice tq n.t.length tc] 37) := by rw [hW0]; exact Lib.hid ((Blk.new _ _ _ _ (by simp [hpW0])).old _)
  have J_1 : Hid (Blk W0 (pW0 + 1) #[.slice vq2 m.v.length vc2, .slice aq2 m.a.length ac2, .slice tq2 m.t.length tc2] 37) := by rw [hW0]; exact Lib.hid (Blk.new _ _ _ _ (by simp [hpW0]))
  go_upto_region 1 with fail
  rw [← hW0]
  clear hb hW0 hpW0 G_0 B_0 V_0 U_0
  go_wp2_with fail
  refine (known5_any _ G_1.out).mono ?_
  rintro ev w1 ⟨rfl, hb⟩
  have G_2 := Lib.hid (G_1.out.keep hb)
  have B_2 := Lib.hid (bOn B_1.out hb)
  have V_2 := Lib.hid (V_1.out.below hb)
  have U_2 := Lib.hid (U_1.out.below hb)
  have K_2 := Lib.hid (K_1.out.keep hb)
  have J_2 := Lib.hid (J_1.out.keep hb)
  clear hb G_1 B_1 V_1 U_1 K_1 J_1 
  obtain ⟨k0, k1, k2, -, -, -⟩ := K_2.out.o3
  obtain ⟨j0, j1, j2, -, -, -⟩ := J_2.out.o3
  go_wp2_with fail
  refine (vmay V_2.out HIN.out hm1).mono ?_
  rintro ev w2 ⟨rfl, hb⟩
  have G_3 := Lib.hid (G_2.out.keep hb)
  have B_3 := Lib.hid (bOn B_2.out hb)
  have V_3 := Lib.hid (V_2.out.below hb)
  have U_3 := Lib.hid (U_2.out.below hb)
  have K_3 := Lib.hid (K_2.out.keep hb)
  have J_3 := Lib.hid (J_2.out.keep hb)
  clear hb G_2 B_2 V_2 U_2 K_2 J_2 k0 k1 k2 j0 j1 j2
  obtain ⟨k0, k1, k2, -, -, -⟩ := K_3.out.o3
  obtain ⟨j0, j1, j2, -, -, -⟩ := J_3.out.o3
  go_wp2_with fail
  refine (vmay U_3.out HIN2.out hm2).mono ?_
  rintro ev w3 ⟨rfl, hb⟩
  have G_4 := Lib.hid (G_3.out.keep hb)
  have B_4 := Lib.hid (bOn B_3.out hb)
  have V_4 := Lib.hid (V_3.out.below hb)
  have U_4 := Lib.hid (U_3.out.below hb)
  have K_4 := Lib.hid (K_3.out.keep hb)
  have J_4 := Lib.hid (J_3.out.keep hb)
  clear hb G_3 B_3 V_3 U_3 K_3 J_3 k0 k1 k2 j0 j1 j2
  obtain ⟨k0, k1, k2, -, -, -⟩ := K_4.out.o3
  obtain ⟨j0, j1, j2, -, -, -⟩ := J_4.out.o3
  go_wp2_with fail
  refine (rEncodeV V_4.out HIN.out HR1.out).mono ?_
  rintro ev w4 ⟨av, wv, rfl, ha, hw, hb⟩
  obtain ⟨wq, wn, wc, rfl⟩ := hw.shape
  have G_5 := Lib.hid (G_4.out.keep hb)
  have B_5 := Lib.hid (bOn B_4.out hb)
  have V_5 := Lib.hid (V_4.out.below hb)
  have U_5 := Lib.hid (U_4.out.below hb)
  have K_5 := Lib.hid (K_4.out.keep hb)
  have J_5 := Lib.hid (J_4.out.keep hb)
  clear hb G_4 B_4 V_4 U_4 K_4 J_4 k0 k1 k2 j0 j1 j2 ha hw
  obtain ⟨pW4, hpW4⟩ : ∃ p, w4.heap.size = p := ⟨_, rfl⟩
  obtain ⟨W4, hW4⟩ := named (w4.alloc (.cells #[.slice wq wn wc, .int .i64 e1] 40))
  have hb : Below w4.heap.size w4 W4 := by rw [hW4]; exact below_new8 _
  have G_6 := Lib.hid (G_5.out.keep hb)
  have B_6 := Lib.hid (bOn B_5.out hb)
  have V_6 := Lib.hid (V_5.out.below hb)
  have U_6 := Lib.hid (U_5.out.below hb)
  have K_6 := Lib.hid (K_5.out.keep hb)
  have J_6 := Lib.hid (J_5.out.keep hb)
  have L_6 : Hid (Blk W4 pW4 #[.slice wq wn wc, .int .i64 e1] 40) := by rw [hW4]; exact Lib.hid (Blk.new _ _ _ _ (by simp [hpW4]))
  go_upto_region 6 with fail
  rw [← hW4]
  clear hb hW4 hpW4 G_5 B_5 V_5 U_5 K_5 J_5
  obtain ⟨k0, k1, k2, -, -, -⟩ := K_6.out.o3
  obtain ⟨j0, j1, j2, -, -, -⟩ := J_6.out.o3
  go_wp2_with fail
  refine (rEncodeV U_6.out HIN2.out HR2.out).mono ?_
  rintro ev w5 ⟨bv, wv2, rfl, ha, hw, hb⟩
  obtain ⟨wq2, wn2, wc2, rfl⟩ := hw.shape
  have G_7 := Lib.hid (G_6.out.keep hb)
  have B_7 := Lib.hid (bOn B_6.out hb)
  have V_7 := Lib.hid (V_6.out.below hb)
  have U_7 := Lib.hid (U_6.out.below hb)
  have K_7 := Lib.hid (K_6.out.keep hb)
  have J_7 := Lib.hid (J_6.out.keep hb)
  have L_7 := Lib.hid (L_6.out.keep hb)
  clear hb G_6 B_6 V_6 U_6 K_6 J_6 L_6 k0 k1 k2 j0 j1 j2 ha hw
  obtain ⟨pW5, hpW5⟩ : ∃ p, w5.heap.size = p := ⟨_, rfl⟩
  obtain ⟨W5, hW5⟩ := named (w5.alloc (.cells #[.slice wq2 wn2 wc2, .int .i64 e2] 40))
  have hb : Below w5.heap.size w5 W5 := by rw [hW5]; exact below_new8 _
  have G_8 := Lib.hid (G_7.out.keep hb)
  have B_8 := Lib.hid (bOn B_7.out hb)
  have V_8 := Lib.hid (V_7.out.below hb)
  have U_8 := Lib.hid (U_7.out.below hb)
  have K_8 := Lib.hid (K_7.out.keep hb)
  have J_8 := Lib.hid (J_7.out.keep hb)
  have L_8 := Lib.hid (L_7.out.keep hb)
  have M_8 : Hid (Blk W5 pW5 #[.slice wq2 wn2 wc2, .int .i64 e2] 40) := by rw [hW5]; exact Lib.hid (Blk.new _ _ _ _ (by simp [hpW5]))
  go_upto_region 7 with fail
  rw [← hW5]
  clear hb hW5 hpW5 G_7 B_7 V_7 U_7 K_7 J_7 L_7
  obtain ⟨k0, k1, k2, -, -, -⟩ := K_8.out.o3
  obtain ⟨j0, j1, j2, -, -, -⟩ := J_8.out.o3
  obtain ⟨l0, l1, -, -⟩ := L_8.out.o2
  obtain ⟨m0, m1, -, -⟩ := M_8.out.o2
  go_wp2_with fail
  go_ret
  exact ⟨rfl, B_8.out⟩

set_option maxHeartbeats 8000000 in
set_option maxRecDepth 100000 in
theorem apart_ok (v : Value) (n : NetD) (u : Value) (m : NetD) (w : World) (hg : ErrT w) (hv : NetV w v n) (hin : InNet n) (hu : NetV w u m) (hin2 : InNet m) (hm1 : mayN n = true) (hm2 : mayN m = true) (he1 : (encodeF n).2.2 = 0) (he2 : (encodeF m).2.2 = 0) :
    Calls Tryz.prog 7 #[v, u] w fun e w' => e = .returned (.bool true) ∧ Below w.heap.size w w' := by
  obtain ⟨vq, aq, tq, vc, ac, tc, rfl, -⟩ := hv.shape
  obtain ⟨vq2, aq2, tq2, vc2, ac2, tc2, rfl, -⟩ := hu.shape
  have HIN := Lib.hid hin
  have HIN2 := Lib.hid hin2
  obtain ⟨R1, hR1⟩ : ∃ R, encodeF n = R := ⟨_, rfl⟩
  obtain ⟨R2, hR2⟩ : ∃ R, encodeF m = R := ⟨_, rfl⟩
  obtain ⟨L1, q1', e1⟩ := R1
  obtain ⟨L2, q2', e2⟩ := R2
  have HR1 := Lib.hid hR1
  have HR2 := Lib.hid hR2
  have enc_of : ∀ {x : NetD}, (chkN x).2 = 0 → (encodeF x).2.2 = 0 → encodeF x = (fileN x, fltOK) ∧ (fileN x).length ≤ 65536 := fun {x} hx he => by
    unfold encodeF at he ⊢
    rw [if_neg (by omega)] at he ⊢
    by_cases h2 : 65536 < (fileN x).length
    · rw [if_pos h2] at he; simp at he
    · rw [if_neg h2]; exact ⟨rfl, by omega⟩
  obtain ⟨HF1, hc1, -⟩ := may_of hm1
  obtain ⟨HF2, hc2, -⟩ := may_of hm2
  have hc1' : (chkN n).2 = 0 := by rw [hc1]; rfl
  have hc2' : (chkN m).2 = 0 := by rw [hc2]; rfl
  obtain ⟨g1, g1l⟩ := enc_of hc1' he1
  obtain ⟨g2, g2l⟩ := enc_of hc2' he2
  have hiff : decide (L1 = L2) = sameN n m := by
    have x1 : L1 = fileN n := by rw [g1] at hR1; exact (congrArg Prod.fst hR1).symm
    have x2 : L2 = fileN m := by rw [g2] at hR2; exact (congrArg Prod.fst hR2).symm
    rw [x1, x2]
    unfold sameN
    by_cases hnm : n = m
    · subst hnm; simp
    · have hne : ¬ fileN n = fileN m := fun e => hnm (file_inj hc1' g1l hc2' g2l e)
      rw [decide_eq_false hne]
      refine (decide_eq_false fun h => hnm ?_).symm
      obtain ⟨nv, na, nt⟩ := n
      obtain ⟨mv, ma, mt⟩ := m
      simp only at h
      obtain ⟨rfl, rfl, rfl⟩ := h
      rfl
  have h8 : In8 L1 ∧ In8 L2 := by
    have x1 : L1 = fileN n := by rw [g1] at hR1; exact (congrArg Prod.fst hR1).symm
    have x2 : L2 = fileN m := by rw [g2] at hR2; exact (congrArg Prod.fst hR2).symm
    rw [x1, x2]
    exact ⟨fileN_in8 hc1', fileN_in8 hc2'⟩
  have hfl1 : q1' = [] ∧ e1 = 0 := by rw [g1] at hR1; exact ⟨(congrArg (fun R => R.2.1) hR1).symm, (congrArg (fun R => R.2.2) hR1).symm⟩
  have hfl2 : q2' = [] ∧ e2 = 0 := by rw [g2] at hR2; exact ⟨(congrArg (fun R => R.2.1) hR2).symm, (congrArg (fun R => R.2.2) hR2).symm⟩
  obtain ⟨rfl, rfl⟩ := hfl1
  obtain ⟨rfl, rfl⟩ := hfl2
  have HFW1 := Lib.hid HF1
  have HFW2 := Lib.hid HF2
  have HIFF := Lib.hid hiff
  have H8 := Lib.hid h8
  clear he1 he2 hR1 hR2 enc_of HF1 HF2 hc1 hc2 hc1' hc2' g1 g1l g2 g2l hiff h8
  have G_0 := Lib.hid (hg)
  have B_0 := Lib.hid (Below.refl w.heap.size w)
  have V_0 := Lib.hid (hv)
  have U_0 := Lib.hid (hu)
  clear hg hv hu hin hin2
  go_enter Tryz.func7, Tryz.ntmps7
  obtain ⟨pW0, hpW0⟩ : ∃ p, w.heap.size = p := ⟨_, rfl⟩
  obtain ⟨W0, hW0⟩ := named ((w.alloc (.cells #[.slice vq n.v.length vc, .slice aq n.a.length ac, .slice tq n.t.length tc] 37)).alloc (.cells #[.slice vq2 m.v.length vc2, .slice aq2 m.a.length ac2, .slice tq2 m.t.length tc2] 37))
  have hb : Below w.heap.size w W0 := by rw [hW0]; exact (below_new8 _).trans ((below_new8 _).mono (by simp))
  have G_1 := Lib.hid (G_0.out.keep hb)
  have B_1 := Lib.hid (bOn B_0.out hb)
  have V_1 := Lib.hid (V_0.out.below hb)
  have U_1 := Lib.hid (U_0.out.below hb)
  have K_1 : Hid (Blk W0 pW0 #[.slice vq n.v.length vc, .slice aq n.a.length ac, .slice tq n.t.length tc] 37) := by rw [hW0]; exact Lib.hid ((Blk.new _ _ _ _ (by simp [hpW0])).old _)
  have J_1 : Hid (Blk W0 (pW0 + 1) #[.slice vq2 m.v.length vc2, .slice aq2 m.a.length ac2, .slice tq2 m.t.length tc2] 37) := by rw [hW0]; exact Lib.hid (Blk.new _ _ _ _ (by simp [hpW0]))
  go_upto_region 1 with fail
  rw [← hW0]
  clear hb hW0 hpW0 G_0 B_0 V_0 U_0
  go_wp2_with fail
  refine (known5_any _ G_1.out).mono ?_
  rintro ev w1 ⟨rfl, hb⟩
  have G_2 := Lib.hid (G_1.out.keep hb)
  have B_2 := Lib.hid (bOn B_1.out hb)
  have V_2 := Lib.hid (V_1.out.below hb)
  have U_2 := Lib.hid (U_1.out.below hb)
  have K_2 := Lib.hid (K_1.out.keep hb)
  have J_2 := Lib.hid (J_1.out.keep hb)
  clear hb G_1 B_1 V_1 U_1 K_1 J_1 
  obtain ⟨k0, k1, k2, -, -, -⟩ := K_2.out.o3
  obtain ⟨j0, j1, j2, -, -, -⟩ := J_2.out.o3
  go_wp2_with fail
  refine (vmay V_2.out HIN.out hm1).mono ?_
  rintro ev w2 ⟨rfl, hb⟩
  have G_3 := Lib.hid (G_2.out.keep hb)
  have B_3 := Lib.hid (bOn B_2.out hb)
  have V_3 := Lib.hid (V_2.out.below hb)
  have U_3 := Lib.hid (U_2.out.below hb)
  have K_3 := Lib.hid (K_2.out.keep hb)
  have J_3 := Lib.hid (J_2.out.keep hb)
  clear hb G_2 B_2 V_2 U_2 K_2 J_2 k0 k1 k2 j0 j1 j2
  obtain ⟨k0, k1, k2, -, -, -⟩ := K_3.out.o3
  obtain ⟨j0, j1, j2, -, -, -⟩ := J_3.out.o3
  go_wp2_with fail
  refine (vmay U_3.out HIN2.out hm2).mono ?_
  rintro ev w3 ⟨rfl, hb⟩
  have G_4 := Lib.hid (G_3.out.keep hb)
  have B_4 := Lib.hid (bOn B_3.out hb)
  have V_4 := Lib.hid (V_3.out.below hb)
  have U_4 := Lib.hid (U_3.out.below hb)
  have K_4 := Lib.hid (K_3.out.keep hb)
  have J_4 := Lib.hid (J_3.out.keep hb)
  clear hb G_3 B_3 V_3 U_3 K_3 J_3 k0 k1 k2 j0 j1 j2
  obtain ⟨k0, k1, k2, -, -, -⟩ := K_4.out.o3
  obtain ⟨j0, j1, j2, -, -, -⟩ := J_4.out.o3
  go_wp2_with fail
  refine (rEncodeV V_4.out HIN.out HR1.out).mono ?_
  rintro ev w4 ⟨av, wv, rfl, ha, hw, hb⟩
  obtain ⟨wq, wn, wc, rfl⟩ := hw.shape
  have G_5 := Lib.hid (G_4.out.keep hb)
  have B_5 := Lib.hid (bOn B_4.out hb)
  have V_5 := Lib.hid (V_4.out.below hb)
  have U_5 := Lib.hid (U_4.out.below hb)
  have K_5 := Lib.hid (K_4.out.keep hb)
  have J_5 := Lib.hid (J_4.out.keep hb)
  clear hb G_4 B_4 V_4 U_4 K_4 J_4 k0 k1 k2 j0 j1 j2 ha hw
  obtain ⟨pW4, hpW4⟩ : ∃ p, w4.heap.size = p := ⟨_, rfl⟩
  obtain ⟨W4, hW4⟩ := named (w4.alloc (.cells #[.slice wq wn wc, .int .i64 0] 40))
  have hb : Below w4.heap.size w4 W4 := by rw [hW4]; exact below_new8 _
  have G_6 := Lib.hid (G_5.out.keep hb)
  have B_6 := Lib.hid (bOn B_5.out hb)
  have V_6 := Lib.hid (V_5.out.below hb)
  have U_6 := Lib.hid (U_5.out.below hb)
  have K_6 := Lib.hid (K_5.out.keep hb)
  have J_6 := Lib.hid (J_5.out.keep hb)
  have L_6 : Hid (Blk W4 pW4 #[.slice wq wn wc, .int .i64 0] 40) := by rw [hW4]; exact Lib.hid (Blk.new _ _ _ _ (by simp [hpW4]))
  go_upto_region 6 with fail
  rw [← hW4]
  clear hb hW4 hpW4 G_5 B_5 V_5 U_5 K_5 J_5
  obtain ⟨k0, k1, k2, -, -, -⟩ := K_6.out.o3
  obtain ⟨j0, j1, j2, -, -, -⟩ := J_6.out.o3
  go_wp2_with fail
  refine (rEncodeV U_6.out HIN2.out HR2.out).mono ?_
  rintro ev w5 ⟨bv, wv2, rfl, ha, hw, hb⟩
  obtain ⟨wq2, wn2, wc2, rfl⟩ := hw.shape
  have G_7 := Lib.hid (G_6.out.keep hb)
  have B_7 := Lib.hid (bOn B_6.out hb)
  have V_7 := Lib.hid (V_6.out.below hb)
  have U_7 := Lib.hid (U_6.out.below hb)
  have K_7 := Lib.hid (K_6.out.keep hb)
  have J_7 := Lib.hid (J_6.out.keep hb)
  have L_7 := Lib.hid (L_6.out.keep hb)
  clear hb G_6 B_6 V_6 U_6 K_6 J_6 L_6 k0 k1 k2 j0 j1 j2 ha hw
  obtain ⟨pW5, hpW5⟩ : ∃ p, w5.heap.size = p := ⟨_, rfl⟩
  obtain ⟨W5, hW5⟩ := named (w5.alloc (.cells #[.slice wq2 wn2 wc2, .int .i64 0] 40))
  have hb : Below w5.heap.size w5 W5 := by rw [hW5]; exact below_new8 _
  have G_8 := Lib.hid (G_7.out.keep hb)
  have B_8 := Lib.hid (bOn B_7.out hb)
  have V_8 := Lib.hid (V_7.out.below hb)
  have U_8 := Lib.hid (U_7.out.below hb)
  have K_8 := Lib.hid (K_7.out.keep hb)
  have J_8 := Lib.hid (J_7.out.keep hb)
  have L_8 := Lib.hid (L_7.out.keep hb)
  have M_8 : Hid (Blk W5 pW5 #[.slice wq2 wn2 wc2, .int .i64 0] 40) := by rw [hW5]; exact Lib.hid (Blk.new _ _ _ _ (by simp [hpW5]))
  go_upto_region 7 with fail
  rw [← hW5]
  clear hb hW5 hpW5 G_7 B_7 V_7 U_7 K_7 J_7 L_7
  obtain ⟨k0, k1, k2, -, -, -⟩ := K_8.out.o3
  obtain ⟨j0, j1, j2, -, -, -⟩ := J_8.out.o3
  obtain ⟨l0, l1, -, -⟩ := L_8.out.o2
  obtain ⟨m0, m1, -, -⟩ := M_8.out.o2
  go_wp2_with fail
  clear l0 l1 m0 m1
  refine (vtoF V_8.out HFW1.out).mono ?_
  rintro ev w6 ⟨tv, rfl, ht, hb⟩
  have G_9 := Lib.hid (G_8.out.keep hb)
  have B_9 := Lib.hid (bOn B_8.out hb)
  have V_9 := Lib.hid (V_8.out.below hb)
  have U_9 := Lib.hid (U_8.out.below hb)
  have K_9 := Lib.hid (K_8.out.keep hb)
  have J_9 := Lib.hid (J_8.out.keep hb)
  have L_9 := Lib.hid (L_8.out.keep hb)
  have M_9 := Lib.hid (M_8.out.keep hb)
  have T_9 := Lib.hid (ht)
  clear hb G_8 B_8 V_8 U_8 K_8 J_8 L_8 M_8 k0 k1 k2 j0 j1 j2 ht
  go_wp2_with fail
  refine (vEncodeV T_9.out HIN.out HFW1.out.small HR1.out).mono ?_
  rintro ev w7 ⟨bv1, er, rfl, hub, hf, hb⟩
  obtain rfl := FaultV.none hf
  have G_10 := Lib.hid (G_9.out.keep hb)
  have B_10 := Lib.hid (bOn B_9.out hb)
  have V_10 := Lib.hid (V_9.out.below hb)
  have U_10 := Lib.hid (U_9.out.below hb)
  have K_10 := Lib.hid (K_9.out.keep hb)
  have J_10 := Lib.hid (J_9.out.keep hb)
  have L_10 := Lib.hid (L_9.out.keep hb)
  have M_10 := Lib.hid (M_9.out.keep hb)
  have T_10 := Lib.hid (T_9.out.below hb)
  have X_10 := Lib.hid (hub)
  clear hb G_9 B_9 V_9 U_9 K_9 J_9 L_9 M_9 T_9 hub hf
  clear T_10
  obtain ⟨k0, k1, k2, -, -, -⟩ := K_10.out.o3
  obtain ⟨j0, j1, j2, -, -, -⟩ := J_10.out.o3
  go_wp2_with fail
  refine (vtoF U_10.out HFW2.out).mono ?_
  rintro ev w8 ⟨tv, rfl, ht, hb⟩
  have G_11 := Lib.hid (G_10.out.keep hb)
  have B_11 := Lib.hid (bOn B_10.out hb)
  have V_11 := Lib.hid (V_10.out.below hb)
  have U_11 := Lib.hid (U_10.out.below hb)
  have K_11 := Lib.hid (K_10.out.keep hb)
  have J_11 := Lib.hid (J_10.out.keep hb)
  have L_11 := Lib.hid (L_10.out.keep hb)
  have M_11 := Lib.hid (M_10.out.keep hb)
  have X_11 := Lib.hid (X_10.out.below hb)
  have T_11 := Lib.hid (ht)
  clear hb G_10 B_10 V_10 U_10 K_10 J_10 L_10 M_10 X_10 k0 k1 k2 j0 j1 j2 ht
  go_wp2_with fail
  refine (vEncodeV T_11.out HIN2.out HFW2.out.small HR2.out).mono ?_
  rintro ev w9 ⟨bv2, er, rfl, hub, hf, hb⟩
  obtain rfl := FaultV.none hf
  have G_12 := Lib.hid (G_11.out.keep hb)
  have B_12 := Lib.hid (bOn B_11.out hb)
  have V_12 := Lib.hid (V_11.out.below hb)
  have U_12 := Lib.hid (U_11.out.below hb)
  have K_12 := Lib.hid (K_11.out.keep hb)
  have J_12 := Lib.hid (J_11.out.keep hb)
  have L_12 := Lib.hid (L_11.out.keep hb)
  have M_12 := Lib.hid (M_11.out.keep hb)
  have X_12 := Lib.hid (X_11.out.below hb)
  have T_12 := Lib.hid (T_11.out.below hb)
  have Y_12 := Lib.hid (hub)
  clear hb G_11 B_11 V_11 U_11 K_11 J_11 L_11 M_11 X_11 T_11 hub hf
  clear T_12
  obtain ⟨k0, k1, k2, -, -, -⟩ := K_12.out.o3
  obtain ⟨j0, j1, j2, -, -, -⟩ := J_12.out.o3
  obtain ⟨T1, hT1⟩ : ∃ s, strOfNums L1 = s := ⟨_, rfl⟩
  obtain ⟨T2, hT2⟩ : ∃ s, strOfNums L2 = s := ⟨_, rfl⟩
  obtain ⟨SB, hSB⟩ : ∃ b, sameN n m = b := ⟨_, rfl⟩
  have heq : (T1.toList == T2.toList) = SB := by rw [← hT1, ← hT2, text_inj H8.out.1 H8.out.2, HIFF.out, hSB]
  have KT1 := Lib.hid hT1
  have KT2 := Lib.hid hT2
  have KSB := Lib.hid hSB
  clear hT1 hT2 hSB k0 k1 k2 j0 j1 j2
  go_upto_region 13 with fail
  have hGS : Grows (fun w' => Below w9.heap.size w9 w') := Grows.below w9
  refine' wp_growL _ (fun w' => Below w9.heap.size w9 w') [[], [0], [], [2], [1, 3], [], [], [5, 6], [4, 7], [8]] (Fact.lit _ :: Fact.lit _ :: Fact.lit _ :: Fact.lit _ :: Fact.lit _ :: Fact.lit _ :: Fact.lit _ :: Fact.lit _ :: Fact.lit _ :: Fact.lit _ :: []) (by kernel_rfl) rfl (by kernel_rfl) (Below.refl _ _).drew ?seqfa
  case' seqfa => skip
  iterate 1 ((first | (apply grow_skip; (case hf => rfl); (case hw => rfl)) | (apply grow_lit; (case hf => rfl); (case hw => rfl); (case hrun => (intro w' hS H; clear H; (obtain ⟨k0, k1, k2, -, -, -⟩ := (K_12.out.keep hS).o3); (obtain ⟨j0, j1, j2, -, -, -⟩ := (J_12.out.keep hS).o3); clear hS; go_simp; first | done | exact rfl)))); (case hc => (simp only [Act.put, List.setIfInBounds_toArray, List.set_cons_zero, List.set_cons_succ]; first | done | exact rfl)); (try (case hj => rfl)))
  (refine' grow_lit rfl ?wtL1 ?runL1 ?putL1 ?nextL1; (case wtL1 => rfl); (case runL1 => (intro w' hS H; (have q := text_of (X_12.out.below hS) KT1.out); clear H hS; go_simp; first | done | exact rfl)); (case putL1 => (simp only [Act.put, List.setIfInBounds_toArray, List.set_cons_zero, List.set_cons_succ]; first | done | exact rfl)); (case' nextL1 => skip))
  iterate 1 ((first | (apply grow_skip; (case hf => rfl); (case hw => rfl)) | (apply grow_lit; (case hf => rfl); (case hw => rfl); (case hrun => (intro w' hS H; clear H; (obtain ⟨k0, k1, k2, -, -, -⟩ := (K_12.out.keep hS).o3); (obtain ⟨j0, j1, j2, -, -, -⟩ := (J_12.out.keep hS).o3); clear hS; go_simp; first | done | exact rfl)))); (case hc => (simp only [Act.put, List.setIfInBounds_toArray, List.set_cons_zero, List.set_cons_succ]; first | done | exact rfl)); (try (case hj => rfl)))
  (refine' grow_lit rfl ?wtL2 ?runL2 ?putL2 ?nextL2; (case wtL2 => rfl); (case runL2 => (intro w' hS H; (have q := text_of (Y_12.out.below hS) KT2.out); clear H hS; go_simp; first | done | exact rfl)); (case putL2 => (simp only [Act.put, List.setIfInBounds_toArray, List.set_cons_zero, List.set_cons_succ]; first | done | exact rfl)); (case' nextL2 => skip))
  iterate 3 ((first | (apply grow_skip; (case hf => rfl); (case hw => rfl)) | (apply grow_lit; (case hf => rfl); (case hw => rfl); (case hrun => (intro w' hS H; clear H; (obtain ⟨k0, k1, k2, -, -, -⟩ := (K_12.out.keep hS).o3); (obtain ⟨j0, j1, j2, -, -, -⟩ := (J_12.out.keep hS).o3); clear hS; go_simp; first | done | exact rfl)))); (case hc => (simp only [Act.put, List.setIfInBounds_toArray, List.set_cons_zero, List.set_cons_succ]; first | done | exact rfl)); (try (case hj => rfl)))
  (refine' grow_call (u := .bool SB) rfl Tryz.func12 (by kernel_rfl) rfl hGS rfl ?wt1 ?run1 ?put1 ?next1; (case wt1 => rfl); (case run1 => (intro w' hS H; exact rvsame (V_12.out.below hS) (U_12.out.below hS) KSB.out)); (case put1 => (simp only [Act.put, List.setIfInBounds_toArray, List.set_cons_zero, List.set_cons_succ]; first | done | exact rfl)); (case' next1 => skip))
  iterate 2 ((first | (apply grow_skip; (case hf => rfl); (case hw => rfl)) | (apply grow_lit; (case hf => rfl); (case hw => rfl); (case hrun => (intro w' hS H; clear H; (obtain ⟨k0, k1, k2, -, -, -⟩ := (K_12.out.keep hS).o3); (obtain ⟨j0, j1, j2, -, -, -⟩ := (J_12.out.keep hS).o3); clear hS; go_simp; first | done | exact rfl)))); (case hc => (simp only [Act.put, List.setIfInBounds_toArray, List.set_cons_zero, List.set_cons_succ]; first | done | exact rfl)); (try (case hj => rfl)))
  intro wz hb _
  have HB := Lib.hid (bOn B_12.out hb)
  clear hb hGS
  go_wp2_with fail
  go_ret
  exact ⟨by cases SB <;> rfl, HB.out⟩

theorem apart_any (v : Value) (n : NetD) (u : Value) (m : NetD) (w : World) (hg : ErrT w) (hv : NetV w v n) (hin : InNet n) (hu : NetV w u m) (hin2 : InNet m) :
    Calls Tryz.prog 7 #[v, u] w fun e w' => e = .returned (.bool true) ∧ Below w.heap.size w w' := by
  cases hm1 : mayN n with
  | false => exact apart_n v n u m w hg hv hin hu hin2 hm1
  | true =>
    cases hm2 : mayN m with
    | false => exact apart_m v n u m w hg hv hin hu hin2 hm1 hm2
    | true =>
      by_cases he1 : (encodeF n).2.2 = 0
      · by_cases he2 : (encodeF m).2.2 = 0
        · exact apart_ok v n u m w hg hv hin hu hin2 hm1 hm2 he1 he2
        · exact apart_e2 v n u m w hg hv hin hu hin2 hm1 hm2 he1 he2
      · exact apart_e1 v n u m w hg hv hin hu hin2 hm1 hm2 he1

set_option maxRecDepth 100000 in
theorem fileApart_walks : Walks laidAll 7 Tryz.f7 := by
  intro H enc W args ds g
  obtain ⟨ps, hA⟩ := g.reads
  obtain ⟨base, hval⟩ := g.okay
  rw [Tryz.params7] at hA hval
  obtain ⟨v0, vs0, d0, ds0, p0, q0, hargs, rfl, rfl, h0, r0⟩ := trodAll_cons hA
  obtain ⟨v1, vs1, d1, ds1, p1, q1, rfl, rfl, rfl, h1, r1⟩ := trodAll_cons r0
  obtain ⟨rfl, rfl, rfl⟩ := trodAll_nil r1
  obtain rfl : args = #[v0, v1] := Array.toList_inj.1 hargs
  obtain ⟨n0, w0, u0⟩ := open_net (hval 0 37 v0 rfl rfl) h0
  obtain ⟨n1, w1, u1⟩ := open_net (hval 1 37 v1 rfl rfl) h1
  exact apart_any v0 n0 v1 n1 W (errT_of_laid g.laid) w0 u0 w1 u1

theorem fileApart_row : Rows.FileApartSaid :=
  OpenClaim.holds_of_wide 7 Tryz.f7 rfl rfl rfl rfl rfl rfl rfl ⟨rfl, rfl, rfl, rfl, rfl⟩ rfl rfl rfl rfl rfl (by kernel_rfl) Tryz.func7 (by kernel_rfl)
    (of_decide_eq_true (by kernel_rfl)) (by unfold Func.isWrapper; rw [if_neg (of_decide_eq_false (by kernel_rfl))]; exact ⟨rfl, rfl⟩)
    (fun os started H enc _ => law_lifted (s := Rows.fileApartSpec) (L := laidAll) Tryz.func7 (by kernel_rfl) rfl (by kernel_rfl)
      (fun H ds hl => by
        rw [Tryz.params7] at hl
        match ds, hl with
        | [_, _], _ => exact ⟨rfl, rfl, rfl⟩)
      (by kernel_rfl) os started H enc
      (ChangeSpec.witness_at (enc := enc) (C := Tryz.checked) (os := os) (X := fun w _ => laidMetH Tryz.prog laidAll w) false (laidWorld os) #[.agg #[.slice none 0 0, .slice none 0 0, .slice none 0 0], .agg #[.slice none 0 0, .slice none 0 0, .slice none 0 0]] 8 rfl (by kernel_rfl) (by kernel_rfl) (by kernel_rfl) (by kernel_rfl) (by kernel_rfl) (laidWorld_met os _))
      fileApart_walks)

theorem fileApart_card : Rows.FileApartCardSaid :=
  Claim7.holds_tied_plain_at .later [] laidKindsAll true (Rows.fileApartCard.stood.harness) true
    fileApart_row (fun _ h => by cases h) (by kernel_rfl) (fun _ h => by cases h) fileApart_row_tie rfl ⟨rfl, rfl⟩ (by kernel_rfl) rfl
    (fun f fn hf hfn => by
      obtain rfl : f = 7 := Option.some.inj ((show Tryz.prog.funcNamed "roundsman/roundsmanlaw5.FileApart" = some 7 by kernel_rfl).symm.trans hf) |>.symm
      obtain rfl : fn = Tryz.f7 := (Option.some.inj (Tryz.func7.symm.trans hfn)).symm
      exact ⟨by kernel_rfl, fun j t ht => by
        rw [Tryz.params7] at ht
        exact stand_all #[37, 37] (by kernel_rfl) j t ht⟩)
    (by kernel_rfl)
#print axioms fileApart_card

end Go.Proofs.YtjapdbegfanfiaaGreatDoor
