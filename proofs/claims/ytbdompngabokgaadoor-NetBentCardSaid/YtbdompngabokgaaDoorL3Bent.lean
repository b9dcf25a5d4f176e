/-
  PROVED: a net that may be, with one thing in it turned into what may not be: it is refused, and where. For every net, what is turned, and where. Conditions: the listed library variable holds what the program's own text lays (the card ties it).
-/
import Derived.Test.YtbdompngabokgaaDoorKnown3
import Derived.Test.YtbdompngabokgaaDoorNetIn
import Derived.Test.YtbdompngabokgaaDoorLaid2
import Derived.Test.YtbdompngabokgaaDoorCards
import Derived.Test.YtbdompngabokgaaDoorTie
import Derived.SevenTiedAt
import Derived.Test.YtbdompngabokgaaDoorBentO
namespace Go.Proofs.YtbdompngabokgaaDoor
open Go.ChangeShapes Go.WideShapes Go.ChangeAt Go.RowKit

set_option maxHeartbeats 8000000 in
set_option maxRecDepth 100000 in
theorem bent_no (v : Value) (n : NetD) (wh at_ by_ : Int) (w : World) (hg : ErrT w) (hv : NetV w v n) (hin : InNet n) (hm : mayN n = false) :
    Calls Tryd.prog 8 #[v, .int .u8 wh, .int .u16 at_, .int .u16 by_] w fun e w' => e = .returned (.bool true) ∧ Below w.heap.size w w' := by
  obtain ⟨vq, aq, tq, vc, ac, tc, rfl, -⟩ := hv.shape
  have HM := Lib.hid hm
  have HIN := Lib.hid hin
  clear hm hin
  go_enter Tryd.func8, Tryd.ntmps8
  go_wp2_with fail
  obtain ⟨W0, hW0⟩ := named (w.alloc (.cells #[.slice vq n.v.length vc, .slice aq n.a.length ac, .slice tq n.t.length tc] 26))
  rw [← hW0]
  have hc0 : Below w.heap.size w W0 := by rw [hW0]; exact below_alloc1 _
  have B0 := Lib.hid hc0
  have KA : Hid (Blk W0 (w.heap.size) #[.slice vq n.v.length vc, .slice aq n.a.length ac, .slice tq n.t.length tc] 26) := by rw [hW0]; exact Lib.hid (Blk.new _ _ _ _ rfl)
  have VA := Lib.hid (hv.below hc0)
  have HG := Lib.hid (hg.keep hc0)
  clear hc0 hW0 hv hg
  refine (known3_any _ HG.out).mono ?_
  rintro e w1 ⟨rfl, hb⟩
  obtain ⟨p0, p1, p2, -, -, -⟩ := (KA.out.keep hb).o3
  go_wp2_with fail
  clear p0 p1 p2
  have hd1 : Below W0.heap.size W0 w1 := hb
  have KA_ := Lib.hid (KA.out.keep hd1)
  have VA_ := Lib.hid (VA.out.below hd1)
  have HG_ := Lib.hid (HG.out.keep hd1)
  clear KA VA HG
  have KA := KA_
  have VA := VA_
  have HG := HG_
  clear KA_ VA_ HG_
  have B1 : Hid (Below w.heap.size w w1) := Lib.hid (B0.out.trans (hd1.mono B0.out.size))
  clear B0
  have B0 := B1
  clear B1
  clear hb hd1 
  refine (vmay VA.out HIN.out HM.out).mono ?_
  rintro e w2 ⟨rfl, hb⟩
  obtain ⟨p0, p1, p2, -, -, -⟩ := (KA.out.keep hb).o3
  go_wp2_with fail
  clear p0 p1 p2
  have hd2 : Below w1.heap.size w1 w2 := hb
  have KA_ := Lib.hid (KA.out.keep hd2)
  have VA_ := Lib.hid (VA.out.below hd2)
  have HG_ := Lib.hid (HG.out.keep hd2)
  clear KA VA HG
  have KA := KA_
  have VA := VA_
  have HG := HG_
  clear KA_ VA_ HG_
  have B1 : Hid (Below w.heap.size w w2) := Lib.hid (B0.out.trans (hd2.mono B0.out.size))
  clear B0
  have B0 := B1
  clear B1
  clear hb hd2 
  go_ret
  exact ⟨rfl, B0.out⟩

set_option maxHeartbeats 8000000 in
set_option maxRecDepth 100000 in
theorem bent_v0 (v : Value) (n : NetD) (wh at_ by_ : Int) (w : World) (hg : ErrT w) (hv : NetV w v n) (hin : InNet n) (hm : mayN n = true) (h0 : n.v.length = 0) :
    Calls Tryd.prog 8 #[v, .int .u8 wh, .int .u16 at_, .int .u16 by_] w fun e w' => e = .returned (.bool true) ∧ Below w.heap.size w w' := by
  obtain ⟨vq, aq, tq, vc, ac, tc, rfl, -⟩ := hv.shape
  have HM := Lib.hid hm
  have HIN := Lib.hid hin
  clear hm hin
  have d1 : ((n.v.length : Int) == 0) = true := by simp [h0]
  clear h0
  go_enter Tryd.func8, Tryd.ntmps8
  go_wp2_with fail
  obtain ⟨W0, hW0⟩ := named (w.alloc (.cells #[.slice vq n.v.length vc, .slice aq n.a.length ac, .slice tq n.t.length tc] 26))
  rw [← hW0]
  have hc0 : Below w.heap.size w W0 := by rw [hW0]; exact below_alloc1 _
  have B0 := Lib.hid hc0
  have KA : Hid (Blk W0 (w.heap.size) #[.slice vq n.v.length vc, .slice aq n.a.length ac, .slice tq n.t.length tc] 26) := by rw [hW0]; exact Lib.hid (Blk.new _ _ _ _ rfl)
  have VA := Lib.hid (hv.below hc0)
  have HG := Lib.hid (hg.keep hc0)
  clear hc0 hW0 hv hg
  refine (known3_any _ HG.out).mono ?_
  rintro e w1 ⟨rfl, hb⟩
  obtain ⟨p0, p1, p2, -, -, -⟩ := (KA.out.keep hb).o3
  go_wp2_with fail
  clear p0 p1 p2
  have hd1 : Below W0.heap.size W0 w1 := hb
  have KA_ := Lib.hid (KA.out.keep hd1)
  have VA_ := Lib.hid (VA.out.below hd1)
  have HG_ := Lib.hid (HG.out.keep hd1)
  clear KA VA HG
  have KA := KA_
  have VA := VA_
  have HG := HG_
  clear KA_ VA_ HG_
  have B1 : Hid (Below w.heap.size w w1) := Lib.hid (B0.out.trans (hd1.mono B0.out.size))
  clear B0
  have B0 := B1
  clear B1
  clear hb hd1 
  refine (vmay VA.out HIN.out HM.out).mono ?_
  rintro e w2 ⟨rfl, hb⟩
  obtain ⟨p0, p1, p2, -, -, -⟩ := (KA.out.keep hb).o3
  go_wp2_with fail
  clear p0 p1 p2
  have hd2 : Below w1.heap.size w1 w2 := hb
  have KA_ := Lib.hid (KA.out.keep hd2)
  have VA_ := Lib.hid (VA.out.below hd2)
  have HG_ := Lib.hid (HG.out.keep hd2)
  clear KA VA HG
  have KA := KA_
  have VA := VA_
  have HG := HG_
  clear KA_ VA_ HG_
  have B1 : Hid (Below w.heap.size w w2) := Lib.hid (B0.out.trans (hd2.mono B0.out.size))
  clear B0
  have B0 := B1
  clear B1
  clear hb hd2 
  go_ret
  exact ⟨rfl, B0.out⟩

set_option maxHeartbeats 8000000 in
set_option maxRecDepth 100000 in
theorem bent_a0 (v : Value) (n : NetD) (wh at_ by_ : Int) (w : World) (hg : ErrT w) (hv : NetV w v n) (hin : InNet n) (hm : mayN n = true) (h0 : ¬ n.v.length = 0) (h1 : n.a.length = 0) :
    Calls Tryd.prog 8 #[v, .int .u8 wh, .int .u16 at_, .int .u16 by_] w fun e w' => e = .returned (.bool true) ∧ Below w.heap.size w w' := by
  obtain ⟨vq, aq, tq, vc, ac, tc, rfl, -⟩ := hv.shape
  have HM := Lib.hid hm
  have HIN := Lib.hid hin
  clear hm hin
  have d1 : ((n.v.length : Int) == 0) = false := beq_eq_false_iff_ne.2 (by omega)
  have d2 : ((n.a.length : Int) == 0) = true := by simp [h1]
  clear h0 h1
  go_enter Tryd.func8, Tryd.ntmps8
  go_wp2_with fail
  obtain ⟨W0, hW0⟩ := named (w.alloc (.cells #[.slice vq n.v.length vc, .slice aq n.a.length ac, .slice tq n.t.length tc] 26))
  rw [← hW0]
  have hc0 : Below w.heap.size w W0 := by rw [hW0]; exact below_alloc1 _
  have B0 := Lib.hid hc0
  have KA : Hid (Blk W0 (w.heap.size) #[.slice vq n.v.length vc, .slice aq n.a.length ac, .slice tq n.t.length tc] 26) := by rw [hW0]; exact Lib.hid (Blk.new _ _ _ _ rfl)
  have VA := Lib.hid (hv.below hc0)
  have HG := Lib.hid (hg.keep hc0)
  clear hc0 hW0 hv hg
  refine (known3_any _ HG.out).mono ?_
  rintro e w1 ⟨rfl, hb⟩
  obtain ⟨p0, p1, p2, -, -, -⟩ := (KA.out.keep hb).o3
  go_wp2_with fail
  clear p0 p1 p2
  have hd1 : Below W0.heap.size W0 w1 := hb
  have KA_ := Lib.hid (KA.out.keep hd1)
  have VA_ := Lib.hid (VA.out.below hd1)
  have HG_ := Lib.hid (HG.out.keep hd1)
  clear KA VA HG
  have KA := KA_
  have VA := VA_
  have HG := HG_
  clear KA_ VA_ HG_
  have B1 : Hid (Below w.heap.size w w1) := Lib.hid (B0.out.trans (hd1.mono B0.out.size))
  clear B0
  have B0 := B1
  clear B1
  clear hb hd1 
  refine (vmay VA.out HIN.out HM.out).mono ?_
  rintro e w2 ⟨rfl, hb⟩
  obtain ⟨p0, p1, p2, -, -, -⟩ := (KA.out.keep hb).o3
  go_wp2_with fail
  clear p0 p1 p2
  have hd2 : Below w1.heap.size w1 w2 := hb
  have KA_ := Lib.hid (KA.out.keep hd2)
  have VA_ := Lib.hid (VA.out.below hd2)
  have HG_ := Lib.hid (HG.out.keep hd2)
  clear KA VA HG
  have KA := KA_
  have VA := VA_
  have HG := HG_
  clear KA_ VA_ HG_
  have B1 : Hid (Below w.heap.size w w2) := Lib.hid (B0.out.trans (hd2.mono B0.out.size))
  clear B0
  have B0 := B1
  clear B1
  clear hb hd2 
  go_ret
  exact ⟨rfl, B0.out⟩

set_option maxHeartbeats 8000000 in
set_option maxRecDepth 100000 in
theorem bent_0 (v : Value) (n : NetD) (wh at_ by_ : Int) (kv ka : Nat) (w : World) (hg : ErrT w) (hv : NetV w v n) (hin : InNet n) (hm : mayN n = true) (hkv : kv < n.v.length) (hka : ka < n.a.length) (hmv : at_.tmod (n.v.length : Int) = kv) (hma : at_.tmod (n.a.length : Int) = ka) (ha0 : 0 ≤ at_) (ha1 : at_ ≤ 65535) (hb0 : 0 ≤ by_) (hb1 : by_ ≤ 65535) (hwh : wh.tmod 6 = 0) :
    Calls Tryd.prog 8 #[v, .int .u8 wh, .int .u16 at_, .int .u16 by_] w fun e w' => e = .returned (.bool true) ∧ Below w.heap.size w w' := by
  obtain ⟨vq, aq, tq, vc, ac, tc, rfl, -⟩ := hv.shape
  have HM := Lib.hid hm
  obtain ⟨hf, hk, hgd⟩ := may_of hm
  have BT := Lib.hid (bentI0 hf hin hk hgd hkv (x := 1048577 + by_) (by omega) (by omega))
  have F1 := Lib.hid hf
  have OK := Lib.hid hk
  have GD := Lib.hid hgd
  have HIN := Lib.hid hin
  have d1 : ((n.v.length : Int) == 0) = false := beq_eq_false_iff_ne.2 (by omega)
  have d2 : ((n.a.length : Int) == 0) = false := beq_eq_false_iff_ne.2 (by omega)
  have hz1 : ¬ (n.v.length : Int) = 0 := by omega
  have hz2 : ¬ (n.a.length : Int) = 0 := by omega
  clear hm hin hf hk hgd
  go_enter Tryd.func8, Tryd.ntmps8
  go_wp2_with fail
  obtain ⟨W0, hW0⟩ := named (w.alloc (.cells #[.slice vq n.v.length vc, .slice aq n.a.length ac, .slice tq n.t.length tc] 26))
  rw [← hW0]
  have hc0 : Below w.heap.size w W0 := by rw [hW0]; exact below_alloc1 _
  have B0 := Lib.hid hc0
  have KA : Hid (Blk W0 (w.heap.size) #[.slice vq n.v.length vc, .slice aq n.a.length ac, .slice tq n.t.length tc] 26) := by rw [hW0]; exact Lib.hid (Blk.new _ _ _ _ rfl)
  have VA := Lib.hid (hv.below hc0)
  have HG := Lib.hid (hg.keep hc0)
  clear hc0 hW0 hv hg
  refine (known3_any _ HG.out).mono ?_
  rintro e w1 ⟨rfl, hb⟩
  obtain ⟨p0, p1, p2, -, -, -⟩ := (KA.out.keep hb).o3
  go_wp2_with fail
  clear p0 p1 p2
  have hd1 : Below W0.heap.size W0 w1 := hb
  have KA_ := Lib.hid (KA.out.keep hd1)
  have VA_ := Lib.hid (VA.out.below hd1)
  have HG_ := Lib.hid (HG.out.keep hd1)
  clear KA VA HG
  have KA := KA_
  have VA := VA_
  have HG := HG_
  clear KA_ VA_ HG_
  have B1 : Hid (Below w.heap.size w w1) := Lib.hid (B0.out.trans (hd1.mono B0.out.size))
  clear B0
  have B0 := B1
  clear B1
  clear hb hd1 
  refine (vmay VA.out HIN.out HM.out).mono ?_
  rintro e w2 ⟨rfl, hb⟩
  obtain ⟨p0, p1, p2, -, -, -⟩ := (KA.out.keep hb).o3
  go_wp2_with fail
  clear p0 p1 p2
  have hd2 : Below w1.heap.size w1 w2 := hb
  have KA_ := Lib.hid (KA.out.keep hd2)
  have VA_ := Lib.hid (VA.out.below hd2)
  have HG_ := Lib.hid (HG.out.keep hd2)
  clear KA VA HG
  have KA := KA_
  have VA := VA_
  have HG := HG_
  clear KA_ VA_ HG_
  have B1 : Hid (Below w.heap.size w w2) := Lib.hid (B0.out.trans (hd2.mono B0.out.size))
  clear B0
  have B0 := B1
  clear B1
  clear hb hd2 
  obtain ⟨w2_, hw2_⟩ : ∃ W, W = w2 := ⟨_, rfl⟩
  have HS2 := Lib.hid (NetV.s VA.out)
  refine (copynet_any n vq aq tq vc ac tc _ HS2.out (by have := F1.out.v; omega) (by have := F1.out.a; omega) (by have := F1.out.t; omega) (fun t ht => by have := F1.out.c t ht; omega)).mono ?_
  rintro e w3 ⟨q0, c0, q1, c1, q2, c2, us, rfl, hO, hb⟩
  have HO3 := Lib.hid hO
  have HB3 := Lib.hid hb
  clear hO hb hw2_
  go_upto_region 16 with (fail)
  obtain ⟨W, hW⟩ := named ((w3.alloc (.cells #[.slice q0 n.v.length c0, .slice q1 n.a.length c1, .slice q2 n.t.length c2] 26)).alloc (.cells #[.slice none 0 0, .int .i64 0] 41))
  rw [← hW]
  have hbW : Below w3.heap.size w3 W := by rw [hW]; exact below_alloc2 _ _
  have HO := Lib.hid (HO3.out.below hbW)
  have KM : Hid (Blk W w3.heap.size #[.slice q0 n.v.length c0, .slice q1 n.a.length c1, .slice q2 n.t.length c2] 26) := by rw [hW]; exact Lib.hid ((Blk.new _ _ _ _ rfl).old _)
  have KW : Hid (Blk W (w3.heap.size + 1) #[.slice none 0 0, .int .i64 0] 41) := by rw [hW]; exact Lib.hid (Blk.new _ _ _ _ (by simp))
  have BB := Lib.hid (HB3.out.trans (hbW.mono HB3.out.size))
  have z23 := HB3.out.size
  have Z3 := Lib.hid z23
  clear hW hbW HO3 HB3 z23
  obtain ⟨g, rfl, hbg, hgl, xc, xf, hO1, hBl⟩ := (HO.out.vert hkv (j := kv * 3) (y := (1048577 + by_, n.v[kv].2)) (by omega) (flatT_at n.v kv hkv).1 (flatT_set0 n.v kv hkv (1048577 + by_))).is
  have HO1 := Lib.hid hO1
  have HBl := Lib.hid hBl
  have h3 := Z3.out
  obtain ⟨m0, m1, m2, -, -, -⟩ := KM.out.o3
  clear hO1 hBl
  go_wp2_with fail
  clear xc xf m0 m1 m2
  obtain ⟨W1, hW1⟩ := named (W.setCell ⟨g, kv * 3, none⟩ (.int .i64 (1048577 + by_)))
  have KM2 := Lib.hid (HBl.out _ _ _ KM.out (by decide) (by decide) (by decide))
  have KW2 := Lib.hid (HBl.out _ _ _ KW.out (by decide) (by decide) (by decide))
  have bb := Lib.hid (BB.out.setCell (p := ⟨g, kv * 3, none⟩) hbg (.int .i64 (1048577 + by_)))
  rw [← hW1] at HO1 KM2 KW2 bb ⊢
  clear KM KW HO BB HBl hW1
  have KM := KM2
  have KW := KW2
  have HO := HO1
  have BB := bb
  clear KM2 KW2 HO1 bb hgl hbg h3
  refine (at_post vertB (kv : Int) 1 _).mono ?_
  rintro e w4 ⟨wv, rfl, hW4, hb⟩
  obtain ⟨fq, fn, fc, rfl⟩ := hW4.shape
  have kw := KW.out.keep hb
  have km := KM.out.keep hb
  have ho := HO.out.below hb
  have hlw := kw.lt
  have hlz := KW.out.lt
  have h3 := Z3.out
  obtain ⟨g0, g1, f0, f1⟩ := kw.o2
  obtain ⟨WE, hWE⟩ := named ((w4.setCell ⟨w3.heap.size + 1, 0, none⟩ (.slice fq fn fc)).setCell ⟨w3.heap.size + 1, 1, none⟩ (.int .i64 1))
  have bb : Hid (Below w2.heap.size w2 WE) := by
    rw [hWE]
    refine Lib.hid ?_
    iterate 2 (refine Below.setCell ?_ (by simp only []; omega) _)
    exact BB.out.trans (hb.mono BB.out.size)
  have WG : Hid (WrongV WE (.agg #[.slice fq fn fc, .int .i64 1]) [(vertB, (kv : Int))] 1) := by rw [hWE]; exact Lib.hid (wrong_set kw (fun s => by simp) (fun s => by simp) hW4 (.slice fq fn fc) (.int .i64 1))
  have KW2 : Hid (Blk WE (w3.heap.size + 1) #[.slice fq fn fc, .int .i64 1] 41) := by rw [hWE]; exact Lib.hid (by simpa using (kw.set 0 (.slice fq fn fc)).set 1 (.int .i64 1))
  have KM2 := Lib.hid ((km.other (k := w3.heap.size + 1) 0 (.slice fq fn fc) (by omega)).other (k := w3.heap.size + 1) 1 (.int .i64 1) (by omega))
  have HO2 := Lib.hid ((ho.set kw (by decide) (by decide) (by decide) (by decide) 0 (.slice fq fn fc)).set (kw.set 0 _) (by decide) (by decide) (by decide) (by decide) 1 (.int .i64 1))
  rw [← hWE] at KM2 HO2
  have HWE := Lib.hid hWE
  clear hW4 hb km ho hWE hlw hlz h3 KW KM HO BB
  go_wp2_with fail
  rw [← HWE.out]
  clear g0 g1 f0 f1 kw HWE
  have KW := KW2
  have KM := KM2
  have HO := HO2
  have BB := bb
  clear KW2 KM2 HO2 bb
  have hbn := BB.out
  have KAe := Lib.hid (KA.out.keep hbn)
  have VAe := Lib.hid (VA.out.below hbn)
  have HGe := Lib.hid (HG.out.keep hbn)
  have Be := Lib.hid (B0.out.trans (hbn.mono B0.out.size))
  have VMe := Lib.hid (HO.out.net BT.out.v BT.out.a BT.out.t BT.out.c)
  clear hbn KA VA HG B0 BB HO
  have KA := KAe
  have VA := VAe
  have HG := HGe
  have B0 := Be
  have VM := VMe
  clear KAe VAe HGe Be VMe
  have hGS : Grows (fun w' => Below WE.heap.size WE w') := Grows.below WE
  refine' wp_growL _ (fun w' => Below WE.heap.size WE w') [[], [0], [1], [], [2, 3], [4], [5], [5, 6], [5, 7], [5, 8], [5, 9], [10], [11], [11, 12], [11], [11, 14], [11, 13, 15], [11, 16], [11, 17], [18]] (Fact.lit _ :: Fact.prop _ _ :: Fact.prop _ _ :: Fact.lit _ :: Fact.lit _ :: Fact.lit _ :: Fact.lit _ :: Fact.prop _ _ :: Fact.lit _ :: Fact.lit _ :: Fact.lit _ :: Fact.lit _ :: Fact.lit _ :: Fact.prop _ _ :: Fact.lit _ :: Fact.prop _ _ :: Fact.lit _ :: Fact.lit _ :: Fact.lit _ :: Fact.lit _ :: []) (by kernel_rfl) rfl (by kernel_rfl) (Below.refl _ _).drew ?seqfin0
  case' seqfin0 => skip
  (first | (refine' grow_skip rfl ?wt1 ?put1 ?next1; (case wt1 => rfl)) | (refine' grow_lit rfl ?wt1 ?run1 ?put1 ?next1; (case wt1 => rfl); (case run1 => (intro w' hS H; clear H; (obtain ⟨a0, a1, a2, -, -, -⟩ := (KA.out.keep hS).o3); (obtain ⟨m0, m1, m2, -, -, -⟩ := (KM.out.keep hS).o3); (obtain ⟨g0, g1, -, -⟩ := (KW.out.keep hS).o2); clear hS; go_simp; first | done | exact rfl)))); (case put1 => (simp only [Act.put, List.setIfInBounds_toArray, List.set_cons_zero, List.set_cons_succ]; first | done | exact rfl)); (case' next1 => skip)
  (refine' grow_callP (p := fun v w => NetV w v ⟨n.v.set kv (1048577 + by_, n.v[kv].2), n.a, n.t⟩) (hp := fun v w w' h hb => h.below hb) rfl Tryd.func14 (by kernel_rfl) rfl hGS rfl ?wt112 ?run112 ?put112 ?next112; (case wt112 => rfl); (case run112 => (intro w' hS H; exact vto (VM.out.below hS) BT.out.v BT.out.a BT.out.t BT.out.c)); (case put112 => (intro v; simp only [Act.put, List.setIfInBounds_toArray, List.set_cons_zero, List.set_cons_succ]; first | done | exact rfl)); (case' next112 => intro v1))
  (refine' grow_callP (p := fun v w => FaultV w v ([(vertB, (kv : Int))] : List (ByteArray × Int)) 1) (hp := fun v w w' h hb => h.below hb) rfl Tryd.func13 (by kernel_rfl) rfl hGS rfl ?wt113 ?run113 ?put113 ?next113; (case wt113 => rfl); (case run113 => (intro w' hS H; (have h1 : NetV w' v1 ⟨n.v.set kv (1048577 + by_, n.v[kv].2), n.a, n.t⟩ := H 1 (by decide)); exact vcheckE h1 BT.out.small BT.out.inn BT.out.chk)); (case put113 => (intro v; simp only [Act.put, List.setIfInBounds_toArray, List.set_cons_zero, List.set_cons_succ]; first | done | exact rfl)); (case' next113 => intro v2))
  (first | (refine' grow_skip rfl ?wt2 ?put2 ?next2; (case wt2 => rfl)) | (refine' grow_lit rfl ?wt2 ?run2 ?put2 ?next2; (case wt2 => rfl); (case run2 => (intro w' hS H; clear H; (obtain ⟨a0, a1, a2, -, -, -⟩ := (KA.out.keep hS).o3); (obtain ⟨m0, m1, m2, -, -, -⟩ := (KM.out.keep hS).o3); (obtain ⟨g0, g1, -, -⟩ := (KW.out.keep hS).o2); clear hS; go_simp; first | done | exact rfl)))); (case put2 => (simp only [Act.put, List.setIfInBounds_toArray, List.set_cons_zero, List.set_cons_succ]; first | done | exact rfl)); (case' next2 => skip)
  (refine' grow_call (u := .bool true) rfl Tryd.func12 (by kernel_rfl) rfl hGS rfl ?wt114 ?run114 ?put114 ?next114; (case wt114 => rfl); (case run114 => (intro w' hS H; exact tells_post _ _ ([(vertB, (kv : Int))] : List (ByteArray × Int)) 1 w' (HG.out.keep hS) (H 2 (by decide)) (WG.out.below hS) (Or.inr (by simp)))); (case put114 => (simp only [Act.put, List.setIfInBounds_toArray, List.set_cons_zero, List.set_cons_succ]; first | done | exact rfl)); (case' next114 => skip))
  (first | (refine' grow_skip rfl ?wt3 ?put3 ?next3; (case wt3 => rfl)) | (refine' grow_lit rfl ?wt3 ?run3 ?put3 ?next3; (case wt3 => rfl); (case run3 => (intro w' hS H; clear H; (obtain ⟨a0, a1, a2, -, -, -⟩ := (KA.out.keep hS).o3); (obtain ⟨m0, m1, m2, -, -, -⟩ := (KM.out.keep hS).o3); (obtain ⟨g0, g1, -, -⟩ := (KW.out.keep hS).o2); clear hS; go_simp; first | done | exact rfl)))); (case put3 => (simp only [Act.put, List.setIfInBounds_toArray, List.set_cons_zero, List.set_cons_succ]; first | done | exact rfl)); (case' next3 => skip)
  (first | (refine' grow_skip rfl ?wt4 ?put4 ?next4; (case wt4 => rfl)) | (refine' grow_lit rfl ?wt4 ?run4 ?put4 ?next4; (case wt4 => rfl); (case run4 => (intro w' hS H; clear H; (obtain ⟨a0, a1, a2, -, -, -⟩ := (KA.out.keep hS).o3); (obtain ⟨m0, m1, m2, -, -, -⟩ := (KM.out.keep hS).o3); (obtain ⟨g0, g1, -, -⟩ := (KW.out.keep hS).o2); clear hS; go_simp; first | done | exact rfl)))); (case put4 => (simp only [Act.put, List.setIfInBounds_toArray, List.set_cons_zero, List.set_cons_succ]; first | done | exact rfl)); (case' next4 => skip)
  (refine' grow_callP (p := fun v w => NetV w v n) (hp := fun v w w' h hb => h.below hb) rfl Tryd.func14 (by kernel_rfl) rfl hGS rfl ?wt115 ?run115 ?put115 ?next115; (case wt115 => rfl); (case run115 => (intro w' hS H; exact vtoF (VA.out.below hS) F1.out)); (case put115 => (intro v; simp only [Act.put, List.setIfInBounds_toArray, List.set_cons_zero, List.set_cons_succ]; first | done | exact rfl)); (case' next115 => intro v7))
  (refine' grow_call (u := .nilIface) rfl Tryd.func13 (by kernel_rfl) rfl hGS rfl ?wt116 ?run116 ?put116 ?next116; (case wt116 => rfl); (case run116 => (intro w' hS H; (have h4 : NetV w' v7 n := H 7 (by decide)); exact vcheck0 h4 F1.out.small HIN.out OK.out)); (case put116 => (simp only [Act.put, List.setIfInBounds_toArray, List.set_cons_zero, List.set_cons_succ]; first | done | exact rfl)); (case' next116 => skip))
  (first | (refine' grow_skip rfl ?wt5 ?put5 ?next5; (case wt5 => rfl)) | (refine' grow_lit rfl ?wt5 ?run5 ?put5 ?next5; (case wt5 => rfl); (case run5 => (intro w' hS H; clear H; (obtain ⟨a0, a1, a2, -, -, -⟩ := (KA.out.keep hS).o3); (obtain ⟨m0, m1, m2, -, -, -⟩ := (KM.out.keep hS).o3); (obtain ⟨g0, g1, -, -⟩ := (KW.out.keep hS).o2); clear hS; go_simp; first | done | exact rfl)))); (case put5 => (simp only [Act.put, List.setIfInBounds_toArray, List.set_cons_zero, List.set_cons_succ]; first | done | exact rfl)); (case' next5 => skip)
  (first | (refine' grow_skip rfl ?wt6 ?put6 ?next6; (case wt6 => rfl)) | (refine' grow_lit rfl ?wt6 ?run6 ?put6 ?next6; (case wt6 => rfl); (case run6 => (intro w' hS H; clear H; (obtain ⟨a0, a1, a2, -, -, -⟩ := (KA.out.keep hS).o3); (obtain ⟨m0, m1, m2, -, -, -⟩ := (KM.out.keep hS).o3); (obtain ⟨g0, g1, -, -⟩ := (KW.out.keep hS).o2); clear hS; go_simp; first | done | exact rfl)))); (case put6 => (simp only [Act.put, List.setIfInBounds_toArray, List.set_cons_zero, List.set_cons_succ]; first | done | exact rfl)); (case' next6 => skip)
  (first | (refine' grow_skip rfl ?wt7 ?put7 ?next7; (case wt7 => rfl)) | (refine' grow_lit rfl ?wt7 ?run7 ?put7 ?next7; (case wt7 => rfl); (case run7 => (intro w' hS H; clear H; (obtain ⟨a0, a1, a2, -, -, -⟩ := (KA.out.keep hS).o3); (obtain ⟨m0, m1, m2, -, -, -⟩ := (KM.out.keep hS).o3); (obtain ⟨g0, g1, -, -⟩ := (KW.out.keep hS).o2); clear hS; go_simp; first | done | exact rfl)))); (case put7 => (simp only [Act.put, List.setIfInBounds_toArray, List.set_cons_zero, List.set_cons_succ]; first | done | exact rfl)); (case' next7 => skip)
  (first | (refine' grow_skip rfl ?wt8 ?put8 ?next8; (case wt8 => rfl)) | (refine' grow_lit rfl ?wt8 ?run8 ?put8 ?next8; (case wt8 => rfl); (case run8 => (intro w' hS H; clear H; (obtain ⟨a0, a1, a2, -, -, -⟩ := (KA.out.keep hS).o3); (obtain ⟨m0, m1, m2, -, -, -⟩ := (KM.out.keep hS).o3); (obtain ⟨g0, g1, -, -⟩ := (KW.out.keep hS).o2); clear hS; go_simp; first | done | exact rfl)))); (case put8 => (simp only [Act.put, List.setIfInBounds_toArray, List.set_cons_zero, List.set_cons_succ]; first | done | exact rfl)); (case' next8 => skip)
  (refine' grow_callP (p := fun v w => NetV w v n) (hp := fun v w w' h hb => h.below hb) rfl Tryd.func14 (by kernel_rfl) rfl hGS rfl ?wt117 ?run117 ?put117 ?next117; (case wt117 => rfl); (case run117 => (intro w' hS H; exact vtoF (VA.out.below hS) F1.out)); (case put117 => (intro v; simp only [Act.put, List.setIfInBounds_toArray, List.set_cons_zero, List.set_cons_succ]; first | done | exact rfl)); (case' next117 => intro v13))
  (first | (refine' grow_skip rfl ?wt9 ?put9 ?next9; (case wt9 => rfl)) | (refine' grow_lit rfl ?wt9 ?run9 ?put9 ?next9; (case wt9 => rfl); (case run9 => (intro w' hS H; clear H; (obtain ⟨a0, a1, a2, -, -, -⟩ := (KA.out.keep hS).o3); (obtain ⟨m0, m1, m2, -, -, -⟩ := (KM.out.keep hS).o3); (obtain ⟨g0, g1, -, -⟩ := (KW.out.keep hS).o2); clear hS; go_simp; first | done | exact rfl)))); (case put9 => (simp only [Act.put, List.setIfInBounds_toArray, List.set_cons_zero, List.set_cons_succ]; first | done | exact rfl)); (case' next9 => skip)
  (refine' grow_callP (p := fun v w => NetV w v ⟨n.v.set kv (1048577 + by_, n.v[kv].2), n.a, n.t⟩) (hp := fun v w w' h hb => h.below hb) rfl Tryd.func14 (by kernel_rfl) rfl hGS rfl ?wt118 ?run118 ?put118 ?next118; (case wt118 => rfl); (case run118 => (intro w' hS H; exact vto (VM.out.below hS) BT.out.v BT.out.a BT.out.t BT.out.c)); (case put118 => (intro v; simp only [Act.put, List.setIfInBounds_toArray, List.set_cons_zero, List.set_cons_succ]; first | done | exact rfl)); (case' next118 => intro v15))
  (refine' grow_call (u := .bool false) rfl Tryd.func16 (by kernel_rfl) rfl hGS rfl ?wt119 ?run119 ?put119 ?next119; (case wt119 => rfl); (case run119 => (intro w' hS H; (have h6 : NetV w' v13 n := H 13 (by decide)); (have h7 : NetV w' v15 ⟨n.v.set kv (1048577 + by_, n.v[kv].2), n.a, n.t⟩ := H 15 (by decide)); exact vsame h6 h7 BT.out.ne)); (case put119 => (simp only [Act.put, List.setIfInBounds_toArray, List.set_cons_zero, List.set_cons_succ]; first | done | exact rfl)); (case' next119 => skip))
  (first | (refine' grow_skip rfl ?wt10 ?put10 ?next10; (case wt10 => rfl)) | (refine' grow_lit rfl ?wt10 ?run10 ?put10 ?next10; (case wt10 => rfl); (case run10 => (intro w' hS H; clear H; (obtain ⟨a0, a1, a2, -, -, -⟩ := (KA.out.keep hS).o3); (obtain ⟨m0, m1, m2, -, -, -⟩ := (KM.out.keep hS).o3); (obtain ⟨g0, g1, -, -⟩ := (KW.out.keep hS).o2); clear hS; go_simp; first | done | exact rfl)))); (case put10 => (simp only [Act.put, List.setIfInBounds_toArray, List.set_cons_zero, List.set_cons_succ]; first | done | exact rfl)); (case' next10 => skip)
  (first | (refine' grow_skip rfl ?wt11 ?put11 ?next11; (case wt11 => rfl)) | (refine' grow_lit rfl ?wt11 ?run11 ?put11 ?next11; (case wt11 => rfl); (case run11 => (intro w' hS H; clear H; (obtain ⟨a0, a1, a2, -, -, -⟩ := (KA.out.keep hS).o3); (obtain ⟨m0, m1, m2, -, -, -⟩ := (KM.out.keep hS).o3); (obtain ⟨g0, g1, -, -⟩ := (KW.out.keep hS).o2); clear hS; go_simp; first | done | exact rfl)))); (case put11 => (simp only [Act.put, List.setIfInBounds_toArray, List.set_cons_zero, List.set_cons_succ]; first | done | exact rfl)); (case' next11 => skip)
  (first | (refine' grow_skip rfl ?wt12 ?put12 ?next12; (case wt12 => rfl)) | (refine' grow_lit rfl ?wt12 ?run12 ?put12 ?next12; (case wt12 => rfl); (case run12 => (intro w' hS H; clear H; (obtain ⟨a0, a1, a2, -, -, -⟩ := (KA.out.keep hS).o3); (obtain ⟨m0, m1, m2, -, -, -⟩ := (KM.out.keep hS).o3); (obtain ⟨g0, g1, -, -⟩ := (KW.out.keep hS).o2); clear hS; go_simp; first | done | exact rfl)))); (case put12 => (simp only [Act.put, List.setIfInBounds_toArray, List.set_cons_zero, List.set_cons_succ]; first | done | exact rfl)); (case' next12 => skip)
  intro w9 hb _
  have HF := Lib.hid (B0.out.trans (hb.mono B0.out.size))
  clear hb hGS
  go_wp2_with fail
  go_ret
  exact ⟨rfl, HF.out⟩

set_option maxHeartbeats 8000000 in
set_option maxRecDepth 100000 in
theorem bent_1 (v : Value) (n : NetD) (wh at_ by_ : Int) (kv ka : Nat) (w : World) (hg : ErrT w) (hv : NetV w v n) (hin : InNet n) (hm : mayN n = true) (hkv : kv < n.v.length) (hka : ka < n.a.length) (hmv : at_.tmod (n.v.length : Int) = kv) (hma : at_.tmod (n.a.length : Int) = ka) (ha0 : 0 ≤ at_) (ha1 : at_ ≤ 65535) (hb0 : 0 ≤ by_) (hb1 : by_ ≤ 65535) (hwh : wh.tmod 6 = 1) :
    Calls Tryd.prog 8 #[v, .int .u8 wh, .int .u16 at_, .int .u16 by_] w fun e w' => e = .returned (.bool true) ∧ Below w.heap.size w w' := by
  obtain ⟨vq, aq, tq, vc, ac, tc, rfl, -⟩ := hv.shape
  have HM := Lib.hid hm
  obtain ⟨hf, hk, hgd⟩ := may_of hm
  have htl := hf.t
  have BT := Lib.hid (bentI1 hf hin hk hgd hkv (x := (n.t.length : Int) + by_) (by omega) (by omega))
  have F1 := Lib.hid hf
  have OK := Lib.hid hk
  have GD := Lib.hid hgd
  have HIN := Lib.hid hin
  have d1 : ((n.v.length : Int) == 0) = false := beq_eq_false_iff_ne.2 (by omega)
  have d2 : ((n.a.length : Int) == 0) = false := beq_eq_false_iff_ne.2 (by omega)
  have hz1 : ¬ (n.v.length : Int) = 0 := by omega
  have hz2 : ¬ (n.a.length : Int) = 0 := by omega
  clear hm hin hf hk hgd
  go_enter Tryd.func8, Tryd.ntmps8
  go_wp2_with fail
  obtain ⟨W0, hW0⟩ := named (w.alloc (.cells #[.slice vq n.v.length vc, .slice aq n.a.length ac, .slice tq n.t.length tc] 26))
  rw [← hW0]
  have hc0 : Below w.heap.size w W0 := by rw [hW0]; exact below_alloc1 _
  have B0 := Lib.hid hc0
  have KA : Hid (Blk W0 (w.heap.size) #[.slice vq n.v.length vc, .slice aq n.a.length ac, .slice tq n.t.length tc] 26) := by rw [hW0]; exact Lib.hid (Blk.new _ _ _ _ rfl)
  have VA := Lib.hid (hv.below hc0)
  have HG := Lib.hid (hg.keep hc0)
  clear hc0 hW0 hv hg
  refine (known3_any _ HG.out).mono ?_
  rintro e w1 ⟨rfl, hb⟩
  obtain ⟨p0, p1, p2, -, -, -⟩ := (KA.out.keep hb).o3
  go_wp2_with fail
  clear p0 p1 p2
  have hd1 : Below W0.heap.size W0 w1 := hb
  have KA_ := Lib.hid (KA.out.keep hd1)
  have VA_ := Lib.hid (VA.out.below hd1)
  have HG_ := Lib.hid (HG.out.keep hd1)
  clear KA VA HG
  have KA := KA_
  have VA := VA_
  have HG := HG_
  clear KA_ VA_ HG_
  have B1 : Hid (Below w.heap.size w w1) := Lib.hid (B0.out.trans (hd1.mono B0.out.size))
  clear B0
  have B0 := B1
  clear B1
  clear hb hd1 
  refine (vmay VA.out HIN.out HM.out).mono ?_
  rintro e w2 ⟨rfl, hb⟩
  obtain ⟨p0, p1, p2, -, -, -⟩ := (KA.out.keep hb).o3
  go_wp2_with fail
  clear p0 p1 p2
  have hd2 : Below w1.heap.size w1 w2 := hb
  have KA_ := Lib.hid (KA.out.keep hd2)
  have VA_ := Lib.hid (VA.out.below hd2)
  have HG_ := Lib.hid (HG.out.keep hd2)
  clear KA VA HG
  have KA := KA_
  have VA := VA_
  have HG := HG_
  clear KA_ VA_ HG_
  have B1 : Hid (Below w.heap.size w w2) := Lib.hid (B0.out.trans (hd2.mono B0.out.size))
  clear B0
  have B0 := B1
  clear B1
  clear hb hd2 
  obtain ⟨w2_, hw2_⟩ : ∃ W, W = w2 := ⟨_, rfl⟩
  have HS2 := Lib.hid (NetV.s VA.out)
  refine (copynet_any n vq aq tq vc ac tc _ HS2.out (by have := F1.out.v; omega) (by have := F1.out.a; omega) (by have := F1.out.t; omega) (fun t ht => by have := F1.out.c t ht; omega)).mono ?_
  rintro e w3 ⟨q0, c0, q1, c1, q2, c2, us, rfl, hO, hb⟩
  have HO3 := Lib.hid hO
  have HB3 := Lib.hid hb
  clear hO hb hw2_
  go_upto_region 19 with (fail)
  obtain ⟨W, hW⟩ := named ((w3.alloc (.cells #[.slice q0 n.v.length c0, .slice q1 n.a.length c1, .slice q2 n.t.length c2] 26)).alloc (.cells #[.slice none 0 0, .int .i64 0] 41))
  rw [← hW]
  have hbW : Below w3.heap.size w3 W := by rw [hW]; exact below_alloc2 _ _
  have HO := Lib.hid (HO3.out.below hbW)
  have KM : Hid (Blk W w3.heap.size #[.slice q0 n.v.length c0, .slice q1 n.a.length c1, .slice q2 n.t.length c2] 26) := by rw [hW]; exact Lib.hid ((Blk.new _ _ _ _ rfl).old _)
  have KW : Hid (Blk W (w3.heap.size + 1) #[.slice none 0 0, .int .i64 0] 41) := by rw [hW]; exact Lib.hid (Blk.new _ _ _ _ (by simp))
  have BB := Lib.hid (HB3.out.trans (hbW.mono HB3.out.size))
  have z23 := HB3.out.size
  have Z3 := Lib.hid z23
  clear hW hbW HO3 HB3 z23
  obtain ⟨g, rfl, hbg, hgl, xc, xf, hO1, hBl⟩ := (HO.out.vert hkv (j := kv * 3 + 2) (y := (n.v[kv].1, n.v[kv].2.1, (n.t.length : Int) + by_)) (by omega) (flatT_at n.v kv hkv).2.2 (flatT_set2 n.v kv hkv ((n.t.length : Int) + by_))).is
  have HO1 := Lib.hid hO1
  have HBl := Lib.hid hBl
  have h3 := Z3.out
  obtain ⟨m0, m1, m2, -, -, -⟩ := KM.out.o3
  clear hO1 hBl
  go_wp2_with fail
  clear xc xf m0 m1 m2
  obtain ⟨W1, hW1⟩ := named (W.setCell ⟨g, kv * 3 + 2, none⟩ (.int .i64 ((n.t.length : Int) + by_)))
  have KM2 := Lib.hid (HBl.out _ _ _ KM.out (by decide) (by decide) (by decide))
  have KW2 := Lib.hid (HBl.out _ _ _ KW.out (by decide) (by decide) (by decide))
  have bb := Lib.hid (BB.out.setCell (p := ⟨g, kv * 3 + 2, none⟩) hbg (.int .i64 ((n.t.length : Int) + by_)))
  rw [← hW1] at HO1 KM2 KW2 bb ⊢
  clear KM KW HO BB HBl hW1
  have KM := KM2
  have KW := KW2
  have HO := HO1
  have BB := bb
  clear KM2 KW2 HO1 bb hgl hbg h3
  refine (at_post vertB (kv : Int) 5 _).mono ?_
  rintro e w4 ⟨wv, rfl, hW4, hb⟩
  obtain ⟨fq, fn, fc, rfl⟩ := hW4.shape
  have kw := KW.out.keep hb
  have km := KM.out.keep hb
  have ho := HO.out.below hb
  have hlw := kw.lt
  have hlz := KW.out.lt
  have h3 := Z3.out
  obtain ⟨g0, g1, f0, f1⟩ := kw.o2
  obtain ⟨WE, hWE⟩ := named ((w4.setCell ⟨w3.heap.size + 1, 0, none⟩ (.slice fq fn fc)).setCell ⟨w3.heap.size + 1, 1, none⟩ (.int .i64 5))
  have bb : Hid (Below w2.heap.size w2 WE) := by
    rw [hWE]
    refine Lib.hid ?_
    iterate 2 (refine Below.setCell ?_ (by simp only []; omega) _)
    exact BB.out.trans (hb.mono BB.out.size)
  have WG : Hid (WrongV WE (.agg #[.slice fq fn fc, .int .i64 5]) [(vertB, (kv : Int))] 5) := by rw [hWE]; exact Lib.hid (wrong_set kw (fun s => by simp) (fun s => by simp) hW4 (.slice fq fn fc) (.int .i64 5))
  have KW2 : Hid (Blk WE (w3.heap.size + 1) #[.slice fq fn fc, .int .i64 5] 41) := by rw [hWE]; exact Lib.hid (by simpa using (kw.set 0 (.slice fq fn fc)).set 1 (.int .i64 5))
  have KM2 := Lib.hid ((km.other (k := w3.heap.size + 1) 0 (.slice fq fn fc) (by omega)).other (k := w3.heap.size + 1) 1 (.int .i64 5) (by omega))
  have HO2 := Lib.hid ((ho.set kw (by decide) (by decide) (by decide) (by decide) 0 (.slice fq fn fc)).set (kw.set 0 _) (by decide) (by decide) (by decide) (by decide) 1 (.int .i64 5))
  rw [← hWE] at KM2 HO2
  have HWE := Lib.hid hWE
  clear hW4 hb km ho hWE hlw hlz h3 KW KM HO BB
  go_wp2_with fail
  rw [← HWE.out]
  clear g0 g1 f0 f1 kw HWE
  have KW := KW2
  have KM := KM2
  have HO := HO2
  have BB := bb
  clear KW2 KM2 HO2 bb
  have hbn := BB.out
  have KAe := Lib.hid (KA.out.keep hbn)
  have VAe := Lib.hid (VA.out.below hbn)
  have HGe := Lib.hid (HG.out.keep hbn)
  have Be := Lib.hid (B0.out.trans (hbn.mono B0.out.size))
  have VMe := Lib.hid (HO.out.net BT.out.v BT.out.a BT.out.t BT.out.c)
  clear hbn KA VA HG B0 BB HO
  have KA := KAe
  have VA := VAe
  have HG := HGe
  have B0 := Be
  have VM := VMe
  clear KAe VAe HGe Be VMe
  have hGS : Grows (fun w' => Below WE.heap.size WE w') := Grows.below WE
  refine' wp_growL _ (fun w' => Below WE.heap.size WE w') [[], [0], [1], [], [2, 3], [4], [5], [5, 6], [5, 7], [5, 8], [5, 9], [10], [11], [11, 12], [11], [11, 14], [11, 13, 15], [11, 16], [11, 17], [18]] (Fact.lit _ :: Fact.prop _ _ :: Fact.prop _ _ :: Fact.lit _ :: Fact.lit _ :: Fact.lit _ :: Fact.lit _ :: Fact.prop _ _ :: Fact.lit _ :: Fact.lit _ :: Fact.lit _ :: Fact.lit _ :: Fact.lit _ :: Fact.prop _ _ :: Fact.lit _ :: Fact.prop _ _ :: Fact.lit _ :: Fact.lit _ :: Fact.lit _ :: Fact.lit _ :: []) (by kernel_rfl) rfl (by kernel_rfl) (Below.refl _ _).drew ?seqfin1
  case' seqfin1 => skip
  (first | (refine' grow_skip rfl ?wt13 ?put13 ?next13; (case wt13 => rfl)) | (refine' grow_lit rfl ?wt13 ?run13 ?put13 ?next13; (case wt13 => rfl); (case run13 => (intro w' hS H; clear H; (obtain ⟨a0, a1, a2, -, -, -⟩ := (KA.out.keep hS).o3); (obtain ⟨m0, m1, m2, -, -, -⟩ := (KM.out.keep hS).o3); (obtain ⟨g0, g1, -, -⟩ := (KW.out.keep hS).o2); clear hS; go_simp; first | done | exact rfl)))); (case put13 => (simp only [Act.put, List.setIfInBounds_toArray, List.set_cons_zero, List.set_cons_succ]; first | done | exact rfl)); (case' next13 => skip)
  (refine' grow_callP (p := fun v w => NetV w v ⟨n.v.set kv (n.v[kv].1, n.v[kv].2.1, (n.t.length : Int) + by_), n.a, n.t⟩) (hp := fun v w w' h hb => h.below hb) rfl Tryd.func14 (by kernel_rfl) rfl hGS rfl ?wt120 ?run120 ?put120 ?next120; (case wt120 => rfl); (case run120 => (intro w' hS H; exact vto (VM.out.below hS) BT.out.v BT.out.a BT.out.t BT.out.c)); (case put120 => (intro v; simp only [Act.put, List.setIfInBounds_toArray, List.set_cons_zero, List.set_cons_succ]; first | done | exact rfl)); (case' next120 => intro v1))
  (refine' grow_callP (p := fun v w => FaultV w v ([(vertB, (kv : Int))] : List (ByteArray × Int)) 5) (hp := fun v w w' h hb => h.below hb) rfl Tryd.func13 (by kernel_rfl) rfl hGS rfl ?wt121 ?run121 ?put121 ?next121; (case wt121 => rfl); (case run121 => (intro w' hS H; (have h1 : NetV w' v1 ⟨n.v.set kv (n.v[kv].1, n.v[kv].2.1, (n.t.length : Int) + by_), n.a, n.t⟩ := H 1 (by decide)); exact vcheckE h1 BT.out.small BT.out.inn BT.out.chk)); (case put121 => (intro v; simp only [Act.put, List.setIfInBounds_toArray, List.set_cons_zero, List.set_cons_succ]; first | done | exact rfl)); (case' next121 => intro v2))
  (first | (refine' grow_skip rfl ?wt14 ?put14 ?next14; (case wt14 => rfl)) | (refine' grow_lit rfl ?wt14 ?run14 ?put14 ?next14; (case wt14 => rfl); (case run14 => (intro w' hS H; clear H; (obtain ⟨a0, a1, a2, -, -, -⟩ := (KA.out.keep hS).o3); (obtain ⟨m0, m1, m2, -, -, -⟩ := (KM.out.keep hS).o3); (obtain ⟨g0, g1, -, -⟩ := (KW.out.keep hS).o2); clear hS; go_simp; first | done | exact rfl)))); (case put14 => (simp only [Act.put, List.setIfInBounds_toArray, List.set_cons_zero, List.set_cons_succ]; first | done | exact rfl)); (case' next14 => skip)
  (refine' grow_call (u := .bool true) rfl Tryd.func12 (by kernel_rfl) rfl hGS rfl ?wt122 ?run122 ?put122 ?next122; (case wt122 => rfl); (case run122 => (intro w' hS H; exact tells_post _ _ ([(vertB, (kv : Int))] : List (ByteArray × Int)) 5 w' (HG.out.keep hS) (H 2 (by decide)) (WG.out.below hS) (Or.inr (by simp)))); (case put122 => (simp only [Act.put, List.setIfInBounds_toArray, List.set_cons_zero, List.set_cons_succ]; first | done | exact rfl)); (case' next122 => skip))
  (first | (refine' grow_skip rfl ?wt15 ?put15 ?next15; (case wt15 => rfl)) | (refine' grow_lit rfl ?wt15 ?run15 ?put15 ?next15; (case wt15 => rfl); (case run15 => (intro w' hS H; clear H; (obtain ⟨a0, a1, a2, -, -, -⟩ := (KA.out.keep hS).o3); (obtain ⟨m0, m1, m2, -, -, -⟩ := (KM.out.keep hS).o3); (obtain ⟨g0, g1, -, -⟩ := (KW.out.keep hS).o2); clear hS; go_simp; first | done | exact rfl)))); (case put15 => (simp only [Act.put, List.setIfInBounds_toArray, List.set_cons_zero, List.set_cons_succ]; first | done | exact rfl)); (case' next15 => skip)
  (first | (refine' grow_skip rfl ?wt16 ?put16 ?next16; (case wt16 => rfl)) | (refine' grow_lit rfl ?wt16 ?run16 ?put16 ?next16; (case wt16 => rfl); (case run16 => (intro w' hS H; clear H; (obtain ⟨a0, a1, a2, -, -, -⟩ := (KA.out.keep hS).o3); (obtain ⟨m0, m1, m2, -, -, -⟩ := (KM.out.keep hS).o3); (obtain ⟨g0, g1, -, -⟩ := (KW.out.keep hS).o2); clear hS; go_simp; first | done | exact rfl)))); (case put16 => (simp only [Act.put, List.setIfInBounds_toArray, List.set_cons_zero, List.set_cons_succ]; first | done | exact rfl)); (case' next16 => skip)
  (refine' grow_callP (p := fun v w => NetV w v n) (hp := fun v w w' h hb => h.below hb) rfl Tryd.func14 (by kernel_rfl) rfl hGS rfl ?wt123 ?run123 ?put123 ?next123; (case wt123 => rfl); (case run123 => (intro w' hS H; exact vtoF (VA.out.below hS) F1.out)); (case put123 => (intro v; simp only [Act.put, List.setIfInBounds_toArray, List.set_cons_zero, List.set_cons_succ]; first | done | exact rfl)); (case' next123 => intro v7))
  (refine' grow_call (u := .nilIface) rfl Tryd.func13 (by kernel_rfl) rfl hGS rfl ?wt124 ?run124 ?put124 ?next124; (case wt124 => rfl); (case run124 => (intro w' hS H; (have h4 : NetV w' v7 n := H 7 (by decide)); exact vcheck0 h4 F1.out.small HIN.out OK.out)); (case put124 => (simp only [Act.put, List.setIfInBounds_toArray, List.set_cons_zero, List.set_cons_succ]; first | done | exact rfl)); (case' next124 => skip))
  (first | (refine' grow_skip rfl ?wt17 ?put17 ?next17; (case wt17 => rfl)) | (refine' grow_lit rfl ?wt17 ?run17 ?put17 ?next17; (case wt17 => rfl); (case run17 => (intro w' hS H; clear H; (obtain ⟨a0, a1, a2, -, -, -⟩ := (KA.out.keep hS).o3); (obtain ⟨m0, m1, m2, -, -, -⟩ := (KM.out.keep hS).o3); (obtain ⟨g0, g1, -, -⟩ := (KW.out.keep hS).o2); clear hS; go_simp; first | done | exact rfl)))); (case put17 => (simp only [Act.put, List.setIfInBounds_toArray, List.set_cons_zero, List.set_cons_succ]; first | done | exact rfl)); (case' next17 => skip)
  (first | (refine' grow_skip rfl ?wt18 ?put18 ?next18; (case wt18 => rfl)) | (refine' grow_lit rfl ?wt18 ?run18 ?put18 ?next18; (case wt18 => rfl); (case run18 => (intro w' hS H; clear H; (obtain ⟨a0, a1, a2, -, -, -⟩ := (KA.out.keep hS).o3); (obtain ⟨m0, m1, m2, -, -, -⟩ := (KM.out.keep hS).o3); (obtain ⟨g0, g1, -, -⟩ := (KW.out.keep hS).o2); clear hS; go_simp; first | done | exact rfl)))); (case put18 => (simp only [Act.put, List.setIfInBounds_toArray, List.set_cons_zero, List.set_cons_succ]; first | done | exact rfl)); (case' next18 => skip)
  (first | (refine' grow_skip rfl ?wt19 ?put19 ?next19; (case wt19 => rfl)) | (refine' grow_lit rfl ?wt19 ?run19 ?put19 ?next19; (case wt19 => rfl); (case run19 => (intro w' hS H; clear H; (obtain ⟨a0, a1, a2, -, -, -⟩ := (KA.out.keep hS).o3); (obtain ⟨m0, m1, m2, -, -, -⟩ := (KM.out.keep hS).o3); (obtain ⟨g0, g1, -, -⟩ := (KW.out.keep hS).o2); clear hS; go_simp; first | done | exact rfl)))); (case put19 => (simp only [Act.put, List.setIfInBounds_toArray, List.set_cons_zero, List.set_cons_succ]; first | done | exact rfl)); (case' next19 => skip)
  (first | (refine' grow_skip rfl ?wt20 ?put20 ?next20; (case wt20 => rfl)) | (refine' grow_lit rfl ?wt20 ?run20 ?put20 ?next20; (case wt20 => rfl); (case run20 => (intro w' hS H; clear H; (obtain ⟨a0, a1, a2, -, -, -⟩ := (KA.out.keep hS).o3); (obtain ⟨m0, m1, m2, -, -, -⟩ := (KM.out.keep hS).o3); (obtain ⟨g0, g1, -, -⟩ := (KW.out.keep hS).o2); clear hS; go_simp; first | done | exact rfl)))); (case put20 => (simp only [Act.put, List.setIfInBounds_toArray, List.set_cons_zero, List.set_cons_succ]; first | done | exact rfl)); (case' next20 => skip)
  (refine' grow_callP (p := fun v w => NetV w v n) (hp := fun v w w' h hb => h.below hb) rfl Tryd.func14 (by kernel_rfl) rfl hGS rfl ?wt125 ?run125 ?put125 ?next125; (case wt125 => rfl); (case run125 => (intro w' hS H; exact vtoF (VA.out.below hS) F1.out)); (case put125 => (intro v; simp only [Act.put, List.setIfInBounds_toArray, List.set_cons_zero, List.set_cons_succ]; first | done | exact rfl)); (case' next125 => intro v13))
  (first | (refine' grow_skip rfl ?wt21 ?put21 ?next21; (case wt21 => rfl)) | (refine' grow_lit rfl ?wt21 ?run21 ?put21 ?next21; (case wt21 => rfl); (case run21 => (intro w' hS H; clear H; (obtain ⟨a0, a1, a2, -, -, -⟩ := (KA.out.keep hS).o3); (obtain ⟨m0, m1, m2, -, -, -⟩ := (KM.out.keep hS).o3); (obtain ⟨g0, g1, -, -⟩ := (KW.out.keep hS).o2); clear hS; go_simp; first | done | exact rfl)))); (case put21 => (simp only [Act.put, List.setIfInBounds_toArray, List.set_cons_zero, List.set_cons_succ]; first | done | exact rfl)); (case' next21 => skip)
  (refine' grow_callP (p := fun v w => NetV w v ⟨n.v.set kv (n.v[kv].1, n.v[kv].2.1, (n.t.length : Int) + by_), n.a, n.t⟩) (hp := fun v w w' h hb => h.below hb) rfl Tryd.func14 (by kernel_rfl) rfl hGS rfl ?wt126 ?run126 ?put126 ?next126; (case wt126 => rfl); (case run126 => (intro w' hS H; exact vto (VM.out.below hS) BT.out.v BT.out.a BT.out.t BT.out.c)); (case put126 => (intro v; simp only [Act.put, List.setIfInBounds_toArray, List.set_cons_zero, List.set_cons_succ]; first | done | exact rfl)); (case' next126 => intro v15))
  (refine' grow_call (u := .bool false) rfl Tryd.func16 (by kernel_rfl) rfl hGS rfl ?wt127 ?run127 ?put127 ?next127; (case wt127 => rfl); (case run127 => (intro w' hS H; (have h6 : NetV w' v13 n := H 13 (by decide)); (have h7 : NetV w' v15 ⟨n.v.set kv (n.v[kv].1, n.v[kv].2.1, (n.t.length : Int) + by_), n.a, n.t⟩ := H 15 (by decide)); exact vsame h6 h7 BT.out.ne)); (case put127 => (simp only [Act.put, List.setIfInBounds_toArray, List.set_cons_zero, List.set_cons_succ]; first | done | exact rfl)); (case' next127 => skip))
  (first | (refine' grow_skip rfl ?wt22 ?put22 ?next22; (case wt22 => rfl)) | (refine' grow_lit rfl ?wt22 ?run22 ?put22 ?next22; (case wt22 => rfl); (case run22 => (intro w' hS H; clear H; (obtain ⟨a0, a1, a2, -, -, -⟩ := (KA.out.keep hS).o3); (obtain ⟨m0, m1, m2, -, -, -⟩ := (KM.out.keep hS).o3); (obtain ⟨g0, g1, -, -⟩ := (KW.out.keep hS).o2); clear hS; go_simp; first | done | exact rfl)))); (case put22 => (simp only [Act.put, List.setIfInBounds_toArray, List.set_cons_zero, List.set_cons_succ]; first | done | exact rfl)); (case' next22 => skip)
  (first | (refine' grow_skip rfl ?wt23 ?put23 ?next23; (case wt23 => rfl)) | (refine' grow_lit rfl ?wt23 ?run23 ?put23 ?next23; (case wt23 => rfl); (case run23 => (intro w' hS H; clear H; (obtain ⟨a0, a1, a2, -, -, -⟩ := (KA.out.keep hS).o3); (obtain ⟨m0, m1, m2, -, -, -⟩ := (KM.out.keep hS).o3); (obtain ⟨g0, g1, -, -⟩ := (KW.out.keep hS).o2); clear hS; go_simp; first | done | exact rfl)))); (case put23 => (simp only [Act.put, List.setIfInBounds_toArray, List.set_cons_zero, List.set_cons_succ]; first | done | exact rfl)); (case' next23 => skip)
  (first | (refine' grow_skip rfl ?wt24 ?put24 ?next24; (case wt24 => rfl)) | (refine' grow_lit rfl ?wt24 ?run24 ?put24 ?next24; (case wt24 => rfl); (case run24 => (intro w' hS H; clear H; (obtain ⟨a0, a1, a2, -, -, -⟩ := (KA.out.keep hS).o3); (obtain ⟨m0, m1, m2, -, -, -⟩ := (KM.out.keep hS).o3); (obtain ⟨g0, g1, -, -⟩ := (KW.out.keep hS).o2); clear hS; go_simp; first | done | exact rfl)))); (case put24 => (simp only [Act.put, List.setIfInBounds_toArray, List.set_cons_zero, List.set_cons_succ]; first | done | exact rfl)); (case' next24 => skip)
  intro w9 hb _
  have HF := Lib.hid (B0.out.trans (hb.mono B0.out.size))
  clear hb hGS
  go_wp2_with fail
  go_ret
  exact ⟨rfl, HF.out⟩

set_option maxHeartbeats 8000000 in
set_option maxRecDepth 100000 in
theorem bent_2 (v : Value) (n : NetD) (wh at_ by_ : Int) (kv ka : Nat) (w : World) (hg : ErrT w) (hv : NetV w v n) (hin : InNet n) (hm : mayN n = true) (hkv : kv < n.v.length) (hka : ka < n.a.length) (hmv : at_.tmod (n.v.length : Int) = kv) (hma : at_.tmod (n.a.length : Int) = ka) (ha0 : 0 ≤ at_) (ha1 : at_ ≤ 65535) (hb0 : 0 ≤ by_) (hb1 : by_ ≤ 65535) (hwh : wh.tmod 6 = 2) :
    Calls Tryd.prog 8 #[v, .int .u8 wh, .int .u16 at_, .int .u16 by_] w fun e w' => e = .returned (.bool true) ∧ Below w.heap.size w w' := by
  obtain ⟨vq, aq, tq, vc, ac, tc, rfl, -⟩ := hv.shape
  have HM := Lib.hid hm
  obtain ⟨hf, hk, hgd⟩ := may_of hm
  have BT := Lib.hid (bentI2 hf hin hk hgd hka (x := -1 - by_) (by omega) (by omega))
  have F1 := Lib.hid hf
  have OK := Lib.hid hk
  have GD := Lib.hid hgd
  have HIN := Lib.hid hin
  have d1 : ((n.v.length : Int) == 0) = false := beq_eq_false_iff_ne.2 (by omega)
  have d2 : ((n.a.length : Int) == 0) = false := beq_eq_false_iff_ne.2 (by omega)
  have hz1 : ¬ (n.v.length : Int) = 0 := by omega
  have hz2 : ¬ (n.a.length : Int) = 0 := by omega
  clear hm hin hf hk hgd
  go_enter Tryd.func8, Tryd.ntmps8
  go_wp2_with fail
  obtain ⟨W0, hW0⟩ := named (w.alloc (.cells #[.slice vq n.v.length vc, .slice aq n.a.length ac, .slice tq n.t.length tc] 26))
  rw [← hW0]
  have hc0 : Below w.heap.size w W0 := by rw [hW0]; exact below_alloc1 _
  have B0 := Lib.hid hc0
  have KA : Hid (Blk W0 (w.heap.size) #[.slice vq n.v.length vc, .slice aq n.a.length ac, .slice tq n.t.length tc] 26) := by rw [hW0]; exact Lib.hid (Blk.new _ _ _ _ rfl)
  have VA := Lib.hid (hv.below hc0)
  have HG := Lib.hid (hg.keep hc0)
  clear hc0 hW0 hv hg
  refine (known3_any _ HG.out).mono ?_
  rintro e w1 ⟨rfl, hb⟩
  obtain ⟨p0, p1, p2, -, -, -⟩ := (KA.out.keep hb).o3
  go_wp2_with fail
  clear p0 p1 p2
  have hd1 : Below W0.heap.size W0 w1 := hb
  have KA_ := Lib.hid (KA.out.keep hd1)
  have VA_ := Lib.hid (VA.out.below hd1)
  have HG_ := Lib.hid (HG.out.keep hd1)
  clear KA VA HG
  have KA := KA_
  have VA := VA_
  have HG := HG_
  clear KA_ VA_ HG_
  have B1 : Hid (Below w.heap.size w w1) := Lib.hid (B0.out.trans (hd1.mono B0.out.size))
  clear B0
  have B0 := B1
  clear B1
  clear hb hd1 
  refine (vmay VA.out HIN.out HM.out).mono ?_
  rintro e w2 ⟨rfl, hb⟩
  obtain ⟨p0, p1, p2, -, -, -⟩ := (KA.out.keep hb).o3
  go_wp2_with fail
  clear p0 p1 p2
  have hd2 : Below w1.heap.size w1 w2 := hb
  have KA_ := Lib.hid (KA.out.keep hd2)
  have VA_ := Lib.hid (VA.out.below hd2)
  have HG_ := Lib.hid (HG.out.keep hd2)
  clear KA VA HG
  have KA := KA_
  have VA := VA_
  have HG := HG_
  clear KA_ VA_ HG_
  have B1 : Hid (Below w.heap.size w w2) := Lib.hid (B0.out.trans (hd2.mono B0.out.size))
  clear B0
  have B0 := B1
  clear B1
  clear hb hd2 
  obtain ⟨w2_, hw2_⟩ : ∃ W, W = w2 := ⟨_, rfl⟩
  have HS2 := Lib.hid (NetV.s VA.out)
  refine (copynet_any n vq aq tq vc ac tc _ HS2.out (by have := F1.out.v; omega) (by have := F1.out.a; omega) (by have := F1.out.t; omega) (fun t ht => by have := F1.out.c t ht; omega)).mono ?_
  rintro e w3 ⟨q0, c0, q1, c1, q2, c2, us, rfl, hO, hb⟩
  have HO3 := Lib.hid hO
  have HB3 := Lib.hid hb
  clear hO hb hw2_
  go_upto_region 22 with (fail)
  obtain ⟨W, hW⟩ := named ((w3.alloc (.cells #[.slice q0 n.v.length c0, .slice q1 n.a.length c1, .slice q2 n.t.length c2] 26)).alloc (.cells #[.slice none 0 0, .int .i64 0] 41))
  rw [← hW]
  have hbW : Below w3.heap.size w3 W := by rw [hW]; exact below_alloc2 _ _
  have HO := Lib.hid (HO3.out.below hbW)
  have KM : Hid (Blk W w3.heap.size #[.slice q0 n.v.length c0, .slice q1 n.a.length c1, .slice q2 n.t.length c2] 26) := by rw [hW]; exact Lib.hid ((Blk.new _ _ _ _ rfl).old _)
  have KW : Hid (Blk W (w3.heap.size + 1) #[.slice none 0 0, .int .i64 0] 41) := by rw [hW]; exact Lib.hid (Blk.new _ _ _ _ (by simp))
  have BB := Lib.hid (HB3.out.trans (hbW.mono HB3.out.size))
  have z23 := HB3.out.size
  have Z3 := Lib.hid z23
  clear hW hbW HO3 HB3 z23
  obtain ⟨g, rfl, hbg, hgl, xc, xf, hO1, hBl⟩ := (HO.out.arc hka (j := ka * 3 + 1) (y := (n.a[ka].1, -1 - by_, n.a[ka].2.2)) (by omega) (flatT_at n.a ka hka).2.1 (flatT_set1 n.a ka hka (-1 - by_))).is
  have HO1 := Lib.hid hO1
  have HBl := Lib.hid hBl
  have h3 := Z3.out
  obtain ⟨m0, m1, m2, -, -, -⟩ := KM.out.o3
  clear hO1 hBl
  go_wp2_with fail
  clear xc xf m0 m1 m2
  obtain ⟨W1, hW1⟩ := named (W.setCell ⟨g, ka * 3 + 1, none⟩ (.int .i64 (-1 - by_)))
  have KM2 := Lib.hid (HBl.out _ _ _ KM.out (by decide) (by decide) (by decide))
  have KW2 := Lib.hid (HBl.out _ _ _ KW.out (by decide) (by decide) (by decide))
  have bb := Lib.hid (BB.out.setCell (p := ⟨g, ka * 3 + 1, none⟩) hbg (.int .i64 (-1 - by_)))
  rw [← hW1] at HO1 KM2 KW2 bb ⊢
  clear KM KW HO BB HBl hW1
  have KM := KM2
  have KW := KW2
  have HO := HO1
  have BB := bb
  clear KM2 KW2 HO1 bb hgl hbg h3
  refine (at_post arcB (ka : Int) 5 _).mono ?_
  rintro e w4 ⟨wv, rfl, hW4, hb⟩
  obtain ⟨fq, fn, fc, rfl⟩ := hW4.shape
  have kw := KW.out.keep hb
  have km := KM.out.keep hb
  have ho := HO.out.below hb
  have hlw := kw.lt
  have hlz := KW.out.lt
  have h3 := Z3.out
  obtain ⟨g0, g1, f0, f1⟩ := kw.o2
  obtain ⟨WE, hWE⟩ := named ((w4.setCell ⟨w3.heap.size + 1, 0, none⟩ (.slice fq fn fc)).setCell ⟨w3.heap.size + 1, 1, none⟩ (.int .i64 5))
  have bb : Hid (Below w2.heap.size w2 WE) := by
    rw [hWE]
    refine Lib.hid ?_
    iterate 2 (refine Below.setCell ?_ (by simp only []; omega) _)
    exact BB.out.trans (hb.mono BB.out.size)
  have WG : Hid (WrongV WE (.agg #[.slice fq fn fc, .int .i64 5]) [(arcB, (ka : Int))] 5) := by rw [hWE]; exact Lib.hid (wrong_set kw (fun s => by simp) (fun s => by simp) hW4 (.slice fq fn fc) (.int .i64 5))
  have KW2 : Hid (Blk WE (w3.heap.size + 1) #[.slice fq fn fc, .int .i64 5] 41) := by rw [hWE]; exact Lib.hid (by simpa using (kw.set 0 (.slice fq fn fc)).set 1 (.int .i64 5))
  have KM2 := Lib.hid ((km.other (k := w3.heap.size + 1) 0 (.slice fq fn fc) (by omega)).other (k := w3.heap.size + 1) 1 (.int .i64 5) (by omega))
  have HO2 := Lib.hid ((ho.set kw (by decide) (by decide) (by decide) (by decide) 0 (.slice fq fn fc)).set (kw.set 0 _) (by decide) (by decide) (by decide) (by decide) 1 (.int .i64 5))
  rw [← hWE] at KM2 HO2
  have HWE := Lib.hid hWE
  clear hW4 hb km ho hWE hlw hlz h3 KW KM HO BB
  go_wp2_with fail
  rw [← HWE.out]
  clear g0 g1 f0 f1 kw HWE
  have KW := KW2
  have KM := KM2
  have HO := HO2
  have BB := bb
  clear KW2 KM2 HO2 bb
  have hbn := BB.out
  have KAe := Lib.hid (KA.out.keep hbn)
  have VAe := Lib.hid (VA.out.below hbn)
  have HGe := Lib.hid (HG.out.keep hbn)
  have Be := Lib.hid (B0.out.trans (hbn.mono B0.out.size))
  have VMe := Lib.hid (HO.out.net BT.out.v BT.out.a BT.out.t BT.out.c)
  clear hbn KA VA HG B0 BB HO
  have KA := KAe
  have VA := VAe
  have HG := HGe
  have B0 := Be
  have VM := VMe
  clear KAe VAe HGe Be VMe
  have hGS : Grows (fun w' => Below WE.heap.size WE w') := Grows.below WE
  refine' wp_growL _ (fun w' => Below WE.heap.size WE w') [[], [0], [1], [], [2, 3], [4], [5], [5, 6], [5, 7], [5, 8], [5, 9], [10], [11], [11, 12], [11], [11, 14], [11, 13, 15], [11, 16], [11, 17], [18]] (Fact.lit _ :: Fact.prop _ _ :: Fact.prop _ _ :: Fact.lit _ :: Fact.lit _ :: Fact.lit _ :: Fact.lit _ :: Fact.prop _ _ :: Fact.lit _ :: Fact.lit _ :: Fact.lit _ :: Fact.lit _ :: Fact.lit _ :: Fact.prop _ _ :: Fact.lit _ :: Fact.prop _ _ :: Fact.lit _ :: Fact.lit _ :: Fact.lit _ :: Fact.lit _ :: []) (by kernel_rfl) rfl (by kernel_rfl) (Below.refl _ _).drew ?seqfin2
  case' seqfin2 => skip
  (first | (refine' grow_skip rfl ?wt25 ?put25 ?next25; (case wt25 => rfl)) | (refine' grow_lit rfl ?wt25 ?run25 ?put25 ?next25; (case wt25 => rfl); (case run25 => (intro w' hS H; clear H; (obtain ⟨a0, a1, a2, -, -, -⟩ := (KA.out.keep hS).o3); (obtain ⟨m0, m1, m2, -, -, -⟩ := (KM.out.keep hS).o3); (obtain ⟨g0, g1, -, -⟩ := (KW.out.keep hS).o2); clear hS; go_simp; first | done | exact rfl)))); (case put25 => (simp only [Act.put, List.setIfInBounds_toArray, List.set_cons_zero, List.set_cons_succ]; first | done | exact rfl)); (case' next25 => skip)
  (refine' grow_callP (p := fun v w => NetV w v ⟨n.v, n.a.set ka (n.a[ka].1, -1 - by_, n.a[ka].2.2), n.t⟩) (hp := fun v w w' h hb => h.below hb) rfl Tryd.func14 (by kernel_rfl) rfl hGS rfl ?wt128 ?run128 ?put128 ?next128; (case wt128 => rfl); (case run128 => (intro w' hS H; exact vto (VM.out.below hS) BT.out.v BT.out.a BT.out.t BT.out.c)); (case put128 => (intro v; simp only [Act.put, List.setIfInBounds_toArray, List.set_cons_zero, List.set_cons_succ]; first | done | exact rfl)); (case' next128 => intro v1))
  (refine' grow_callP (p := fun v w => FaultV w v ([(arcB, (ka : Int))] : List (ByteArray × Int)) 5) (hp := fun v w w' h hb => h.below hb) rfl Tryd.func13 (by kernel_rfl) rfl hGS rfl ?wt129 ?run129 ?put129 ?next129; (case wt129 => rfl); (case run129 => (intro w' hS H; (have h1 : NetV w' v1 ⟨n.v, n.a.set ka (n.a[ka].1, -1 - by_, n.a[ka].2.2), n.t⟩ := H 1 (by decide)); exact vcheckE h1 BT.out.small BT.out.inn BT.out.chk)); (case put129 => (intro v; simp only [Act.put, List.setIfInBounds_toArray, List.set_cons_zero, List.set_cons_succ]; first | done | exact rfl)); (case' next129 => intro v2))
  (first | (refine' grow_skip rfl ?wt26 ?put26 ?next26; (case wt26 => rfl)) | (refine' grow_lit rfl ?wt26 ?run26 ?put26 ?next26; (case wt26 => rfl); (case run26 => (intro w' hS H; clear H; (obtain ⟨a0, a1, a2, -, -, -⟩ := (KA.out.keep hS).o3); (obtain ⟨m0, m1, m2, -, -, -⟩ := (KM.out.keep hS).o3); (obtain ⟨g0, g1, -, -⟩ := (KW.out.keep hS).o2); clear hS; go_simp; first | done | exact rfl)))); (case put26 => (simp only [Act.put, List.setIfInBounds_toArray, List.set_cons_zero, List.set_cons_succ]; first | done | exact rfl)); (case' next26 => skip)
  (refine' grow_call (u := .bool true) rfl Tryd.func12 (by kernel_rfl) rfl hGS rfl ?wt130 ?run130 ?put130 ?next130; (case wt130 => rfl); (case run130 => (intro w' hS H; exact tells_post _ _ ([(arcB, (ka : Int))] : List (ByteArray × Int)) 5 w' (HG.out.keep hS) (H 2 (by decide)) (WG.out.below hS) (Or.inr (by simp)))); (case put130 => (simp only [Act.put, List.setIfInBounds_toArray, List.set_cons_zero, List.set_cons_succ]; first | done | exact rfl)); (case' next130 => skip))
  (first | (refine' grow_skip rfl ?wt27 ?put27 ?next27; (case wt27 => rfl)) | (refine' grow_lit rfl ?wt27 ?run27 ?put27 ?next27; (case wt27 => rfl); (case run27 => (intro w' hS H; clear H; (obtain ⟨a0, a1, a2, -, -, -⟩ := (KA.out.keep hS).o3); (obtain ⟨m0, m1, m2, -, -, -⟩ := (KM.out.keep hS).o3); (obtain ⟨g0, g1, -, -⟩ := (KW.out.keep hS).o2); clear hS; go_simp; first | done | exact rfl)))); (case put27 => (simp only [Act.put, List.setIfInBounds_toArray, List.set_cons_zero, List.set_cons_succ]; first | done | exact rfl)); (case' next27 => skip)
  (first | (refine' grow_skip rfl ?wt28 ?put28 ?next28; (case wt28 => rfl)) | (refine' grow_lit rfl ?wt28 ?run28 ?put28 ?next28; (case wt28 => rfl); (case run28 => (intro w' hS H; clear H; (obtain ⟨a0, a1, a2, -, -, -⟩ := (KA.out.keep hS).o3); (obtain ⟨m0, m1, m2, -, -, -⟩ := (KM.out.keep hS).o3); (obtain ⟨g0, g1, -, -⟩ := (KW.out.keep hS).o2); clear hS; go_simp; first | done | exact rfl)))); (case put28 => (simp only [Act.put, List.setIfInBounds_toArray, List.set_cons_zero, List.set_cons_succ]; first | done | exact rfl)); (case' next28 => skip)
  (refine' grow_callP (p := fun v w => NetV w v n) (hp := fun v w w' h hb => h.below hb) rfl Tryd.func14 (by kernel_rfl) rfl hGS rfl ?wt131 ?run131 ?put131 ?next131; (case wt131 => rfl); (case run131 => (intro w' hS H; exact vtoF (VA.out.below hS) F1.out)); (case put131 => (intro v; simp only [Act.put, List.setIfInBounds_toArray, List.set_cons_zero, List.set_cons_succ]; first | done | exact rfl)); (case' next131 => intro v7))
  (refine' grow_call (u := .nilIface) rfl Tryd.func13 (by kernel_rfl) rfl hGS rfl ?wt132 ?run132 ?put132 ?next132; (case wt132 => rfl); (case run132 => (intro w' hS H; (have h4 : NetV w' v7 n := H 7 (by decide)); exact vcheck0 h4 F1.out.small HIN.out OK.out)); (case put132 => (simp only [Act.put, List.setIfInBounds_toArray, List.set_cons_zero, List.set_cons_succ]; first | done | exact rfl)); (case' next132 => skip))
  (first | (refine' grow_skip rfl ?wt29 ?put29 ?next29; (case wt29 => rfl)) | (refine' grow_lit rfl ?wt29 ?run29 ?put29 ?next29; (case wt29 => rfl); (case run29 => (intro w' hS H; clear H; (obtain ⟨a0, a1, a2, -, -, -⟩ := (KA.out.keep hS).o3); (obtain ⟨m0, m1, m2, -, -, -⟩ := (KM.out.keep hS).o3); (obtain ⟨g0, g1, -, -⟩ := (KW.out.keep hS).o2); clear hS; go_simp; first | done | exact rfl)))); (case put29 => (simp only [Act.put, List.setIfInBounds_toArray, List.set_cons_zero, List.set_cons_succ]; first | done | exact rfl)); (case' next29 => skip)
  (first | (refine' grow_skip rfl ?wt30 ?put30 ?next30; (case wt30 => rfl)) | (refine' grow_lit rfl ?wt30 ?run30 ?put30 ?next30; (case wt30 => rfl); (case run30 => (intro w' hS H; clear H; (obtain ⟨a0, a1, a2, -, -, -⟩ := (KA.out.keep hS).o3); (obtain ⟨m0, m1, m2, -, -, -⟩ := (KM.out.keep hS).o3); (obtain ⟨g0, g1, -, -⟩ := (KW.out.keep hS).o2); clear hS; go_simp; first | done | exact rfl)))); (case put30 => (simp only [Act.put, List.setIfInBounds_toArray, List.set_cons_zero, List.set_cons_succ]; first | done | exact rfl)); (case' next30 => skip)
  (first | (refine' grow_skip rfl ?wt31 ?put31 ?next31; (case wt31 => rfl)) | (refine' grow_lit rfl ?wt31 ?run31 ?put31 ?next31; (case wt31 => rfl); (case run31 => (intro w' hS H; clear H; (obtain ⟨a0, a1, a2, -, -, -⟩ := (KA.out.keep hS).o3); (obtain ⟨m0, m1, m2, -, -, -⟩ := (KM.out.keep hS).o3); (obtain ⟨g0, g1, -, -⟩ := (KW.out.keep hS).o2); clear hS; go_simp; first | done | exact rfl)))); (case put31 => (simp only [Act.put, List.setIfInBounds_toArray, List.set_cons_zero, List.set_cons_succ]; first | done | exact rfl)); (case' next31 => skip)
  (first | (refine' grow_skip rfl ?wt32 ?put32 ?next32; (case wt32 => rfl)) | (refine' grow_lit rfl ?wt32 ?run32 ?put32 ?next32; (case wt32 => rfl); (case run32 => (intro w' hS H; clear H; (obtain ⟨a0, a1, a2, -, -, -⟩ := (KA.out.keep hS).o3); (obtain ⟨m0, m1, m2, -, -, -⟩ := (KM.out.keep hS).o3); (obtain ⟨g0, g1, -, -⟩ := (KW.out.keep hS).o2); clear hS; go_simp; first | done | exact rfl)))); (case put32 => (simp only [Act.put, List.setIfInBounds_toArray, List.set_cons_zero, List.set_cons_succ]; first | done | exact rfl)); (case' next32 => skip)
  (refine' grow_callP (p := fun v w => NetV w v n) (hp := fun v w w' h hb => h.below hb) rfl Tryd.func14 (by kernel_rfl) rfl hGS rfl ?wt133 ?run133 ?put133 ?next133; (case wt133 => rfl); (case run133 => (intro w' hS H; exact vtoF (VA.out.below hS) F1.out)); (case put133 => (intro v; simp only [Act.put, List.setIfInBounds_toArray, List.set_cons_zero, List.set_cons_succ]; first | done | exact rfl)); (case' next133 => intro v13))
  (first | (refine' grow_skip rfl ?wt33 ?put33 ?next33; (case wt33 => rfl)) | (refine' grow_lit rfl ?wt33 ?run33 ?put33 ?next33; (case wt33 => rfl); (case run33 => (intro w' hS H; clear H; (obtain ⟨a0, a1, a2, -, -, -⟩ := (KA.out.keep hS).o3); (obtain ⟨m0, m1, m2, -, -, -⟩ := (KM.out.keep hS).o3); (obtain ⟨g0, g1, -, -⟩ := (KW.out.keep hS).o2); clear hS; go_simp; first | done | exact rfl)))); (case put33 => (simp only [Act.put, List.setIfInBounds_toArray, List.set_cons_zero, List.set_cons_succ]; first | done | exact rfl)); (case' next33 => skip)
  (refine' grow_callP (p := fun v w => NetV w v ⟨n.v, n.a.set ka (n.a[ka].1, -1 - by_, n.a[ka].2.2), n.t⟩) (hp := fun v w w' h hb => h.below hb) rfl Tryd.func14 (by kernel_rfl) rfl hGS rfl ?wt134 ?run134 ?put134 ?next134; (case wt134 => rfl); (case run134 => (intro w' hS H; exact vto (VM.out.below hS) BT.out.v BT.out.a BT.out.t BT.out.c)); (case put134 => (intro v; simp only [Act.put, List.setIfInBounds_toArray, List.set_cons_zero, List.set_cons_succ]; first | done | exact rfl)); (case' next134 => intro v15))
  (refine' grow_call (u := .bool false) rfl Tryd.func16 (by kernel_rfl) rfl hGS rfl ?wt135 ?run135 ?put135 ?next135; (case wt135 => rfl); (case run135 => (intro w' hS H; (have h6 : NetV w' v13 n := H 13 (by decide)); (have h7 : NetV w' v15 ⟨n.v, n.a.set ka (n.a[ka].1, -1 - by_, n.a[ka].2.2), n.t⟩ := H 15 (by decide)); exact vsame h6 h7 BT.out.ne)); (case put135 => (simp only [Act.put, List.setIfInBounds_toArray, List.set_cons_zero, List.set_cons_succ]; first | done | exact rfl)); (case' next135 => skip))
  (first | (refine' grow_skip rfl ?wt34 ?put34 ?next34; (case wt34 => rfl)) | (refine' grow_lit rfl ?wt34 ?run34 ?put34 ?next34; (case wt34 => rfl); (case run34 => (intro w' hS H; clear H; (obtain ⟨a0, a1, a2, -, -, -⟩ := (KA.out.keep hS).o3); (obtain ⟨m0, m1, m2, -, -, -⟩ := (KM.out.keep hS).o3); (obtain ⟨g0, g1, -, -⟩ := (KW.out.keep hS).o2); clear hS; go_simp; first | done | exact rfl)))); (case put34 => (simp only [Act.put, List.setIfInBounds_toArray, List.set_cons_zero, List.set_cons_succ]; first | done | exact rfl)); (case' next34 => skip)
  (first | (refine' grow_skip rfl ?wt35 ?put35 ?next35; (case wt35 => rfl)) | (refine' grow_lit rfl ?wt35 ?run35 ?put35 ?next35; (case wt35 => rfl); (case run35 => (intro w' hS H; clear H; (obtain ⟨a0, a1, a2, -, -, -⟩ := (KA.out.keep hS).o3); (obtain ⟨m0, m1, m2, -, -, -⟩ := (KM.out.keep hS).o3); (obtain ⟨g0, g1, -, -⟩ := (KW.out.keep hS).o2); clear hS; go_simp; first | done | exact rfl)))); (case put35 => (simp only [Act.put, List.setIfInBounds_toArray, List.set_cons_zero, List.set_cons_succ]; first | done | exact rfl)); (case' next35 => skip)
  (first | (refine' grow_skip rfl ?wt36 ?put36 ?next36; (case wt36 => rfl)) | (refine' grow_lit rfl ?wt36 ?run36 ?put36 ?next36; (case wt36 => rfl); (case run36 => (intro w' hS H; clear H; (obtain ⟨a0, a1, a2, -, -, -⟩ := (KA.out.keep hS).o3); (obtain ⟨m0, m1, m2, -, -, -⟩ := (KM.out.keep hS).o3); (obtain ⟨g0, g1, -, -⟩ := (KW.out.keep hS).o2); clear hS; go_simp; first | done | exact rfl)))); (case put36 => (simp only [Act.put, List.setIfInBounds_toArray, List.set_cons_zero, List.set_cons_succ]; first | done | exact rfl)); (case' next36 => skip)
  intro w9 hb _
  have HF := Lib.hid (B0.out.trans (hb.mono B0.out.size))
  clear hb hGS
  go_wp2_with fail
  go_ret
  exact ⟨rfl, HF.out⟩

set_option maxHeartbeats 8000000 in
set_option maxRecDepth 100000 in
theorem bent_3 (v : Value) (n : NetD) (wh at_ by_ : Int) (kv ka : Nat) (w : World) (hg : ErrT w) (hv : NetV w v n) (hin : InNet n) (hm : mayN n = true) (hkv : kv < n.v.length) (hka : ka < n.a.length) (hmv : at_.tmod (n.v.length : Int) = kv) (hma : at_.tmod (n.a.length : Int) = ka) (ha0 : 0 ≤ at_) (ha1 : at_ ≤ 65535) (hb0 : 0 ≤ by_) (hb1 : by_ ≤ 65535) (hwh : wh.tmod 6 = 3) :
    Calls Tryd.prog 8 #[v, .int .u8 wh, .int .u16 at_, .int .u16 by_] w fun e w' => e = .returned (.bool true) ∧ Below w.heap.size w w' := by
  obtain ⟨vq, aq, tq, vc, ac, tc, rfl, -⟩ := hv.shape
  have HM := Lib.hid hm
  obtain ⟨hf, hk, hgd⟩ := may_of hm
  have BT := Lib.hid (bentI3 hf hin hk hgd hka (x := -1 - by_) (by omega) (by omega))
  have F1 := Lib.hid hf
  have OK := Lib.hid hk
  have GD := Lib.hid hgd
  have HIN := Lib.hid hin
  have d1 : ((n.v.length : Int) == 0) = false := beq_eq_false_iff_ne.2 (by omega)
  have d2 : ((n.a.length : Int) == 0) = false := beq_eq_false_iff_ne.2 (by omega)
  have hz1 : ¬ (n.v.length : Int) = 0 := by omega
  have hz2 : ¬ (n.a.length : Int) = 0 := by omega
  clear hm hin hf hk hgd
  go_enter Tryd.func8, Tryd.ntmps8
  go_wp2_with fail
  obtain ⟨W0, hW0⟩ := named (w.alloc (.cells #[.slice vq n.v.length vc, .slice aq n.a.length ac, .slice tq n.t.length tc] 26))
  rw [← hW0]
  have hc0 : Below w.heap.size w W0 := by rw [hW0]; exact below_alloc1 _
  have B0 := Lib.hid hc0
  have KA : Hid (Blk W0 (w.heap.size) #[.slice vq n.v.length vc, .slice aq n.a.length ac, .slice tq n.t.length tc] 26) := by rw [hW0]; exact Lib.hid (Blk.new _ _ _ _ rfl)
  have VA := Lib.hid (hv.below hc0)
  have HG := Lib.hid (hg.keep hc0)
  clear hc0 hW0 hv hg
  refine (known3_any _ HG.out).mono ?_
  rintro e w1 ⟨rfl, hb⟩
  obtain ⟨p0, p1, p2, -, -, -⟩ := (KA.out.keep hb).o3
  go_wp2_with fail
  clear p0 p1 p2
  have hd1 : Below W0.heap.size W0 w1 := hb
  have KA_ := Lib.hid (KA.out.keep hd1)
  have VA_ := Lib.hid (VA.out.below hd1)
  have HG_ := Lib.hid (HG.out.keep hd1)
  clear KA VA HG
  have KA := KA_
  have VA := VA_
  have HG := HG_
  clear KA_ VA_ HG_
  have B1 : Hid (Below w.heap.size w w1) := Lib.hid (B0.out.trans (hd1.mono B0.out.size))
  clear B0
  have B0 := B1
  clear B1
  clear hb hd1 
  refine (vmay VA.out HIN.out HM.out).mono ?_
  rintro e w2 ⟨rfl, hb⟩
  obtain ⟨p0, p1, p2, -, -, -⟩ := (KA.out.keep hb).o3
  go_wp2_with fail
  clear p0 p1 p2
  have hd2 : Below w1.heap.size w1 w2 := hb
  have KA_ := Lib.hid (KA.out.keep hd2)
  have VA_ := Lib.hid (VA.out.below hd2)
  have HG_ := Lib.hid (HG.out.keep hd2)
  clear KA VA HG
  have KA := KA_
  have VA := VA_
  have HG := HG_
  clear KA_ VA_ HG_
  have B1 : Hid (Below w.heap.size w w2) := Lib.hid (B0.out.trans (hd2.mono B0.out.size))
  clear B0
  have B0 := B1
  clear B1
  clear hb hd2 
  obtain ⟨w2_, hw2_⟩ : ∃ W, W = w2 := ⟨_, rfl⟩
  have HS2 := Lib.hid (NetV.s VA.out)
  refine (copynet_any n vq aq tq vc ac tc _ HS2.out (by have := F1.out.v; omega) (by have := F1.out.a; omega) (by have := F1.out.t; omega) (fun t ht => by have := F1.out.c t ht; omega)).mono ?_
  rintro e w3 ⟨q0, c0, q1, c1, q2, c2, us, rfl, hO, hb⟩
  have HO3 := Lib.hid hO
  have HB3 := Lib.hid hb
  clear hO hb hw2_
  go_upto_region 25 with (fail)
  obtain ⟨W, hW⟩ := named ((w3.alloc (.cells #[.slice q0 n.v.length c0, .slice q1 n.a.length c1, .slice q2 n.t.length c2] 26)).alloc (.cells #[.slice none 0 0, .int .i64 0] 41))
  rw [← hW]
  have hbW : Below w3.heap.size w3 W := by rw [hW]; exact below_alloc2 _ _
  have HO := Lib.hid (HO3.out.below hbW)
  have KM : Hid (Blk W w3.heap.size #[.slice q0 n.v.length c0, .slice q1 n.a.length c1, .slice q2 n.t.length c2] 26) := by rw [hW]; exact Lib.hid ((Blk.new _ _ _ _ rfl).old _)
  have KW : Hid (Blk W (w3.heap.size + 1) #[.slice none 0 0, .int .i64 0] 41) := by rw [hW]; exact Lib.hid (Blk.new _ _ _ _ (by simp))
  have BB := Lib.hid (HB3.out.trans (hbW.mono HB3.out.size))
  have z23 := HB3.out.size
  have Z3 := Lib.hid z23
  clear hW hbW HO3 HB3 z23
  obtain ⟨g, rfl, hbg, hgl, xc, xf, hO1, hBl⟩ := (HO.out.arc hka (j := ka * 3 + 2) (y := (n.a[ka].1, n.a[ka].2.1, -1 - by_)) (by omega) (flatT_at n.a ka hka).2.2 (flatT_set2 n.a ka hka (-1 - by_))).is
  have HO1 := Lib.hid hO1
  have HBl := Lib.hid hBl
  have h3 := Z3.out
  obtain ⟨m0, m1, m2, -, -, -⟩ := KM.out.o3
  clear hO1 hBl
  go_wp2_with fail
  clear xc xf m0 m1 m2
  obtain ⟨W1, hW1⟩ := named (W.setCell ⟨g, ka * 3 + 2, none⟩ (.int .i64 (-1 - by_)))
  have KM2 := Lib.hid (HBl.out _ _ _ KM.out (by decide) (by decide) (by decide))
  have KW2 := Lib.hid (HBl.out _ _ _ KW.out (by decide) (by decide) (by decide))
  have bb := Lib.hid (BB.out.setCell (p := ⟨g, ka * 3 + 2, none⟩) hbg (.int .i64 (-1 - by_)))
  rw [← hW1] at HO1 KM2 KW2 bb ⊢
  clear KM KW HO BB HBl hW1
  have KM := KM2
  have KW := KW2
  have HO := HO1
  have BB := bb
  clear KM2 KW2 HO1 bb hgl hbg h3
  refine (at_post arcB (ka : Int) 8 _).mono ?_
  rintro e w4 ⟨wv, rfl, hW4, hb⟩
  obtain ⟨fq, fn, fc, rfl⟩ := hW4.shape
  have kw := KW.out.keep hb
  have km := KM.out.keep hb
  have ho := HO.out.below hb
  have hlw := kw.lt
  have hlz := KW.out.lt
  have h3 := Z3.out
  obtain ⟨g0, g1, f0, f1⟩ := kw.o2
  obtain ⟨WE, hWE⟩ := named ((w4.setCell ⟨w3.heap.size + 1, 0, none⟩ (.slice fq fn fc)).setCell ⟨w3.heap.size + 1, 1, none⟩ (.int .i64 8))
  have bb : Hid (Below w2.heap.size w2 WE) := by
    rw [hWE]
    refine Lib.hid ?_
    iterate 2 (refine Below.setCell ?_ (by simp only []; omega) _)
    exact BB.out.trans (hb.mono BB.out.size)
  have WG : Hid (WrongV WE (.agg #[.slice fq fn fc, .int .i64 8]) [(arcB, (ka : Int))] 8) := by rw [hWE]; exact Lib.hid (wrong_set kw (fun s => by simp) (fun s => by simp) hW4 (.slice fq fn fc) (.int .i64 8))
  have KW2 : Hid (Blk WE (w3.heap.size + 1) #[.slice fq fn fc, .int .i64 8] 41) := by rw [hWE]; exact Lib.hid (by simpa using (kw.set 0 (.slice fq fn fc)).set 1 (.int .i64 8))
  have KM2 := Lib.hid ((km.other (k := w3.heap.size + 1) 0 (.slice fq fn fc) (by omega)).other (k := w3.heap.size + 1) 1 (.int .i64 8) (by omega))
  have HO2 := Lib.hid ((ho.set kw (by decide) (by decide) (by decide) (by decide) 0 (.slice fq fn fc)).set (kw.set 0 _) (by decide) (by decide) (by decide) (by decide) 1 (.int .i64 8))
  rw [← hWE] at KM2 HO2
  have HWE := Lib.hid hWE
  clear hW4 hb km ho hWE hlw hlz h3 KW KM HO BB
  go_wp2_with fail
  rw [← HWE.out]
  clear g0 g1 f0 f1 kw HWE
  have KW := KW2
  have KM := KM2
  have HO := HO2
  have BB := bb
  clear KW2 KM2 HO2 bb
  have hbn := BB.out
  have KAe := Lib.hid (KA.out.keep hbn)
  have VAe := Lib.hid (VA.out.below hbn)
  have HGe := Lib.hid (HG.out.keep hbn)
  have Be := Lib.hid (B0.out.trans (hbn.mono B0.out.size))
  have VMe := Lib.hid (HO.out.net BT.out.v BT.out.a BT.out.t BT.out.c)
  clear hbn KA VA HG B0 BB HO
  have KA := KAe
  have VA := VAe
  have HG := HGe
  have B0 := Be
  have VM := VMe
  clear KAe VAe HGe Be VMe
  have hGS : Grows (fun w' => Below WE.heap.size WE w') := Grows.below WE
  refine' wp_growL _ (fun w' => Below WE.heap.size WE w') [[], [0], [1], [], [2, 3], [4], [5], [5, 6], [5, 7], [5, 8], [5, 9], [10], [11], [11, 12], [11], [11, 14], [11, 13, 15], [11, 16], [11, 17], [18]] (Fact.lit _ :: Fact.prop _ _ :: Fact.prop _ _ :: Fact.lit _ :: Fact.lit _ :: Fact.lit _ :: Fact.lit _ :: Fact.prop _ _ :: Fact.lit _ :: Fact.lit _ :: Fact.lit _ :: Fact.lit _ :: Fact.lit _ :: Fact.prop _ _ :: Fact.lit _ :: Fact.prop _ _ :: Fact.lit _ :: Fact.lit _ :: Fact.lit _ :: Fact.lit _ :: []) (by kernel_rfl) rfl (by kernel_rfl) (Below.refl _ _).drew ?seqfin3
  case' seqfin3 => skip
  (first | (refine' grow_skip rfl ?wt37 ?put37 ?next37; (case wt37 => rfl)) | (refine' grow_lit rfl ?wt37 ?run37 ?put37 ?next37; (case wt37 => rfl); (case run37 => (intro w' hS H; clear H; (obtain ⟨a0, a1, a2, -, -, -⟩ := (KA.out.keep hS).o3); (obtain ⟨m0, m1, m2, -, -, -⟩ := (KM.out.keep hS).o3); (obtain ⟨g0, g1, -, -⟩ := (KW.out.keep hS).o2); clear hS; go_simp; first | done | exact rfl)))); (case put37 => (simp only [Act.put, List.setIfInBounds_toArray, List.set_cons_zero, List.set_cons_succ]; first | done | exact rfl)); (case' next37 => skip)
  (refine' grow_callP (p := fun v w => NetV w v ⟨n.v, n.a.set ka (n.a[ka].1, n.a[ka].2.1, -1 - by_), n.t⟩) (hp := fun v w w' h hb => h.below hb) rfl Tryd.func14 (by kernel_rfl) rfl hGS rfl ?wt136 ?run136 ?put136 ?next136; (case wt136 => rfl); (case run136 => (intro w' hS H; exact vto (VM.out.below hS) BT.out.v BT.out.a BT.out.t BT.out.c)); (case put136 => (intro v; simp only [Act.put, List.setIfInBounds_toArray, List.set_cons_zero, List.set_cons_succ]; first | done | exact rfl)); (case' next136 => intro v1))
  (refine' grow_callP (p := fun v w => FaultV w v ([(arcB, (ka : Int))] : List (ByteArray × Int)) 8) (hp := fun v w w' h hb => h.below hb) rfl Tryd.func13 (by kernel_rfl) rfl hGS rfl ?wt137 ?run137 ?put137 ?next137; (case wt137 => rfl); (case run137 => (intro w' hS H; (have h1 : NetV w' v1 ⟨n.v, n.a.set ka (n.a[ka].1, n.a[ka].2.1, -1 - by_), n.t⟩ := H 1 (by decide)); exact vcheckE h1 BT.out.small BT.out.inn BT.out.chk)); (case put137 => (intro v; simp only [Act.put, List.setIfInBounds_toArray, List.set_cons_zero, List.set_cons_succ]; first | done | exact rfl)); (case' next137 => intro v2))
  (first | (refine' grow_skip rfl ?wt38 ?put38 ?next38; (case wt38 => rfl)) | (refine' grow_lit rfl ?wt38 ?run38 ?put38 ?next38; (case wt38 => rfl); (case run38 => (intro w' hS H; clear H; (obtain ⟨a0, a1, a2, -, -, -⟩ := (KA.out.keep hS).o3); (obtain ⟨m0, m1, m2, -, -, -⟩ := (KM.out.keep hS).o3); (obtain ⟨g0, g1, -, -⟩ := (KW.out.keep hS).o2); clear hS; go_simp; first | done | exact rfl)))); (case put38 => (simp only [Act.put, List.setIfInBounds_toArray, List.set_cons_zero, List.set_cons_succ]; first | done | exact rfl)); (case' next38 => skip)
  (refine' grow_call (u := .bool true) rfl Tryd.func12 (by kernel_rfl) rfl hGS rfl ?wt138 ?run138 ?put138 ?next138; (case wt138 => rfl); (case run138 => (intro w' hS H; exact tells_post _ _ ([(arcB, (ka : Int))] : List (ByteArray × Int)) 8 w' (HG.out.keep hS) (H 2 (by decide)) (WG.out.below hS) (Or.inr (by simp)))); (case put138 => (simp only [Act.put, List.setIfInBounds_toArray, List.set_cons_zero, List.set_cons_succ]; first | done | exact rfl)); (case' next138 => skip))
  (first | (refine' grow_skip rfl ?wt39 ?put39 ?next39; (case wt39 => rfl)) | (refine' grow_lit rfl ?wt39 ?run39 ?put39 ?next39; (case wt39 => rfl); (case run39 => (intro w' hS H; clear H; (obtain ⟨a0, a1, a2, -, -, -⟩ := (KA.out.keep hS).o3); (obtain ⟨m0, m1, m2, -, -, -⟩ := (KM.out.keep hS).o3); (obtain ⟨g0, g1, -, -⟩ := (KW.out.keep hS).o2); clear hS; go_simp; first | done | exact rfl)))); (case put39 => (simp only [Act.put, List.setIfInBounds_toArray, List.set_cons_zero, List.set_cons_succ]; first | done | exact rfl)); (case' next39 => skip)
  (first | (refine' grow_skip rfl ?wt40 ?put40 ?next40; (case wt40 => rfl)) | (refine' grow_lit rfl ?wt40 ?run40 ?put40 ?next40; (case wt40 => rfl); (case run40 => (intro w' hS H; clear H; (obtain ⟨a0, a1, a2, -, -, -⟩ := (KA.out.keep hS).o3); (obtain ⟨m0, m1, m2, -, -, -⟩ := (KM.out.keep hS).o3); (obtain ⟨g0, g1, -, -⟩ := (KW.out.keep hS).o2); clear hS; go_simp; first | done | exact rfl)))); (case put40 => (simp only [Act.put, List.setIfInBounds_toArray, List.set_cons_zero, List.set_cons_succ]; first | done | exact rfl)); (case' next40 => skip)
  (refine' grow_callP (p := fun v w => NetV w v n) (hp := fun v w w' h hb => h.below hb) rfl Tryd.func14 (by kernel_rfl) rfl hGS rfl ?wt139 ?run139 ?put139 ?next139; (case wt139 => rfl); (case run139 => (intro w' hS H; exact vtoF (VA.out.below hS) F1.out)); (case put139 => (intro v; simp only [Act.put, List.setIfInBounds_toArray, List.set_cons_zero, List.set_cons_succ]; first | done | exact rfl)); (case' next139 => intro v7))
  (refine' grow_call (u := .nilIface) rfl Tryd.func13 (by kernel_rfl) rfl hGS rfl ?wt140 ?run140 ?put140 ?next140; (case wt140 => rfl); (case run140 => (intro w' hS H; (have h4 : NetV w' v7 n := H 7 (by decide)); exact vcheck0 h4 F1.out.small HIN.out OK.out)); (case put140 => (simp only [Act.put, List.setIfInBounds_toArray, List.set_cons_zero, List.set_cons_succ]; first | done | exact rfl)); (case' next140 => skip))
  (first | (refine' grow_skip rfl ?wt41 ?put41 ?next41; (case wt41 => rfl)) | (refine' grow_lit rfl ?wt41 ?run41 ?put41 ?next41; (case wt41 => rfl); (case run41 => (intro w' hS H; clear H; (obtain ⟨a0, a1, a2, -, -, -⟩ := (KA.out.keep hS).o3); (obtain ⟨m0, m1, m2, -, -, -⟩ := (KM.out.keep hS).o3); (obtain ⟨g0, g1, -, -⟩ := (KW.out.keep hS).o2); clear hS; go_simp; first | done | exact rfl)))); (case put41 => (simp only [Act.put, List.setIfInBounds_toArray, List.set_cons_zero, List.set_cons_succ]; first | done | exact rfl)); (case' next41 => skip)
  (first | (refine' grow_skip rfl ?wt42 ?put42 ?next42; (case wt42 => rfl)) | (refine' grow_lit rfl ?wt42 ?run42 ?put42 ?next42; (case wt42 => rfl); (case run42 => (intro w' hS H; clear H; (obtain ⟨a0, a1, a2, -, -, -⟩ := (KA.out.keep hS).o3); (obtain ⟨m0, m1, m2, -, -, -⟩ := (KM.out.keep hS).o3); (obtain ⟨g0, g1, -, -⟩ := (KW.out.keep hS).o2); clear hS; go_simp; first | done | exact rfl)))); (case put42 => (simp only [Act.put, List.setIfInBounds_toArray, List.set_cons_zero, List.set_cons_succ]; first | done | exact rfl)); (case' next42 => skip)
  (first | (refine' grow_skip rfl ?wt43 ?put43 ?next43; (case wt43 => rfl)) | (refine' grow_lit rfl ?wt43 ?run43 ?put43 ?next43; (case wt43 => rfl); (case run43 => (intro w' hS H; clear H; (obtain ⟨a0, a1, a2, -, -, -⟩ := (KA.out.keep hS).o3); (obtain ⟨m0, m1, m2, -, -, -⟩ := (KM.out.keep hS).o3); (obtain ⟨g0, g1, -, -⟩ := (KW.out.keep hS).o2); clear hS; go_simp; first | done | exact rfl)))); (case put43 => (simp only [Act.put, List.setIfInBounds_toArray, List.set_cons_zero, List.set_cons_succ]; first | done | exact rfl)); (case' next43 => skip)
  (first | (refine' grow_skip rfl ?wt44 ?put44 ?next44; (case wt44 => rfl)) | (refine' grow_lit rfl ?wt44 ?run44 ?put44 ?next44; (case wt44 => rfl); (case run44 => (intro w' hS H; clear H; (obtain ⟨a0, a1, a2, -, -, -⟩ := (KA.out.keep hS).o3); (obtain ⟨m0, m1, m2, -, -, -⟩ := (KM.out.keep hS).o3); (obtain ⟨g0, g1, -, -⟩ := (KW.out.keep hS).o2); clear hS; go_simp; first | done | exact rfl)))); (case put44 => (simp only [Act.put, List.setIfInBounds_toArray, List.set_cons_zero, List.set_cons_succ]; first | done | exact rfl)); (case' next44 => skip)
  (refine' grow_callP (p := fun v w => NetV w v n) (hp := fun v w w' h hb => h.below hb) rfl Tryd.func14 (by kernel_rfl) rfl hGS rfl ?wt141 ?run141 ?put141 ?next141; (case wt141 => rfl); (case run141 => (intro w' hS H; exact vtoF (VA.out.below hS) F1.out)); (case put141 => (intro v; simp only [Act.put, List.setIfInBounds_toArray, List.set_cons_zero, List.set_cons_succ]; first | done | exact rfl)); (case' next141 => intro v13))
  (first | (refine' grow_skip rfl ?wt45 ?put45 ?next45; (case wt45 => rfl)) | (refine' grow_lit rfl ?wt45 ?run45 ?put45 ?next45; (case wt45 => rfl); (case run45 => (intro w' hS H; clear H; (obtain ⟨a0, a1, a2, -, -, -⟩ := (KA.out.keep hS).o3); (obtain ⟨m0, m1, m2, -, -, -⟩ := (KM.out.keep hS).o3); (obtain ⟨g0, g1, -, -⟩ := (KW.out.keep hS).o2); clear hS; go_simp; first | done | exact rfl)))); (case put45 => (simp only [Act.put, List.setIfInBounds_toArray, List.set_cons_zero, List.set_cons_succ]; first | done | exact rfl)); (case' next45 => skip)
  (refine' grow_callP (p := fun v w => NetV w v ⟨n.v, n.a.set ka (n.a[ka].1, n.a[ka].2.1, -1 - by_), n.t⟩) (hp := fun v w w' h hb => h.below hb) rfl Tryd.func14 (by kernel_rfl) rfl hGS rfl ?wt142 ?run142 ?put142 ?next142; (case wt142 => rfl); (case run142 => (intro w' hS H; exact vto (VM.out.below hS) BT.out.v BT.out.a BT.out.t BT.out.c)); (case put142 => (intro v; simp only [Act.put, List.setIfInBounds_toArray, List.set_cons_zero, List.set_cons_succ]; first | done | exact rfl)); (case' next142 => intro v15))
  (refine' grow_call (u := .bool false) rfl Tryd.func16 (by kernel_rfl) rfl hGS rfl ?wt143 ?run143 ?put143 ?next143; (case wt143 => rfl); (case run143 => (intro w' hS H; (have h6 : NetV w' v13 n := H 13 (by decide)); (have h7 : NetV w' v15 ⟨n.v, n.a.set ka (n.a[ka].1, n.a[ka].2.1, -1 - by_), n.t⟩ := H 15 (by decide)); exact vsame h6 h7 BT.out.ne)); (case put143 => (simp only [Act.put, List.setIfInBounds_toArray, List.set_cons_zero, List.set_cons_succ]; first | done | exact rfl)); (case' next143 => skip))
  (first | (refine' grow_skip rfl ?wt46 ?put46 ?next46; (case wt46 => rfl)) | (refine' grow_lit rfl ?wt46 ?run46 ?put46 ?next46; (case wt46 => rfl); (case run46 => (intro w' hS H; clear H; (obtain ⟨a0, a1, a2, -, -, -⟩ := (KA.out.keep hS).o3); (obtain ⟨m0, m1, m2, -, -, -⟩ := (KM.out.keep hS).o3); (obtain ⟨g0, g1, -, -⟩ := (KW.out.keep hS).o2); clear hS; go_simp; first | done | exact rfl)))); (case put46 => (simp only [Act.put, List.setIfInBounds_toArray, List.set_cons_zero, List.set_cons_succ]; first | done | exact rfl)); (case' next46 => skip)
  (first | (refine' grow_skip rfl ?wt47 ?put47 ?next47; (case wt47 => rfl)) | (refine' grow_lit rfl ?wt47 ?run47 ?put47 ?next47; (case wt47 => rfl); (case run47 => (intro w' hS H; clear H; (obtain ⟨a0, a1, a2, -, -, -⟩ := (KA.out.keep hS).o3); (obtain ⟨m0, m1, m2, -, -, -⟩ := (KM.out.keep hS).o3); (obtain ⟨g0, g1, -, -⟩ := (KW.out.keep hS).o2); clear hS; go_simp; first | done | exact rfl)))); (case put47 => (simp only [Act.put, List.setIfInBounds_toArray, List.set_cons_zero, List.set_cons_succ]; first | done | exact rfl)); (case' next47 => skip)
  (first | (refine' grow_skip rfl ?wt48 ?put48 ?next48; (case wt48 => rfl)) | (refine' grow_lit rfl ?wt48 ?run48 ?put48 ?next48; (case wt48 => rfl); (case run48 => (intro w' hS H; clear H; (obtain ⟨a0, a1, a2, -, -, -⟩ := (KA.out.keep hS).o3); (obtain ⟨m0, m1, m2, -, -, -⟩ := (KM.out.keep hS).o3); (obtain ⟨g0, g1, -, -⟩ := (KW.out.keep hS).o2); clear hS; go_simp; first | done | exact rfl)))); (case put48 => (simp only [Act.put, List.setIfInBounds_toArray, List.set_cons_zero, List.set_cons_succ]; first | done | exact rfl)); (case' next48 => skip)
  intro w9 hb _
  have HF := Lib.hid (B0.out.trans (hb.mono B0.out.size))
  clear hb hGS
  go_wp2_with fail
  go_ret
  exact ⟨rfl, HF.out⟩

set_option maxHeartbeats 8000000 in
set_option maxRecDepth 100000 in
theorem bent_4 (v : Value) (n : NetD) (wh at_ by_ : Int) (kv ka : Nat) (w : World) (hg : ErrT w) (hv : NetV w v n) (hin : InNet n) (hm : mayN n = true) (hkv : kv < n.v.length) (hka : ka < n.a.length) (hmv : at_.tmod (n.v.length : Int) = kv) (hma : at_.tmod (n.a.length : Int) = ka) (ha0 : 0 ≤ at_) (ha1 : at_ ≤ 65535) (hb0 : 0 ≤ by_) (hb1 : by_ ≤ 65535) (hwh : wh.tmod 6 = 4) :
    Calls Tryd.prog 8 #[v, .int .u8 wh, .int .u16 at_, .int .u16 by_] w fun e w' => e = .returned (.bool true) ∧ Below w.heap.size w w' := by
  obtain ⟨vq, aq, tq, vc, ac, tc, rfl, -⟩ := hv.shape
  have HM := Lib.hid hm
  obtain ⟨hf, hk, hgd⟩ := may_of hm
  have BT := Lib.hid (bentI4 hf hin hk (x := 17 + by_) (by omega) (by omega))
  have F1 := Lib.hid hf
  have OK := Lib.hid hk
  have GD := Lib.hid hgd
  have HIN := Lib.hid hin
  have d1 : ((n.v.length : Int) == 0) = false := beq_eq_false_iff_ne.2 (by omega)
  have d2 : ((n.a.length : Int) == 0) = false := beq_eq_false_iff_ne.2 (by omega)
  have hz1 : ¬ (n.v.length : Int) = 0 := by omega
  have hz2 : ¬ (n.a.length : Int) = 0 := by omega
  clear hm hin hf hk hgd
  go_enter Tryd.func8, Tryd.ntmps8
  go_wp2_with fail
  obtain ⟨W0, hW0⟩ := named (w.alloc (.cells #[.slice vq n.v.length vc, .slice aq n.a.length ac, .slice tq n.t.length tc] 26))
  rw [← hW0]
  have hc0 : Below w.heap.size w W0 := by rw [hW0]; exact below_alloc1 _
  have B0 := Lib.hid hc0
  have KA : Hid (Blk W0 (w.heap.size) #[.slice vq n.v.length vc, .slice aq n.a.length ac, .slice tq n.t.length tc] 26) := by rw [hW0]; exact Lib.hid (Blk.new _ _ _ _ rfl)
  have VA := Lib.hid (hv.below hc0)
  have HG := Lib.hid (hg.keep hc0)
  clear hc0 hW0 hv hg
  refine (known3_any _ HG.out).mono ?_
  rintro e w1 ⟨rfl, hb⟩
  obtain ⟨p0, p1, p2, -, -, -⟩ := (KA.out.keep hb).o3
  go_wp2_with fail
  clear p0 p1 p2
  have hd1 : Below W0.heap.size W0 w1 := hb
  have KA_ := Lib.hid (KA.out.keep hd1)
  have VA_ := Lib.hid (VA.out.below hd1)
  have HG_ := Lib.hid (HG.out.keep hd1)
  clear KA VA HG
  have KA := KA_
  have VA := VA_
  have HG := HG_
  clear KA_ VA_ HG_
  have B1 : Hid (Below w.heap.size w w1) := Lib.hid (B0.out.trans (hd1.mono B0.out.size))
  clear B0
  have B0 := B1
  clear B1
  clear hb hd1 
  refine (vmay VA.out HIN.out HM.out).mono ?_
  rintro e w2 ⟨rfl, hb⟩
  obtain ⟨p0, p1, p2, -, -, -⟩ := (KA.out.keep hb).o3
  go_wp2_with fail
  clear p0 p1 p2
  have hd2 : Below w1.heap.size w1 w2 := hb
  have KA_ := Lib.hid (KA.out.keep hd2)
  have VA_ := Lib.hid (VA.out.below hd2)
  have HG_ := Lib.hid (HG.out.keep hd2)
  clear KA VA HG
  have KA := KA_
  have VA := VA_
  have HG := HG_
  clear KA_ VA_ HG_
  have B1 : Hid (Below w.heap.size w w2) := Lib.hid (B0.out.trans (hd2.mono B0.out.size))
  clear B0
  have B0 := B1
  clear B1
  clear hb hd2 
  obtain ⟨w2_, hw2_⟩ : ∃ W, W = w2 := ⟨_, rfl⟩
  have HS2 := Lib.hid (NetV.s VA.out)
  refine (copynet_any n vq aq tq vc ac tc _ HS2.out (by have := F1.out.v; omega) (by have := F1.out.a; omega) (by have := F1.out.t; omega) (fun t ht => by have := F1.out.c t ht; omega)).mono ?_
  rintro e w3 ⟨q0, c0, q1, c1, q2, c2, us, rfl, hO, hb⟩
  have HO3 := Lib.hid hO
  have HB3 := Lib.hid hb
  clear hO hb hw2_
  go_upto_region 28 with (fail)
  obtain ⟨W, hW⟩ := named ((w3.alloc (.cells #[.slice q0 n.v.length c0, .slice q1 n.a.length c1, .slice q2 n.t.length c2] 26)).alloc (.cells #[.slice none 0 0, .int .i64 0] 41))
  rw [← hW]
  have hbW : Below w3.heap.size w3 W := by rw [hW]; exact below_alloc2 _ _
  have HO := Lib.hid (HO3.out.below hbW)
  have KM : Hid (Blk W w3.heap.size #[.slice q0 n.v.length c0, .slice q1 n.a.length c1, .slice q2 n.t.length c2] 26) := by rw [hW]; exact Lib.hid ((Blk.new _ _ _ _ rfl).old _)
  have KW : Hid (Blk W (w3.heap.size + 1) #[.slice none 0 0, .int .i64 0] 41) := by rw [hW]; exact Lib.hid (Blk.new _ _ _ _ (by simp))
  have BB := Lib.hid (HB3.out.trans (hbW.mono HB3.out.size))
  have z23 := HB3.out.size
  have Z3 := Lib.hid z23
  clear hW hbW HO3 HB3 z23
  have hbl : Below W.heap.size W (W.alloc (.cells #[.int .i64 1, .int .i64 (17 + by_), .slice none 0 0] 60)) := below_new _
  have hol := HO.out.below hbl
  have h3 := Z3.out
  have hsW := BB.out.size
  obtain ⟨q4, c4, w4, y4, hr, hown, hgrow, hy⟩ := appR (t := (1, 17 + by_, [])) hol.t hol.r.1 ⟨W.heap.size, .slice none 0 0, rfl, Blk.new _ _ _ _ rfl, ⟨0, World.ownsRow_nil _ _ _ _⟩⟩ (by have := F1.out.t; omega) (by have := hbl.size; omega)
  have km4 := (KM.out.keep hbl).grownO hgrow (own_ne_blk hol.t (KM.out.keep hbl) (by decide))
  have kw4 := (KW.out.keep hbl).grownO hgrow (own_ne_blk hol.t (KW.out.keep hbl) (by decide))
  have bb4 : Below w2.heap.size w2 w4 := (BB.out.trans (hbl.mono hsW)).grown hgrow (by have := hbl.size; omega) (fun g hg => own_ge hol.t g (by simpa using hg))
  have ho4 : OwnN w4 w2.heap.size ⟨n.v, n.a, n.t ++ [(1, 17 + by_, [])]⟩ (.slice q0 n.v.length c0) (.slice q1 n.a.length c1) (.slice q4 (n.t.length + 1) c4) (us ++ [y4]) :=
    ⟨owns_grown hol.v hol.t (by decide) hgrow, owns_grown hol.a hol.t (by decide) hgrow, by show World.ownsRow _ _ _ _ _ (n.t ++ [(1, 17 + by_, [])]).length _; rw [List.length_append]; exact hown, (hol.r.map fun u m h => h.grown hol.t (by decide) hgrow).snoc (hy.grown hol.t (by decide) hgrow)⟩
  have hkl := km4.lt
  have bb5 := bb4.setCell (p := ⟨w3.heap.size, 2, none⟩) (by simp only []; omega) (.slice q4 (n.t.length + 1) c4)
  have ho5 := ho4.set km4 (by decide) (by decide) (by decide) (by decide) 2 (.slice q4 (n.t.length + 1) c4)
  have km5 := km4.set 2 (.slice q4 (n.t.length + 1) c4)
  have kw5 := kw4.other (k := w3.heap.size) 2 (.slice q4 (n.t.length + 1) c4) (by omega)
  have HRR := Lib.hid hr
  obtain ⟨m0, m1, m2, -, -, -⟩ := KM.out.o3
  obtain ⟨n0, n1, n2, f0, f1, f2⟩ := km4.o3
  have KA5 := Lib.hid (KA.out.keep bb5)
  have HO5 := Lib.hid ho5
  have BB5 := Lib.hid bb5
  have KW5 := Lib.hid kw5
  have KM5 : Hid (Blk (w4.setCell ⟨w3.heap.size, 2, none⟩ (.slice q4 (n.t.length + 1) c4)) w3.heap.size #[.slice q0 n.v.length c0, .slice q1 n.a.length c1, .slice q4 (n.t.length + 1) c4] 26) := Lib.hid (by simpa using km5)
  clear hr hown hgrow hy km4 kw4 bb4 ho4 bb5 ho5 km5 kw5 hbl hol KM KW HO BB h3 hsW
  go_upto_region 29 with (at_builtin; refine wpList_append_run rfl _ _ 24 rfl _ _ _ rfl rfl HRR.out ?_)
  clear m0 m1 m2 n0 n1 n2 f0 f1 f2 HRR hkl
  obtain ⟨W1, hW1⟩ := named (w4.setCell ⟨w3.heap.size, 2, none⟩ (.slice q4 (n.t.length + 1) c4))
  rw [← hW1] at KA5 HO5 BB5 KW5 KM5 ⊢
  clear hW1
  have hGS : Grows (fun w' => Below W1.heap.size W1 w') := Grows.below W1
  refine' wp_thenL _ 5 (fun w' => Below W1.heap.size W1 w') [[], [0], [0, 1], [], [0, 1, 2, 3]] (Fact.lit _ :: Fact.lit _ :: Fact.lit _ :: Fact.prop _ _ :: Fact.prop _ _ :: []) (by kernel_rfl) rfl (by kernel_rfl) (Below.refl _ _).drew ?seqtn
  case' seqtn => skip
  (first | (refine' grow_skip rfl ?wt49 ?put49 ?next49; (case wt49 => rfl)) | (refine' grow_lit rfl ?wt49 ?run49 ?put49 ?next49; (case wt49 => rfl); (case run49 => (intro w' hS H; clear H; (obtain ⟨a0, a1, a2, -, -, -⟩ := (KA5.out.keep hS).o3); clear hS; go_simp; first | done | exact rfl)))); (case put49 => (simp only [Act.put, List.setIfInBounds_toArray, List.set_cons_zero, List.set_cons_succ]; first | done | exact rfl)); (case' next49 => skip)
  (first | (refine' grow_skip rfl ?wt50 ?put50 ?next50; (case wt50 => rfl)) | (refine' grow_lit rfl ?wt50 ?run50 ?put50 ?next50; (case wt50 => rfl); (case run50 => (intro w' hS H; clear H; (obtain ⟨a0, a1, a2, -, -, -⟩ := (KA5.out.keep hS).o3); clear hS; go_simp; first | done | exact rfl)))); (case put50 => (simp only [Act.put, List.setIfInBounds_toArray, List.set_cons_zero, List.set_cons_succ]; first | done | exact rfl)); (case' next50 => skip)
  (first | (refine' grow_skip rfl ?wt51 ?put51 ?next51; (case wt51 => rfl)) | (refine' grow_lit rfl ?wt51 ?run51 ?put51 ?next51; (case wt51 => rfl); (case run51 => (intro w' hS H; clear H; (obtain ⟨a0, a1, a2, -, -, -⟩ := (KA5.out.keep hS).o3); clear hS; go_simp; first | done | exact rfl)))); (case put51 => (simp only [Act.put, List.setIfInBounds_toArray, List.set_cons_zero, List.set_cons_succ]; first | done | exact rfl)); (case' next51 => skip)
  (refine' grow_callP (p := fun v w => WrongV w v [(turnB, 1)] 1) (hp := fun v w w' h hb => h.below hb) rfl Tryd.func34 (by kernel_rfl) rfl hGS rfl ?wt144 ?run144 ?put144 ?next144; (case wt144 => rfl); (case run144 => (intro w' hS H; exact (at_post turnB 1 1 w').mono (fun e w2 ⟨v, h1, h2, h3⟩ => ⟨v, h1, h2, h3⟩))); (case put144 => (intro v; simp only [Act.put, List.setIfInBounds_toArray, List.set_cons_zero, List.set_cons_succ]; first | done | exact rfl)); (case' next144 => intro v3))
  (refine' grow_callP (p := fun v w => WrongV w v [(typeB, (n.t.length : Int)), (turnB, 1)] 1) (hp := fun v w w' h hb => h.below hb) rfl Tryd.func35 (by kernel_rfl) rfl hGS rfl ?wt145 ?run145 ?put145 ?next145; (case wt145 => rfl); (case run145 => (intro w' hS H; (have h3' : WrongV w' v3 [(turnB, 1)] 1 := H 3 (by decide)); exact (rwithin_any typeB _ _ [(turnB, 1)] 1 w' h3' (by simp) (by decide) (by simp)).mono (fun e w2 ⟨v, h1, h2, h3⟩ => ⟨v, h1, h2, h3⟩))); (case put145 => (intro v; simp only [Act.put, List.setIfInBounds_toArray, List.set_cons_zero, List.set_cons_succ]; first | done | exact rfl)); (case' next145 => intro v4))
  intro w9 hb hk9
  have hW4 : WrongV w9 v4 [(typeB, (n.t.length : Int)), (turnB, 1)] 1 := hk9 4 (by decide)
  obtain ⟨fq, fn, fc, rfl⟩ := hW4.shape
  have kw := KW5.out.keep hb
  have km := KM5.out.keep hb
  have ho := HO5.out.below hb
  have hlz := KW5.out.lt
  have h3 := Z3.out
  obtain ⟨g0, g1, f0, f1⟩ := kw.o2
  have hgl := kw.lt
  refine wpAny_ready (rs := [5]) (by kernel_rfl) (by simp) (AllReady.cons rfl (fun K hK => ?_) AllReady.nil)
  go_simp
  refine hK _ _ ?_
  clear hK K
  refine wpAny_done (by kernel_rfl) ?_ _
  obtain ⟨WE, hWE⟩ := named ((w9.setCell ⟨w3.heap.size + 1, 0, none⟩ (.slice fq fn fc)).setCell ⟨w3.heap.size + 1, 1, none⟩ (.int .i64 1))
  rw [← hWE]
  have BB : Hid (Below w2.heap.size w2 WE) := by
    rw [hWE]
    refine Lib.hid ?_
    iterate 2 (refine Below.setCell ?_ (by simp only []; omega) _)
    exact BB5.out.trans (hb.mono BB5.out.size)
  have WG : Hid (WrongV WE (.agg #[.slice fq fn fc, .int .i64 1]) [(typeB, (n.t.length : Int)), (turnB, 1)] 1) := by rw [hWE]; exact Lib.hid (wrong_set kw (fun s => by simp) (fun s => by simp) hW4 (.slice fq fn fc) (.int .i64 1))
  have KW : Hid (Blk WE (w3.heap.size + 1) #[.slice fq fn fc, .int .i64 1] 41) := by rw [hWE]; exact Lib.hid (by simpa using (kw.set 0 (.slice fq fn fc)).set 1 (.int .i64 1))
  have KM := Lib.hid ((km.other (k := w3.heap.size + 1) 0 (.slice fq fn fc) (by omega)).other (k := w3.heap.size + 1) 1 (.int .i64 1) (by omega))
  have HO := Lib.hid ((ho.set kw (by decide) (by decide) (by decide) (by decide) 0 (.slice fq fn fc)).set (kw.set 0 _) (by decide) (by decide) (by decide) (by decide) 1 (.int .i64 1))
  rw [← hWE] at KM HO
  clear hW4 hb hk9 kw km ho hWE hlz hgl h3 KW5 KM5 HO5 BB5 KA5 g0 g1 f0 f1 hGS
  obtain ⟨a0, a1, a2, -, -, -⟩ := (KA.out.keep BB.out).o3
  have ht256 : ¬ (256 : Int) ≤ (n.t.length : Int) := by have := F1.out.t; omega
  have dt : decide ((256 : Int) ≤ (n.t.length : Int)) = false := decide_eq_false ht256
  go_wp2_with fail
  clear a0 a1 a2
  have hbn := BB.out
  have KAe := Lib.hid (KA.out.keep hbn)
  have VAe := Lib.hid (VA.out.below hbn)
  have HGe := Lib.hid (HG.out.keep hbn)
  have Be := Lib.hid (B0.out.trans (hbn.mono B0.out.size))
  have VMe := Lib.hid (HO.out.net BT.out.v BT.out.a BT.out.t BT.out.c)
  clear hbn KA VA HG B0 BB HO
  have KA := KAe
  have VA := VAe
  have HG := HGe
  have B0 := Be
  have VM := VMe
  clear KAe VAe HGe Be VMe
  have hGS : Grows (fun w' => Below WE.heap.size WE w') := Grows.below WE
  refine' wp_growL _ (fun w' => Below WE.heap.size WE w') [[], [0], [1], [], [2, 3], [4], [5], [5, 6], [5, 7], [5, 8], [5, 9], [10], [11], [11, 12], [11], [11, 14], [11, 13, 15], [11, 16], [11, 17], [18]] (Fact.lit _ :: Fact.prop _ _ :: Fact.prop _ _ :: Fact.lit _ :: Fact.lit _ :: Fact.lit _ :: Fact.lit _ :: Fact.prop _ _ :: Fact.lit _ :: Fact.lit _ :: Fact.lit _ :: Fact.lit _ :: Fact.lit _ :: Fact.prop _ _ :: Fact.lit _ :: Fact.prop _ _ :: Fact.lit _ :: Fact.lit _ :: Fact.lit _ :: Fact.lit _ :: []) (by kernel_rfl) rfl (by kernel_rfl) (Below.refl _ _).drew ?seqfin4
  case' seqfin4 => skip
  (first | (refine' grow_skip rfl ?wt52 ?put52 ?next52; (case wt52 => rfl)) | (refine' grow_lit rfl ?wt52 ?run52 ?put52 ?next52; (case wt52 => rfl); (case run52 => (intro w' hS H; clear H; (obtain ⟨a0, a1, a2, -, -, -⟩ := (KA.out.keep hS).o3); (obtain ⟨m0, m1, m2, -, -, -⟩ := (KM.out.keep hS).o3); (obtain ⟨g0, g1, -, -⟩ := (KW.out.keep hS).o2); clear hS; go_simp; first | done | exact rfl)))); (case put52 => (simp only [Act.put, List.setIfInBounds_toArray, List.set_cons_zero, List.set_cons_succ]; first | done | exact rfl)); (case' next52 => skip)
  (refine' grow_callP (p := fun v w => NetV w v ⟨n.v, n.a, n.t ++ [(1, 17 + by_, [])]⟩) (hp := fun v w w' h hb => h.below hb) rfl Tryd.func14 (by kernel_rfl) rfl hGS rfl ?wt146 ?run146 ?put146 ?next146; (case wt146 => rfl); (case run146 => (intro w' hS H; exact vto (VM.out.below hS) BT.out.v BT.out.a BT.out.t BT.out.c)); (case put146 => (intro v; simp only [Act.put, List.setIfInBounds_toArray, List.set_cons_zero, List.set_cons_succ]; first | done | exact rfl)); (case' next146 => intro v1))
  (refine' grow_callP (p := fun v w => FaultV w v ([(typeB, (n.t.length : Int)), (turnB, 1)] : List (ByteArray × Int)) 1) (hp := fun v w w' h hb => h.below hb) rfl Tryd.func13 (by kernel_rfl) rfl hGS rfl ?wt147 ?run147 ?put147 ?next147; (case wt147 => rfl); (case run147 => (intro w' hS H; (have h1 : NetV w' v1 ⟨n.v, n.a, n.t ++ [(1, 17 + by_, [])]⟩ := H 1 (by decide)); exact vcheckE h1 BT.out.small BT.out.inn BT.out.chk)); (case put147 => (intro v; simp only [Act.put, List.setIfInBounds_toArray, List.set_cons_zero, List.set_cons_succ]; first | done | exact rfl)); (case' next147 => intro v2))
  (first | (refine' grow_skip rfl ?wt53 ?put53 ?next53; (case wt53 => rfl)) | (refine' grow_lit rfl ?wt53 ?run53 ?put53 ?next53; (case wt53 => rfl); (case run53 => (intro w' hS H; clear H; (obtain ⟨a0, a1, a2, -, -, -⟩ := (KA.out.keep hS).o3); (obtain ⟨m0, m1, m2, -, -, -⟩ := (KM.out.keep hS).o3); (obtain ⟨g0, g1, -, -⟩ := (KW.out.keep hS).o2); clear hS; go_simp; first | done | exact rfl)))); (case put53 => (simp only [Act.put, List.setIfInBounds_toArray, List.set_cons_zero, List.set_cons_succ]; first | done | exact rfl)); (case' next53 => skip)
  (refine' grow_call (u := .bool true) rfl Tryd.func12 (by kernel_rfl) rfl hGS rfl ?wt148 ?run148 ?put148 ?next148; (case wt148 => rfl); (case run148 => (intro w' hS H; exact tells_post _ _ ([(typeB, (n.t.length : Int)), (turnB, 1)] : List (ByteArray × Int)) 1 w' (HG.out.keep hS) (H 2 (by decide)) (WG.out.below hS) (Or.inr (by simp)))); (case put148 => (simp only [Act.put, List.setIfInBounds_toArray, List.set_cons_zero, List.set_cons_succ]; first | done | exact rfl)); (case' next148 => skip))
  (first | (refine' grow_skip rfl ?wt54 ?put54 ?next54; (case wt54 => rfl)) | (refine' grow_lit rfl ?wt54 ?run54 ?put54 ?next54; (case wt54 => rfl); (case run54 => (intro w' hS H; clear H; (obtain ⟨a0, a1, a2, -, -, -⟩ := (KA.out.keep hS).o3); (obtain ⟨m0, m1, m2, -, -, -⟩ := (KM.out.keep hS).o3); (obtain ⟨g0, g1, -, -⟩ := (KW.out.keep hS).o2); clear hS; go_simp; first | done | exact rfl)))); (case put54 => (simp only [Act.put, List.setIfInBounds_toArray, List.set_cons_zero, List.set_cons_succ]; first | done | exact rfl)); (case' next54 => skip)
  (first | (refine' grow_skip rfl ?wt55 ?put55 ?next55; (case wt55 => rfl)) | (refine' grow_lit rfl ?wt55 ?run55 ?put55 ?next55; (case wt55 => rfl); (case run55 => (intro w' hS H; clear H; (obtain ⟨a0, a1, a2, -, -, -⟩ := (KA.out.keep hS).o3); (obtain ⟨m0, m1, m2, -, -, -⟩ := (KM.out.keep hS).o3); (obtain ⟨g0, g1, -, -⟩ := (KW.out.keep hS).o2); clear hS; go_simp; first | done | exact rfl)))); (case put55 => (simp only [Act.put, List.setIfInBounds_toArray, List.set_cons_zero, List.set_cons_succ]; first | done | exact rfl)); (case' next55 => skip)
  (refine' grow_callP (p := fun v w => NetV w v n) (hp := fun v w w' h hb => h.below hb) rfl Tryd.func14 (by kernel_rfl) rfl hGS rfl ?wt149 ?run149 ?put149 ?next149; (case wt149 => rfl); (case run149 => (intro w' hS H; exact vtoF (VA.out.below hS) F1.out)); (case put149 => (intro v; simp only [Act.put, List.setIfInBounds_toArray, List.set_cons_zero, List.set_cons_succ]; first | done | exact rfl)); (case' next149 => intro v7))
  (refine' grow_call (u := .nilIface) rfl Tryd.func13 (by kernel_rfl) rfl hGS rfl ?wt150 ?run150 ?put150 ?next150; (case wt150 => rfl); (case run150 => (intro w' hS H; (have h4 : NetV w' v7 n := H 7 (by decide)); exact vcheck0 h4 F1.out.small HIN.out OK.out)); (case put150 => (simp only [Act.put, List.setIfInBounds_toArray, List.set_cons_zero, List.set_cons_succ]; first | done | exact rfl)); (case' next150 => skip))
  (first | (refine' grow_skip rfl ?wt56 ?put56 ?next56; (case wt56 => rfl)) | (refine' grow_lit rfl ?wt56 ?run56 ?put56 ?next56; (case wt56 => rfl); (case run56 => (intro w' hS H; clear H; (obtain ⟨a0, a1, a2, -, -, -⟩ := (KA.out.keep hS).o3); (obtain ⟨m0, m1, m2, -, -, -⟩ := (KM.out.keep hS).o3); (obtain ⟨g0, g1, -, -⟩ := (KW.out.keep hS).o2); clear hS; go_simp; first | done | exact rfl)))); (case put56 => (simp only [Act.put, List.setIfInBounds_toArray, List.set_cons_zero, List.set_cons_succ]; first | done | exact rfl)); (case' next56 => skip)
  (first | (refine' grow_skip rfl ?wt57 ?put57 ?next57; (case wt57 => rfl)) | (refine' grow_lit rfl ?wt57 ?run57 ?put57 ?next57; (case wt57 => rfl); (case run57 => (intro w' hS H; clear H; (obtain ⟨a0, a1, a2, -, -, -⟩ := (KA.out.keep hS).o3); (obtain ⟨m0, m1, m2, -, -, -⟩ := (KM.out.keep hS).o3); (obtain ⟨g0, g1, -, -⟩ := (KW.out.keep hS).o2); clear hS; go_simp; first | done | exact rfl)))); (case put57 => (simp only [Act.put, List.setIfInBounds_toArray, List.set_cons_zero, List.set_cons_succ]; first | done | exact rfl)); (case' next57 => skip)
  (first | (refine' grow_skip rfl ?wt58 ?put58 ?next58; (case wt58 => rfl)) | (refine' grow_lit rfl ?wt58 ?run58 ?put58 ?next58; (case wt58 => rfl); (case run58 => (intro w' hS H; clear H; (obtain ⟨a0, a1, a2, -, -, -⟩ := (KA.out.keep hS).o3); (obtain ⟨m0, m1, m2, -, -, -⟩ := (KM.out.keep hS).o3); (obtain ⟨g0, g1, -, -⟩ := (KW.out.keep hS).o2); clear hS; go_simp; first | done | exact rfl)))); (case put58 => (simp only [Act.put, List.setIfInBounds_toArray, List.set_cons_zero, List.set_cons_succ]; first | done | exact rfl)); (case' next58 => skip)
  (first | (refine' grow_skip rfl ?wt59 ?put59 ?next59; (case wt59 => rfl)) | (refine' grow_lit rfl ?wt59 ?run59 ?put59 ?next59; (case wt59 => rfl); (case run59 => (intro w' hS H; clear H; (obtain ⟨a0, a1, a2, -, -, -⟩ := (KA.out.keep hS).o3); (obtain ⟨m0, m1, m2, -, -, -⟩ := (KM.out.keep hS).o3); (obtain ⟨g0, g1, -, -⟩ := (KW.out.keep hS).o2); clear hS; go_simp; first | done | exact rfl)))); (case put59 => (simp only [Act.put, List.setIfInBounds_toArray, List.set_cons_zero, List.set_cons_succ]; first | done | exact rfl)); (case' next59 => skip)
  (refine' grow_callP (p := fun v w => NetV w v n) (hp := fun v w w' h hb => h.below hb) rfl Tryd.func14 (by kernel_rfl) rfl hGS rfl ?wt151 ?run151 ?put151 ?next151; (case wt151 => rfl); (case run151 => (intro w' hS H; exact vtoF (VA.out.below hS) F1.out)); (case put151 => (intro v; simp only [Act.put, List.setIfInBounds_toArray, List.set_cons_zero, List.set_cons_succ]; first | done | exact rfl)); (case' next151 => intro v13))
  (first | (refine' grow_skip rfl ?wt60 ?put60 ?next60; (case wt60 => rfl)) | (refine' grow_lit rfl ?wt60 ?run60 ?put60 ?next60; (case wt60 => rfl); (case run60 => (intro w' hS H; clear H; (obtain ⟨a0, a1, a2, -, -, -⟩ := (KA.out.keep hS).o3); (obtain ⟨m0, m1, m2, -, -, -⟩ := (KM.out.keep hS).o3); (obtain ⟨g0, g1, -, -⟩ := (KW.out.keep hS).o2); clear hS; go_simp; first | done | exact rfl)))); (case put60 => (simp only [Act.put, List.setIfInBounds_toArray, List.set_cons_zero, List.set_cons_succ]; first | done | exact rfl)); (case' next60 => skip)
  (refine' grow_callP (p := fun v w => NetV w v ⟨n.v, n.a, n.t ++ [(1, 17 + by_, [])]⟩) (hp := fun v w w' h hb => h.below hb) rfl Tryd.func14 (by kernel_rfl) rfl hGS rfl ?wt152 ?run152 ?put152 ?next152; (case wt152 => rfl); (case run152 => (intro w' hS H; exact vto (VM.out.below hS) BT.out.v BT.out.a BT.out.t BT.out.c)); (case put152 => (intro v; simp only [Act.put, List.setIfInBounds_toArray, List.set_cons_zero, List.set_cons_succ]; first | done | exact rfl)); (case' next152 => intro v15))
  (refine' grow_call (u := .bool false) rfl Tryd.func16 (by kernel_rfl) rfl hGS rfl ?wt153 ?run153 ?put153 ?next153; (case wt153 => rfl); (case run153 => (intro w' hS H; (have h6 : NetV w' v13 n := H 13 (by decide)); (have h7 : NetV w' v15 ⟨n.v, n.a, n.t ++ [(1, 17 + by_, [])]⟩ := H 15 (by decide)); exact vsame h6 h7 BT.out.ne)); (case put153 => (simp only [Act.put, List.setIfInBounds_toArray, List.set_cons_zero, List.set_cons_succ]; first | done | exact rfl)); (case' next153 => skip))
  (first | (refine' grow_skip rfl ?wt61 ?put61 ?next61; (case wt61 => rfl)) | (refine' grow_lit rfl ?wt61 ?run61 ?put61 ?next61; (case wt61 => rfl); (case run61 => (intro w' hS H; clear H; (obtain ⟨a0, a1, a2, -, -, -⟩ := (KA.out.keep hS).o3); (obtain ⟨m0, m1, m2, -, -, -⟩ := (KM.out.keep hS).o3); (obtain ⟨g0, g1, -, -⟩ := (KW.out.keep hS).o2); clear hS; go_simp; first | done | exact rfl)))); (case put61 => (simp only [Act.put, List.setIfInBounds_toArray, List.set_cons_zero, List.set_cons_succ]; first | done | exact rfl)); (case' next61 => skip)
  (first | (refine' grow_skip rfl ?wt62 ?put62 ?next62; (case wt62 => rfl)) | (refine' grow_lit rfl ?wt62 ?run62 ?put62 ?next62; (case wt62 => rfl); (case run62 => (intro w' hS H; clear H; (obtain ⟨a0, a1, a2, -, -, -⟩ := (KA.out.keep hS).o3); (obtain ⟨m0, m1, m2, -, -, -⟩ := (KM.out.keep hS).o3); (obtain ⟨g0, g1, -, -⟩ := (KW.out.keep hS).o2); clear hS; go_simp; first | done | exact rfl)))); (case put62 => (simp only [Act.put, List.setIfInBounds_toArray, List.set_cons_zero, List.set_cons_succ]; first | done | exact rfl)); (case' next62 => skip)
  (first | (refine' grow_skip rfl ?wt63 ?put63 ?next63; (case wt63 => rfl)) | (refine' grow_lit rfl ?wt63 ?run63 ?put63 ?next63; (case wt63 => rfl); (case run63 => (intro w' hS H; clear H; (obtain ⟨a0, a1, a2, -, -, -⟩ := (KA.out.keep hS).o3); (obtain ⟨m0, m1, m2, -, -, -⟩ := (KM.out.keep hS).o3); (obtain ⟨g0, g1, -, -⟩ := (KW.out.keep hS).o2); clear hS; go_simp; first | done | exact rfl)))); (case put63 => (simp only [Act.put, List.setIfInBounds_toArray, List.set_cons_zero, List.set_cons_succ]; first | done | exact rfl)); (case' next63 => skip)
  intro w9 hb _
  have HF := Lib.hid (B0.out.trans (hb.mono B0.out.size))
  clear hb hGS
  go_wp2_with fail
  go_ret
  exact ⟨rfl, HF.out⟩

set_option maxHeartbeats 8000000 in
set_option maxRecDepth 100000 in
theorem bent_5a (v : Value) (n : NetD) (wh at_ by_ : Int) (kv ka : Nat) (w : World) (hg : ErrT w) (hv : NetV w v n) (hin : InNet n) (hm : mayN n = true) (hkv : kv < n.v.length) (hka : ka < n.a.length) (hmv : at_.tmod (n.v.length : Int) = kv) (hma : at_.tmod (n.a.length : Int) = ka) (ha0 : 0 ≤ at_) (ha1 : at_ ≤ 65535) (hwh : wh.tmod 6 = 5) (kt : Nat) (hkt : kt < n.t.length) (ekt : n.v[kv].2.2 = kt) (I O : Int) (eT : n.t[kt].1 = I) (eO : n.t[kt].2.1 = O) (J : Int) (eJ : I + 1 = J) (hO0 : O = 0) :
    Calls Tryd.prog 8 #[v, .int .u8 wh, .int .u16 at_, .int .u16 by_] w fun e w' => e = .returned (.bool true) ∧ Below w.heap.size w w' := by
  obtain ⟨vq, aq, tq, vc, ac, tc, rfl, -⟩ := hv.shape
  have HM := Lib.hid hm
  obtain ⟨hf, hk, hgd⟩ := may_of hm
  obtain ⟨q0', q1', q2', q3', -, -⟩ := chkT_ok (I := n.t[kt].1) (O := n.t[kt].2.1) (l := n.t[kt].2.2) (by rw [hgd.tabs kt hkt])
  have hcc : ∀ t ∈ n.t.set kt (n.t[kt].1 + 1, n.t[kt].2), t.2.2.length ≤ 1000 := fun t ht => by
    rcases List.mem_or_eq_of_mem_set ht with h | rfl
    · have := hf.c t h; omega
    · have := hf.c n.t[kt] (List.getElem_mem _); simp only []; omega
  rw [eT] at q0' q1' hcc
  rw [eJ] at hcc
  have HI16 := Lib.hid (And.intro q0' q1')
  have CC := Lib.hid hcc
  clear q0' q1' q2' q3' hcc
  have F1 := Lib.hid hf
  have OK := Lib.hid hk
  have GD := Lib.hid hgd
  have HIN := Lib.hid hin
  have d1 : ((n.v.length : Int) == 0) = false := beq_eq_false_iff_ne.2 (by omega)
  have d2 : ((n.a.length : Int) == 0) = false := beq_eq_false_iff_ne.2 (by omega)
  have hz1 : ¬ (n.v.length : Int) = 0 := by omega
  have hz2 : ¬ (n.a.length : Int) = 0 := by omega
  clear hm hin hf hk hgd
  go_enter Tryd.func8, Tryd.ntmps8
  go_wp2_with fail
  obtain ⟨W0, hW0⟩ := named (w.alloc (.cells #[.slice vq n.v.length vc, .slice aq n.a.length ac, .slice tq n.t.length tc] 26))
  rw [← hW0]
  have hc0 : Below w.heap.size w W0 := by rw [hW0]; exact below_alloc1 _
  have B0 := Lib.hid hc0
  have KA : Hid (Blk W0 (w.heap.size) #[.slice vq n.v.length vc, .slice aq n.a.length ac, .slice tq n.t.length tc] 26) := by rw [hW0]; exact Lib.hid (Blk.new _ _ _ _ rfl)
  have VA := Lib.hid (hv.below hc0)
  have HG := Lib.hid (hg.keep hc0)
  clear hc0 hW0 hv hg
  refine (known3_any _ HG.out).mono ?_
  rintro e w1 ⟨rfl, hb⟩
  obtain ⟨p0, p1, p2, -, -, -⟩ := (KA.out.keep hb).o3
  go_wp2_with fail
  clear p0 p1 p2
  have hd1 : Below W0.heap.size W0 w1 := hb
  have KA_ := Lib.hid (KA.out.keep hd1)
  have VA_ := Lib.hid (VA.out.below hd1)
  have HG_ := Lib.hid (HG.out.keep hd1)
  clear KA VA HG
  have KA := KA_
  have VA := VA_
  have HG := HG_
  clear KA_ VA_ HG_
  have B1 : Hid (Below w.heap.size w w1) := Lib.hid (B0.out.trans (hd1.mono B0.out.size))
  clear B0
  have B0 := B1
  clear B1
  clear hb hd1 
  refine (vmay VA.out HIN.out HM.out).mono ?_
  rintro e w2 ⟨rfl, hb⟩
  obtain ⟨p0, p1, p2, -, -, -⟩ := (KA.out.keep hb).o3
  go_wp2_with fail
  clear p0 p1 p2
  have hd2 : Below w1.heap.size w1 w2 := hb
  have KA_ := Lib.hid (KA.out.keep hd2)
  have VA_ := Lib.hid (VA.out.below hd2)
  have HG_ := Lib.hid (HG.out.keep hd2)
  clear KA VA HG
  have KA := KA_
  have VA := VA_
  have HG := HG_
  clear KA_ VA_ HG_
  have B1 : Hid (Below w.heap.size w w2) := Lib.hid (B0.out.trans (hd2.mono B0.out.size))
  clear B0
  have B0 := B1
  clear B1
  clear hb hd2 
  obtain ⟨w2_, hw2_⟩ : ∃ W, W = w2 := ⟨_, rfl⟩
  have HS2 := Lib.hid (NetV.s VA.out)
  refine (copynet_any n vq aq tq vc ac tc _ HS2.out (by have := F1.out.v; omega) (by have := F1.out.a; omega) (by have := F1.out.t; omega) (fun t ht => by have := F1.out.c t ht; omega)).mono ?_
  rintro e w3 ⟨q0, c0, q1, c1, q2, c2, us, rfl, hO, hb⟩
  have HO3 := Lib.hid hO
  have HB3 := Lib.hid hb
  clear hO hb hw2_
  go_upto_region 10 with (fail)
  obtain ⟨W, hW⟩ := named ((w3.alloc (.cells #[.slice q0 n.v.length c0, .slice q1 n.a.length c1, .slice q2 n.t.length c2] 26)).alloc (.cells #[.slice none 0 0, .int .i64 0] 41))
  rw [← hW]
  have hbW : Below w3.heap.size w3 W := by rw [hW]; exact below_alloc2 _ _
  have HO := Lib.hid (HO3.out.below hbW)
  have KM : Hid (Blk W w3.heap.size #[.slice q0 n.v.length c0, .slice q1 n.a.length c1, .slice q2 n.t.length c2] 26) := by rw [hW]; exact Lib.hid ((Blk.new _ _ _ _ rfl).old _)
  have KW : Hid (Blk W (w3.heap.size + 1) #[.slice none 0 0, .int .i64 0] 41) := by rw [hW]; exact Lib.hid (Blk.new _ _ _ _ (by simp))
  have BB := Lib.hid (HB3.out.trans (hbW.mono HB3.out.size))
  have z23 := HB3.out.size
  have Z3 := Lib.hid z23
  clear hW hbW HO3 HB3 z23
  have hO1 : (O == 0) = true := by simp [hO0]
  have h3 := Z3.out
  obtain ⟨vg, vo, rfl, -, -, xt⟩ := (tris_of_owns HO.out.v (by have := F1.out.v; omega)).at hkv
  have hvg := World.block_lt_of_cell? W _ xt
  rw [ekt] at xt
  obtain ⟨g, rfl, hbg, hgl, xc, -, -, -⟩ := (HO.out.tab hkt (x := J) (old := .int .i64 I) (by rw [(flatB_at n.t us kt hkt (by have := HO.out.r.1; omega)).1, eT])).is
  have XC := Lib.hid xc
  have HGL := Lib.hid hgl
  have hvi : (kv : Int) < (n.v.length : Int) := by omega
  have hti : (kt : Int) < (n.t.length : Int) := by omega
  have hI2 : I ≤ 16 := HI16.out.2
  have hI1 : 0 ≤ I := HI16.out.1
  have HJ := Lib.hid (And.intro eJ (show IntKind.i64.wrap J = J from IntWalk.i64_in _ ⟨by omega, by omega⟩))
  clear eJ
  obtain ⟨m0, m1, m2, -, -, -⟩ := KM.out.o3
  clear xc hgl
  go_wp2_with fail
  clear m0 m1 m2 xt hvg
  have hGS : Grows (fun w' => Below W.heap.size W w') := Grows.below W
  refine' wp_thenL _ 12 (fun w' => Below W.heap.size W w') [[], [0], [], [], [3], [], [3, 4, 5], [3, 4, 5, 6], [3, 4, 5, 6, 7], [3, 4, 5, 6, 7, 8], [0, 1, 2], [0, 1, 2, 10]] (Fact.lit _ :: Fact.lit _ :: Fact.lit _ :: Fact.lit _ :: Fact.lit _ :: Fact.lit _ :: Fact.lit _ :: Fact.lit _ :: Fact.lit _ :: Fact.lit _ :: Fact.lit _ :: Fact.lit _ :: []) (by kernel_rfl) rfl (by kernel_rfl) (Below.refl _ _).drew ?seqel
  case' seqel => skip
  (first | (refine' grow_skip rfl ?wt64 ?put64 ?next64; (case wt64 => rfl)) | (refine' grow_lit rfl ?wt64 ?run64 ?put64 ?next64; (case wt64 => rfl); (case run64 => (intro w' hS H; clear H; (obtain ⟨m0, m1, m2, -, -, -⟩ := (KM.out.keep hS).o3); (have xc := keep hS XC.out); (have hgl := HGL.out); (obtain ⟨hj, hw⟩ := HJ.out); clear hS; go_simp; first | done | exact rfl)))); (case put64 => (simp only [Act.put, List.setIfInBounds_toArray, List.set_cons_zero, List.set_cons_succ]; first | done | exact rfl)); (case' next64 => skip)
  (first | (refine' grow_skip rfl ?wt65 ?put65 ?next65; (case wt65 => rfl)) | (refine' grow_lit rfl ?wt65 ?run65 ?put65 ?next65; (case wt65 => rfl); (case run65 => (intro w' hS H; clear H; (obtain ⟨m0, m1, m2, -, -, -⟩ := (KM.out.keep hS).o3); (have xc := keep hS XC.out); (have hgl := HGL.out); (obtain ⟨hj, hw⟩ := HJ.out); clear hS; go_simp; first | done | exact rfl)))); (case put65 => (simp only [Act.put, List.setIfInBounds_toArray, List.set_cons_zero, List.set_cons_succ]; first | done | exact rfl)); (case' next65 => skip)
  (first | (refine' grow_skip rfl ?wt66 ?put66 ?next66; (case wt66 => rfl)) | (refine' grow_lit rfl ?wt66 ?run66 ?put66 ?next66; (case wt66 => rfl); (case run66 => (intro w' hS H; clear H; (obtain ⟨m0, m1, m2, -, -, -⟩ := (KM.out.keep hS).o3); (have xc := keep hS XC.out); (have hgl := HGL.out); (obtain ⟨hj, hw⟩ := HJ.out); clear hS; go_simp; first | done | exact rfl)))); (case put66 => (simp only [Act.put, List.setIfInBounds_toArray, List.set_cons_zero, List.set_cons_succ]; first | done | exact rfl)); (case' next66 => skip)
  (first | (refine' grow_skip rfl ?wt67 ?put67 ?next67; (case wt67 => rfl)) | (refine' grow_lit rfl ?wt67 ?run67 ?put67 ?next67; (case wt67 => rfl); (case run67 => (intro w' hS H; clear H; (obtain ⟨m0, m1, m2, -, -, -⟩ := (KM.out.keep hS).o3); (have xc := keep hS XC.out); (have hgl := HGL.out); (obtain ⟨hj, hw⟩ := HJ.out); clear hS; go_simp; first | done | exact rfl)))); (case put67 => (simp only [Act.put, List.setIfInBounds_toArray, List.set_cons_zero, List.set_cons_succ]; first | done | exact rfl)); (case' next67 => skip)
  (first | (refine' grow_skip rfl ?wt68 ?put68 ?next68; (case wt68 => rfl)) | (refine' grow_lit rfl ?wt68 ?run68 ?put68 ?next68; (case wt68 => rfl); (case run68 => (intro w' hS H; clear H; (obtain ⟨m0, m1, m2, -, -, -⟩ := (KM.out.keep hS).o3); (have xc := keep hS XC.out); (have hgl := HGL.out); (obtain ⟨hj, hw⟩ := HJ.out); clear hS; go_simp; first | done | exact rfl)))); (case put68 => (simp only [Act.put, List.setIfInBounds_toArray, List.set_cons_zero, List.set_cons_succ]; first | done | exact rfl)); (case' next68 => skip)
  (first | (refine' grow_skip rfl ?wt69 ?put69 ?next69; (case wt69 => rfl)) | (refine' grow_lit rfl ?wt69 ?run69 ?put69 ?next69; (case wt69 => rfl); (case run69 => (intro w' hS H; clear H; (obtain ⟨m0, m1, m2, -, -, -⟩ := (KM.out.keep hS).o3); (have xc := keep hS XC.out); (have hgl := HGL.out); (obtain ⟨hj, hw⟩ := HJ.out); clear hS; go_simp; first | done | exact rfl)))); (case put69 => (simp only [Act.put, List.setIfInBounds_toArray, List.set_cons_zero, List.set_cons_succ]; first | done | exact rfl)); (case' next69 => skip)
  (first | (refine' grow_skip rfl ?wt70 ?put70 ?next70; (case wt70 => rfl)) | (refine' grow_lit rfl ?wt70 ?run70 ?put70 ?next70; (case wt70 => rfl); (case run70 => (intro w' hS H; clear H; (obtain ⟨m0, m1, m2, -, -, -⟩ := (KM.out.keep hS).o3); (have xc := keep hS XC.out); (have hgl := HGL.out); (obtain ⟨hj, hw⟩ := HJ.out); clear hS; go_simp; first | done | exact rfl)))); (case put70 => (simp only [Act.put, List.setIfInBounds_toArray, List.set_cons_zero, List.set_cons_succ]; first | done | exact rfl)); (case' next70 => skip)
  (first | (refine' grow_skip rfl ?wt71 ?put71 ?next71; (case wt71 => rfl)) | (refine' grow_lit rfl ?wt71 ?run71 ?put71 ?next71; (case wt71 => rfl); (case run71 => (intro w' hS H; clear H; (obtain ⟨m0, m1, m2, -, -, -⟩ := (KM.out.keep hS).o3); (have xc := keep hS XC.out); (have hgl := HGL.out); (obtain ⟨hj, hw⟩ := HJ.out); clear hS; go_simp; first | done | exact rfl)))); (case put71 => (simp only [Act.put, List.setIfInBounds_toArray, List.set_cons_zero, List.set_cons_succ]; first | done | exact rfl)); (case' next71 => skip)
  (first | (refine' grow_skip rfl ?wt72 ?put72 ?next72; (case wt72 => rfl)) | (refine' grow_lit rfl ?wt72 ?run72 ?put72 ?next72; (case wt72 => rfl); (case run72 => (intro w' hS H; clear H; (obtain ⟨m0, m1, m2, -, -, -⟩ := (KM.out.keep hS).o3); (have xc := keep hS XC.out); (have hgl := HGL.out); (obtain ⟨hj, hw⟩ := HJ.out); clear hS; go_simp; first | done | exact rfl)))); (case put72 => (simp only [Act.put, List.setIfInBounds_toArray, List.set_cons_zero, List.set_cons_succ]; first | done | exact rfl)); (case' next72 => skip)
  (first | (refine' grow_skip rfl ?wt73 ?put73 ?next73; (case wt73 => rfl)) | (refine' grow_lit rfl ?wt73 ?run73 ?put73 ?next73; (case wt73 => rfl); (case run73 => (intro w' hS H; clear H; (obtain ⟨m0, m1, m2, -, -, -⟩ := (KM.out.keep hS).o3); (have xc := keep hS XC.out); (have hgl := HGL.out); (obtain ⟨hj, hw⟩ := HJ.out); clear hS; go_simp; first | done | exact rfl)))); (case put73 => (simp only [Act.put, List.setIfInBounds_toArray, List.set_cons_zero, List.set_cons_succ]; first | done | exact rfl)); (case' next73 => skip)
  (first | (refine' grow_skip rfl ?wt74 ?put74 ?next74; (case wt74 => rfl)) | (refine' grow_lit rfl ?wt74 ?run74 ?put74 ?next74; (case wt74 => rfl); (case run74 => (intro w' hS H; clear H; (obtain ⟨m0, m1, m2, -, -, -⟩ := (KM.out.keep hS).o3); (have xc := keep hS XC.out); (have hgl := HGL.out); (obtain ⟨hj, hw⟩ := HJ.out); clear hS; go_simp; first | done | exact rfl)))); (case put74 => (simp only [Act.put, List.setIfInBounds_toArray, List.set_cons_zero, List.set_cons_succ]; first | done | exact rfl)); (case' next74 => skip)
  (first | (refine' grow_skip rfl ?wt75 ?put75 ?next75; (case wt75 => rfl)) | (refine' grow_lit rfl ?wt75 ?run75 ?put75 ?next75; (case wt75 => rfl); (case run75 => (intro w' hS H; clear H; (obtain ⟨m0, m1, m2, -, -, -⟩ := (KM.out.keep hS).o3); (have xc := keep hS XC.out); (have hgl := HGL.out); (obtain ⟨hj, hw⟩ := HJ.out); clear hS; go_simp; first | done | exact rfl)))); (case put75 => (simp only [Act.put, List.setIfInBounds_toArray, List.set_cons_zero, List.set_cons_succ]; first | done | exact rfl)); (case' next75 => skip)
  intro w9 hb _
  obtain ⟨g', eg, -, hgl, xc, xf, hO1, hBl⟩ := ((HO.out.below hb).tab hkt (x := J) (old := .int .i64 I) (by rw [(flatB_at n.t us kt hkt (by have := HO.out.r.1; omega)).1, eT])).is
  cases eg
  have HO1 := Lib.hid hO1
  have KM2 := Lib.hid (hBl _ _ _ (KM.out.keep hb) (by decide) (by decide) (by decide))
  have KW2 := Lib.hid (hBl _ _ _ (KW.out.keep hb) (by decide) (by decide) (by decide))
  have bb := Lib.hid ((BB.out.trans (hb.mono BB.out.size)).setCell (p := ⟨g, kt * 3, none⟩) hbg (.int .i64 J))
  refine wpAny_ready (rs := [12]) (by kernel_rfl) (by simp) (AllReady.cons rfl (fun K hK => ?_) AllReady.nil)
  go_simp
  refine hK _ _ ?_
  clear hK K
  refine wpAny_done (by kernel_rfl) ?_ _
  obtain ⟨W1, hW1⟩ := named (w9.setCell ⟨g, kt * 3, none⟩ (.int .i64 J))
  rw [← hW1] at HO1 KM2 KW2 bb ⊢
  clear xc xf hO1 hBl hb hGS KM KW HO BB hW1 XC HGL hgl hbg
  have KM := KM2
  have KW := KW2
  have HO := HO1
  have BB := bb
  clear KM2 KW2 HO1 bb
  go_wp2_with fail
  refine (at_post turnB 2 9 _).mono ?_
  rintro e w5 ⟨wv, rfl, hW5, hb⟩
  obtain ⟨eq, en, ec, rfl⟩ := hW5.shape
  have KM2 := Lib.hid (KM.out.keep hb)
  have KW2 := Lib.hid (KW.out.keep hb)
  have HO2 := Lib.hid (HO.out.below hb)
  have BB2 := Lib.hid (BB.out.trans (hb.mono BB.out.size))
  have HW5 := Lib.hid hW5
  clear hW5 hb KM KW HO BB h3
  have KM := KM2
  have KW := KW2
  have HO := HO2
  have BB := BB2
  clear KM2 KW2 HO2 BB2
  go_wp2_with fail
  refine (rwithin_any typeB (kt : Int) _ [(turnB, 2)] 9 _ HW5.out (by simp) (by decide) (by simp)).mono ?_
  rintro e w4 ⟨wv, rfl, hW4, hb⟩
  obtain ⟨fq, fn, fc, rfl⟩ := hW4.shape
  have kw := KW.out.keep hb
  have km := KM.out.keep hb
  have ho := HO.out.below hb
  have hlw := kw.lt
  have hlz := KW.out.lt
  have h3 := Z3.out
  obtain ⟨g0, g1, f0, f1⟩ := kw.o2
  obtain ⟨WE, hWE⟩ := named ((w4.setCell ⟨w3.heap.size + 1, 0, none⟩ (.slice fq fn fc)).setCell ⟨w3.heap.size + 1, 1, none⟩ (.int .i64 9))
  have bb : Hid (Below w2.heap.size w2 WE) := by
    rw [hWE]
    refine Lib.hid ?_
    iterate 2 (refine Below.setCell ?_ (by simp only []; omega) _)
    exact BB.out.trans (hb.mono BB.out.size)
  have WG : Hid (WrongV WE (.agg #[.slice fq fn fc, .int .i64 9]) [(typeB, (kt : Int)), (turnB, 2)] 9) := by rw [hWE]; exact Lib.hid (wrong_set kw (fun s => by simp) (fun s => by simp) hW4 (.slice fq fn fc) (.int .i64 9))
  have KW2 : Hid (Blk WE (w3.heap.size + 1) #[.slice fq fn fc, .int .i64 9] 41) := by rw [hWE]; exact Lib.hid (by simpa using (kw.set 0 (.slice fq fn fc)).set 1 (.int .i64 9))
  have KM2 := Lib.hid ((km.other (k := w3.heap.size + 1) 0 (.slice fq fn fc) (by omega)).other (k := w3.heap.size + 1) 1 (.int .i64 9) (by omega))
  have HO2 := Lib.hid ((ho.set kw (by decide) (by decide) (by decide) (by decide) 0 (.slice fq fn fc)).set (kw.set 0 _) (by decide) (by decide) (by decide) (by decide) 1 (.int .i64 9))
  rw [← hWE] at KM2 HO2
  have HWE := Lib.hid hWE
  obtain ⟨zt, zo, zu, ez, z0, z1, -, -⟩ := (tabs_of_owns HO2.out.t HO2.out.r (by have := F1.out.t; simp; omega) CC.out).at (k := kt) (by simpa using hkt)
  simp only [List.getElem_set_self] at z0 z1
  rw [eO] at z1
  cases ez
  rw [Nat.zero_add] at z0 z1
  have hzt := World.block_lt_of_cell? WE _ z0
  obtain ⟨k0, k1, k2, -, -, -⟩ := KM2.out.o3
  clear hW4 hb km ho hWE hlw hlz h3 KW KM HO BB
  have hfin := B0.out.trans (bb.out.mono B0.out.size)
  rw [HWE.out] at z0 z1 k0 k1 k2 hzt hfin
  go_wp2_with fail
  go_ret
  exact ⟨rfl, hfin⟩

set_option maxHeartbeats 8000000 in
set_option maxRecDepth 100000 in
theorem bent_5b (v : Value) (n : NetD) (wh at_ by_ : Int) (kv ka : Nat) (w : World) (hg : ErrT w) (hv : NetV w v n) (hin : InNet n) (hm : mayN n = true) (hkv : kv < n.v.length) (hka : ka < n.a.length) (hmv : at_.tmod (n.v.length : Int) = kv) (hma : at_.tmod (n.a.length : Int) = ka) (ha0 : 0 ≤ at_) (ha1 : at_ ≤ 65535) (hwh : wh.tmod 6 = 5) (kt : Nat) (hkt : kt < n.t.length) (ekt : n.v[kv].2.2 = kt) (I O : Int) (eT : n.t[kt].1 = I) (eO : n.t[kt].2.1 = O) (J : Int) (eJ : I + 1 = J) (hO0 : ¬ O = 0) (hI17 : 16 < J) :
    Calls Tryd.prog 8 #[v, .int .u8 wh, .int .u16 at_, .int .u16 by_] w fun e w' => e = .returned (.bool true) ∧ Below w.heap.size w w' := by
  obtain ⟨vq, aq, tq, vc, ac, tc, rfl, -⟩ := hv.shape
  have HM := Lib.hid hm
  obtain ⟨hf, hk, hgd⟩ := may_of hm
  obtain ⟨q0', q1', q2', q3', -, -⟩ := chkT_ok (I := n.t[kt].1) (O := n.t[kt].2.1) (l := n.t[kt].2.2) (by rw [hgd.tabs kt hkt])
  have hcc : ∀ t ∈ n.t.set kt (n.t[kt].1 + 1, n.t[kt].2), t.2.2.length ≤ 1000 := fun t ht => by
    rcases List.mem_or_eq_of_mem_set ht with h | rfl
    · have := hf.c t h; omega
    · have := hf.c n.t[kt] (List.getElem_mem _); simp only []; omega
  rw [eT] at q0' q1' hcc
  rw [eJ] at hcc
  have HI16 := Lib.hid (And.intro q0' q1')
  have CC := Lib.hid hcc
  clear q0' q1' q2' q3' hcc
  have F1 := Lib.hid hf
  have OK := Lib.hid hk
  have GD := Lib.hid hgd
  have HIN := Lib.hid hin
  have d1 : ((n.v.length : Int) == 0) = false := beq_eq_false_iff_ne.2 (by omega)
  have d2 : ((n.a.length : Int) == 0) = false := beq_eq_false_iff_ne.2 (by omega)
  have hz1 : ¬ (n.v.length : Int) = 0 := by omega
  have hz2 : ¬ (n.a.length : Int) = 0 := by omega
  clear hm hin hf hk hgd
  go_enter Tryd.func8, Tryd.ntmps8
  go_wp2_with fail
  obtain ⟨W0, hW0⟩ := named (w.alloc (.cells #[.slice vq n.v.length vc, .slice aq n.a.length ac, .slice tq n.t.length tc] 26))
  rw [← hW0]
  have hc0 : Below w.heap.size w W0 := by rw [hW0]; exact below_alloc1 _
  have B0 := Lib.hid hc0
  have KA : Hid (Blk W0 (w.heap.size) #[.slice vq n.v.length vc, .slice aq n.a.length ac, .slice tq n.t.length tc] 26) := by rw [hW0]; exact Lib.hid (Blk.new _ _ _ _ rfl)
  have VA := Lib.hid (hv.below hc0)
  have HG := Lib.hid (hg.keep hc0)
  clear hc0 hW0 hv hg
  refine (known3_any _ HG.out).mono ?_
  rintro e w1 ⟨rfl, hb⟩
  obtain ⟨p0, p1, p2, -, -, -⟩ := (KA.out.keep hb).o3
  go_wp2_with fail
  clear p0 p1 p2
  have hd1 : Below W0.heap.size W0 w1 := hb
  have KA_ := Lib.hid (KA.out.keep hd1)
  have VA_ := Lib.hid (VA.out.below hd1)
  have HG_ := Lib.hid (HG.out.keep hd1)
  clear KA VA HG
  have KA := KA_
  have VA := VA_
  have HG := HG_
  clear KA_ VA_ HG_
  have B1 : Hid (Below w.heap.size w w1) := Lib.hid (B0.out.trans (hd1.mono B0.out.size))
  clear B0
  have B0 := B1
  clear B1
  clear hb hd1 
  refine (vmay VA.out HIN.out HM.out).mono ?_
  rintro e w2 ⟨rfl, hb⟩
  obtain ⟨p0, p1, p2, -, -, -⟩ := (KA.out.keep hb).o3
  go_wp2_with fail
  clear p0 p1 p2
  have hd2 : Below w1.heap.size w1 w2 := hb
  have KA_ := Lib.hid (KA.out.keep hd2)
  have VA_ := Lib.hid (VA.out.below hd2)
  have HG_ := Lib.hid (HG.out.keep hd2)
  clear KA VA HG
  have KA := KA_
  have VA := VA_
  have HG := HG_
  clear KA_ VA_ HG_
  have B1 : Hid (Below w.heap.size w w2) := Lib.hid (B0.out.trans (hd2.mono B0.out.size))
  clear B0
  have B0 := B1
  clear B1
  clear hb hd2 
  obtain ⟨w2_, hw2_⟩ : ∃ W, W = w2 := ⟨_, rfl⟩
  have HS2 := Lib.hid (NetV.s VA.out)
  refine (copynet_any n vq aq tq vc ac tc _ HS2.out (by have := F1.out.v; omega) (by have := F1.out.a; omega) (by have := F1.out.t; omega) (fun t ht => by have := F1.out.c t ht; omega)).mono ?_
  rintro e w3 ⟨q0, c0, q1, c1, q2, c2, us, rfl, hO, hb⟩
  have HO3 := Lib.hid hO
  have HB3 := Lib.hid hb
  clear hO hb hw2_
  go_upto_region 10 with (fail)
  obtain ⟨W, hW⟩ := named ((w3.alloc (.cells #[.slice q0 n.v.length c0, .slice q1 n.a.length c1, .slice q2 n.t.length c2] 26)).alloc (.cells #[.slice none 0 0, .int .i64 0] 41))
  rw [← hW]
  have hbW : Below w3.heap.size w3 W := by rw [hW]; exact below_alloc2 _ _
  have HO := Lib.hid (HO3.out.below hbW)
  have KM : Hid (Blk W w3.heap.size #[.slice q0 n.v.length c0, .slice q1 n.a.length c1, .slice q2 n.t.length c2] 26) := by rw [hW]; exact Lib.hid ((Blk.new _ _ _ _ rfl).old _)
  have KW : Hid (Blk W (w3.heap.size + 1) #[.slice none 0 0, .int .i64 0] 41) := by rw [hW]; exact Lib.hid (Blk.new _ _ _ _ (by simp))
  have BB := Lib.hid (HB3.out.trans (hbW.mono HB3.out.size))
  have z23 := HB3.out.size
  have Z3 := Lib.hid z23
  clear hW hbW HO3 HB3 z23
  have hO1 : (O == 0) = false := by simpa using hO0
  have hI3 : decide (16 < J) = true := decide_eq_true (by omega)
  have h3 := Z3.out
  obtain ⟨vg, vo, rfl, -, -, xt⟩ := (tris_of_owns HO.out.v (by have := F1.out.v; omega)).at hkv
  have hvg := World.block_lt_of_cell? W _ xt
  rw [ekt] at xt
  obtain ⟨g, rfl, hbg, hgl, xc, -, -, -⟩ := (HO.out.tab hkt (x := J) (old := .int .i64 I) (by rw [(flatB_at n.t us kt hkt (by have := HO.out.r.1; omega)).1, eT])).is
  have XC := Lib.hid xc
  have HGL := Lib.hid hgl
  have hvi : (kv : Int) < (n.v.length : Int) := by omega
  have hti : (kt : Int) < (n.t.length : Int) := by omega
  have hI2 : I ≤ 16 := HI16.out.2
  have hI1 : 0 ≤ I := HI16.out.1
  have HJ := Lib.hid (And.intro eJ (show IntKind.i64.wrap J = J from IntWalk.i64_in _ ⟨by omega, by omega⟩))
  clear eJ
  obtain ⟨m0, m1, m2, -, -, -⟩ := KM.out.o3
  clear xc hgl
  go_wp2_with fail
  clear m0 m1 m2 xt hvg
  have hGS : Grows (fun w' => Below W.heap.size W w') := Grows.below W
  refine' wp_thenL _ 12 (fun w' => Below W.heap.size W w') [[], [0], [], [], [3], [], [3, 4, 5], [3, 4, 5, 6], [3, 4, 5, 6, 7], [3, 4, 5, 6, 7, 8], [0, 1, 2], [0, 1, 2, 10]] (Fact.lit _ :: Fact.lit _ :: Fact.lit _ :: Fact.lit _ :: Fact.lit _ :: Fact.lit _ :: Fact.lit _ :: Fact.lit _ :: Fact.lit _ :: Fact.lit _ :: Fact.lit _ :: Fact.lit _ :: []) (by kernel_rfl) rfl (by kernel_rfl) (Below.refl _ _).drew ?seqel
  case' seqel => skip
  (first | (refine' grow_skip rfl ?wt76 ?put76 ?next76; (case wt76 => rfl)) | (refine' grow_lit rfl ?wt76 ?run76 ?put76 ?next76; (case wt76 => rfl); (case run76 => (intro w' hS H; clear H; (obtain ⟨m0, m1, m2, -, -, -⟩ := (KM.out.keep hS).o3); (have xc := keep hS XC.out); (have hgl := HGL.out); (obtain ⟨hj, hw⟩ := HJ.out); clear hS; go_simp; first | done | exact rfl)))); (case put76 => (simp only [Act.put, List.setIfInBounds_toArray, List.set_cons_zero, List.set_cons_succ]; first | done | exact rfl)); (case' next76 => skip)
  (first | (refine' grow_skip rfl ?wt77 ?put77 ?next77; (case wt77 => rfl)) | (refine' grow_lit rfl ?wt77 ?run77 ?put77 ?next77; (case wt77 => rfl); (case run77 => (intro w' hS H; clear H; (obtain ⟨m0, m1, m2, -, -, -⟩ := (KM.out.keep hS).o3); (have xc := keep hS XC.out); (have hgl := HGL.out); (obtain ⟨hj, hw⟩ := HJ.out); clear hS; go_simp; first | done | exact rfl)))); (case put77 => (simp only [Act.put, List.setIfInBounds_toArray, List.set_cons_zero, List.set_cons_succ]; first | done | exact rfl)); (case' next77 => skip)
  (first | (refine' grow_skip rfl ?wt78 ?put78 ?next78; (case wt78 => rfl)) | (refine' grow_lit rfl ?wt78 ?run78 ?put78 ?next78; (case wt78 => rfl); (case run78 => (intro w' hS H; clear H; (obtain ⟨m0, m1, m2, -, -, -⟩ := (KM.out.keep hS).o3); (have xc := keep hS XC.out); (have hgl := HGL.out); (obtain ⟨hj, hw⟩ := HJ.out); clear hS; go_simp; first | done | exact rfl)))); (case put78 => (simp only [Act.put, List.setIfInBounds_toArray, List.set_cons_zero, List.set_cons_succ]; first | done | exact rfl)); (case' next78 => skip)
  (first | (refine' grow_skip rfl ?wt79 ?put79 ?next79; (case wt79 => rfl)) | (refine' grow_lit rfl ?wt79 ?run79 ?put79 ?next79; (case wt79 => rfl); (case run79 => (intro w' hS H; clear H; (obtain ⟨m0, m1, m2, -, -, -⟩ := (KM.out.keep hS).o3); (have xc := keep hS XC.out); (have hgl := HGL.out); (obtain ⟨hj, hw⟩ := HJ.out); clear hS; go_simp; first | done | exact rfl)))); (case put79 => (simp only [Act.put, List.setIfInBounds_toArray, List.set_cons_zero, List.set_cons_succ]; first | done | exact rfl)); (case' next79 => skip)
  (first | (refine' grow_skip rfl ?wt80 ?put80 ?next80; (case wt80 => rfl)) | (refine' grow_lit rfl ?wt80 ?run80 ?put80 ?next80; (case wt80 => rfl); (case run80 => (intro w' hS H; clear H; (obtain ⟨m0, m1, m2, -, -, -⟩ := (KM.out.keep hS).o3); (have xc := keep hS XC.out); (have hgl := HGL.out); (obtain ⟨hj, hw⟩ := HJ.out); clear hS; go_simp; first | done | exact rfl)))); (case put80 => (simp only [Act.put, List.setIfInBounds_toArray, List.set_cons_zero, List.set_cons_succ]; first | done | exact rfl)); (case' next80 => skip)
  (first | (refine' grow_skip rfl ?wt81 ?put81 ?next81; (case wt81 => rfl)) | (refine' grow_lit rfl ?wt81 ?run81 ?put81 ?next81; (case wt81 => rfl); (case run81 => (intro w' hS H; clear H; (obtain ⟨m0, m1, m2, -, -, -⟩ := (KM.out.keep hS).o3); (have xc := keep hS XC.out); (have hgl := HGL.out); (obtain ⟨hj, hw⟩ := HJ.out); clear hS; go_simp; first | done | exact rfl)))); (case put81 => (simp only [Act.put, List.setIfInBounds_toArray, List.set_cons_zero, List.set_cons_succ]; first | done | exact rfl)); (case' next81 => skip)
  (first | (refine' grow_skip rfl ?wt82 ?put82 ?next82; (case wt82 => rfl)) | (refine' grow_lit rfl ?wt82 ?run82 ?put82 ?next82; (case wt82 => rfl); (case run82 => (intro w' hS H; clear H; (obtain ⟨m0, m1, m2, -, -, -⟩ := (KM.out.keep hS).o3); (have xc := keep hS XC.out); (have hgl := HGL.out); (obtain ⟨hj, hw⟩ := HJ.out); clear hS; go_simp; first | done | exact rfl)))); (case put82 => (simp only [Act.put, List.setIfInBounds_toArray, List.set_cons_zero, List.set_cons_succ]; first | done | exact rfl)); (case' next82 => skip)
  (first | (refine' grow_skip rfl ?wt83 ?put83 ?next83; (case wt83 => rfl)) | (refine' grow_lit rfl ?wt83 ?run83 ?put83 ?next83; (case wt83 => rfl); (case run83 => (intro w' hS H; clear H; (obtain ⟨m0, m1, m2, -, -, -⟩ := (KM.out.keep hS).o3); (have xc := keep hS XC.out); (have hgl := HGL.out); (obtain ⟨hj, hw⟩ := HJ.out); clear hS; go_simp; first | done | exact rfl)))); (case put83 => (simp only [Act.put, List.setIfInBounds_toArray, List.set_cons_zero, List.set_cons_succ]; first | done | exact rfl)); (case' next83 => skip)
  (first | (refine' grow_skip rfl ?wt84 ?put84 ?next84; (case wt84 => rfl)) | (refine' grow_lit rfl ?wt84 ?run84 ?put84 ?next84; (case wt84 => rfl); (case run84 => (intro w' hS H; clear H; (obtain ⟨m0, m1, m2, -, -, -⟩ := (KM.out.keep hS).o3); (have xc := keep hS XC.out); (have hgl := HGL.out); (obtain ⟨hj, hw⟩ := HJ.out); clear hS; go_simp; first | done | exact rfl)))); (case put84 => (simp only [Act.put, List.setIfInBounds_toArray, List.set_cons_zero, List.set_cons_succ]; first | done | exact rfl)); (case' next84 => skip)
  (first | (refine' grow_skip rfl ?wt85 ?put85 ?next85; (case wt85 => rfl)) | (refine' grow_lit rfl ?wt85 ?run85 ?put85 ?next85; (case wt85 => rfl); (case run85 => (intro w' hS H; clear H; (obtain ⟨m0, m1, m2, -, -, -⟩ := (KM.out.keep hS).o3); (have xc := keep hS XC.out); (have hgl := HGL.out); (obtain ⟨hj, hw⟩ := HJ.out); clear hS; go_simp; first | done | exact rfl)))); (case put85 => (simp only [Act.put, List.setIfInBounds_toArray, List.set_cons_zero, List.set_cons_succ]; first | done | exact rfl)); (case' next85 => skip)
  (first | (refine' grow_skip rfl ?wt86 ?put86 ?next86; (case wt86 => rfl)) | (refine' grow_lit rfl ?wt86 ?run86 ?put86 ?next86; (case wt86 => rfl); (case run86 => (intro w' hS H; clear H; (obtain ⟨m0, m1, m2, -, -, -⟩ := (KM.out.keep hS).o3); (have xc := keep hS XC.out); (have hgl := HGL.out); (obtain ⟨hj, hw⟩ := HJ.out); clear hS; go_simp; first | done | exact rfl)))); (case put86 => (simp only [Act.put, List.setIfInBounds_toArray, List.set_cons_zero, List.set_cons_succ]; first | done | exact rfl)); (case' next86 => skip)
  (first | (refine' grow_skip rfl ?wt87 ?put87 ?next87; (case wt87 => rfl)) | (refine' grow_lit rfl ?wt87 ?run87 ?put87 ?next87; (case wt87 => rfl); (case run87 => (intro w' hS H; clear H; (obtain ⟨m0, m1, m2, -, -, -⟩ := (KM.out.keep hS).o3); (have xc := keep hS XC.out); (have hgl := HGL.out); (obtain ⟨hj, hw⟩ := HJ.out); clear hS; go_simp; first | done | exact rfl)))); (case put87 => (simp only [Act.put, List.setIfInBounds_toArray, List.set_cons_zero, List.set_cons_succ]; first | done | exact rfl)); (case' next87 => skip)
  intro w9 hb _
  obtain ⟨g', eg, -, hgl, xc, xf, hO1, hBl⟩ := ((HO.out.below hb).tab hkt (x := J) (old := .int .i64 I) (by rw [(flatB_at n.t us kt hkt (by have := HO.out.r.1; omega)).1, eT])).is
  cases eg
  have HO1 := Lib.hid hO1
  have KM2 := Lib.hid (hBl _ _ _ (KM.out.keep hb) (by decide) (by decide) (by decide))
  have KW2 := Lib.hid (hBl _ _ _ (KW.out.keep hb) (by decide) (by decide) (by decide))
  have bb := Lib.hid ((BB.out.trans (hb.mono BB.out.size)).setCell (p := ⟨g, kt * 3, none⟩) hbg (.int .i64 J))
  refine wpAny_ready (rs := [12]) (by kernel_rfl) (by simp) (AllReady.cons rfl (fun K hK => ?_) AllReady.nil)
  go_simp
  refine hK _ _ ?_
  clear hK K
  refine wpAny_done (by kernel_rfl) ?_ _
  obtain ⟨W1, hW1⟩ := named (w9.setCell ⟨g, kt * 3, none⟩ (.int .i64 J))
  rw [← hW1] at HO1 KM2 KW2 bb ⊢
  clear xc xf hO1 hBl hb hGS KM KW HO BB hW1 XC HGL hgl hbg
  have KM := KM2
  have KW := KW2
  have HO := HO1
  have BB := bb
  clear KM2 KW2 HO1 bb
  go_wp2_with fail
  refine (at_post turnB 2 9 _).mono ?_
  rintro e w5 ⟨wv, rfl, hW5, hb⟩
  obtain ⟨eq, en, ec, rfl⟩ := hW5.shape
  have KM2 := Lib.hid (KM.out.keep hb)
  have KW2 := Lib.hid (KW.out.keep hb)
  have HO2 := Lib.hid (HO.out.below hb)
  have BB2 := Lib.hid (BB.out.trans (hb.mono BB.out.size))
  have HW5 := Lib.hid hW5
  clear hW5 hb KM KW HO BB h3
  have KM := KM2
  have KW := KW2
  have HO := HO2
  have BB := BB2
  clear KM2 KW2 HO2 BB2
  go_wp2_with fail
  refine (rwithin_any typeB (kt : Int) _ [(turnB, 2)] 9 _ HW5.out (by simp) (by decide) (by simp)).mono ?_
  rintro e w4 ⟨wv, rfl, hW4, hb⟩
  obtain ⟨fq, fn, fc, rfl⟩ := hW4.shape
  have kw := KW.out.keep hb
  have km := KM.out.keep hb
  have ho := HO.out.below hb
  have hlw := kw.lt
  have hlz := KW.out.lt
  have h3 := Z3.out
  obtain ⟨g0, g1, f0, f1⟩ := kw.o2
  obtain ⟨WE, hWE⟩ := named ((w4.setCell ⟨w3.heap.size + 1, 0, none⟩ (.slice fq fn fc)).setCell ⟨w3.heap.size + 1, 1, none⟩ (.int .i64 9))
  have bb : Hid (Below w2.heap.size w2 WE) := by
    rw [hWE]
    refine Lib.hid ?_
    iterate 2 (refine Below.setCell ?_ (by simp only []; omega) _)
    exact BB.out.trans (hb.mono BB.out.size)
  have WG : Hid (WrongV WE (.agg #[.slice fq fn fc, .int .i64 9]) [(typeB, (kt : Int)), (turnB, 2)] 9) := by rw [hWE]; exact Lib.hid (wrong_set kw (fun s => by simp) (fun s => by simp) hW4 (.slice fq fn fc) (.int .i64 9))
  have KW2 : Hid (Blk WE (w3.heap.size + 1) #[.slice fq fn fc, .int .i64 9] 41) := by rw [hWE]; exact Lib.hid (by simpa using (kw.set 0 (.slice fq fn fc)).set 1 (.int .i64 9))
  have KM2 := Lib.hid ((km.other (k := w3.heap.size + 1) 0 (.slice fq fn fc) (by omega)).other (k := w3.heap.size + 1) 1 (.int .i64 9) (by omega))
  have HO2 := Lib.hid ((ho.set kw (by decide) (by decide) (by decide) (by decide) 0 (.slice fq fn fc)).set (kw.set 0 _) (by decide) (by decide) (by decide) (by decide) 1 (.int .i64 9))
  rw [← hWE] at KM2 HO2
  have HWE := Lib.hid hWE
  obtain ⟨zt, zo, zu, ez, z0, z1, -, -⟩ := (tabs_of_owns HO2.out.t HO2.out.r (by have := F1.out.t; simp; omega) CC.out).at (k := kt) (by simpa using hkt)
  simp only [List.getElem_set_self] at z0 z1
  rw [eO] at z1
  cases ez
  rw [Nat.zero_add] at z0 z1
  have hzt := World.block_lt_of_cell? WE _ z0
  obtain ⟨k0, k1, k2, -, -, -⟩ := KM2.out.o3
  clear hW4 hb km ho hWE hlw hlz h3 KW KM HO BB
  have hfin := B0.out.trans (bb.out.mono B0.out.size)
  rw [HWE.out] at z0 z1 k0 k1 k2 hzt hfin
  go_wp2_with fail
  go_ret
  exact ⟨rfl, hfin⟩

set_option maxHeartbeats 8000000 in
set_option maxRecDepth 100000 in
theorem bent_5c (v : Value) (n : NetD) (wh at_ by_ : Int) (kv ka : Nat) (w : World) (hg : ErrT w) (hv : NetV w v n) (hin : InNet n) (hm : mayN n = true) (hkv : kv < n.v.length) (hka : ka < n.a.length) (hmv : at_.tmod (n.v.length : Int) = kv) (hma : at_.tmod (n.a.length : Int) = ka) (ha0 : 0 ≤ at_) (ha1 : at_ ≤ 65535) (hwh : wh.tmod 6 = 5) (kt : Nat) (hkt : kt < n.t.length) (ekt : n.v[kv].2.2 = kt) (I O : Int) (eT : n.t[kt].1 = I) (eO : n.t[kt].2.1 = O) (J : Int) (eJ : I + 1 = J) (hO0 : ¬ O = 0) (hI17 : ¬ 16 < J) :
    Calls Tryd.prog 8 #[v, .int .u8 wh, .int .u16 at_, .int .u16 by_] w fun e w' => e = .returned (.bool true) ∧ Below w.heap.size w w' := by
  obtain ⟨vq, aq, tq, vc, ac, tc, rfl, -⟩ := hv.shape
  have HM := Lib.hid hm
  obtain ⟨hf, hk, hgd⟩ := may_of hm
  obtain ⟨q0', q1', q2', q3', -, -⟩ := chkT_ok (I := n.t[kt].1) (O := n.t[kt].2.1) (l := n.t[kt].2.2) (by rw [hgd.tabs kt hkt])
  have hcc : ∀ t ∈ n.t.set kt (n.t[kt].1 + 1, n.t[kt].2), t.2.2.length ≤ 1000 := fun t ht => by
    rcases List.mem_or_eq_of_mem_set ht with h | rfl
    · have := hf.c t h; omega
    · have := hf.c n.t[kt] (List.getElem_mem _); simp only []; omega
  have hbt := bentI5 hf hin hk hgd hkt (by rw [eO]; exact hO0) (by omega)
  rw [eT] at q0' q1' hcc hbt
  rw [eJ] at hcc hbt
  have HI16 := Lib.hid (And.intro q0' q1')
  have CC := Lib.hid hcc
  have BT := Lib.hid hbt
  clear hbt
  clear q0' q1' q2' q3' hcc
  have F1 := Lib.hid hf
  have OK := Lib.hid hk
  have GD := Lib.hid hgd
  have HIN := Lib.hid hin
  have d1 : ((n.v.length : Int) == 0) = false := beq_eq_false_iff_ne.2 (by omega)
  have d2 : ((n.a.length : Int) == 0) = false := beq_eq_false_iff_ne.2 (by omega)
  have hz1 : ¬ (n.v.length : Int) = 0 := by omega
  have hz2 : ¬ (n.a.length : Int) = 0 := by omega
  clear hm hin hf hk hgd
  go_enter Tryd.func8, Tryd.ntmps8
  go_wp2_with fail
  obtain ⟨W0, hW0⟩ := named (w.alloc (.cells #[.slice vq n.v.length vc, .slice aq n.a.length ac, .slice tq n.t.length tc] 26))
  rw [← hW0]
  have hc0 : Below w.heap.size w W0 := by rw [hW0]; exact below_alloc1 _
  have B0 := Lib.hid hc0
  have KA : Hid (Blk W0 (w.heap.size) #[.slice vq n.v.length vc, .slice aq n.a.length ac, .slice tq n.t.length tc] 26) := by rw [hW0]; exact Lib.hid (Blk.new _ _ _ _ rfl)
  have VA := Lib.hid (hv.below hc0)
  have HG := Lib.hid (hg.keep hc0)
  clear hc0 hW0 hv hg
  refine (known3_any _ HG.out).mono ?_
  rintro e w1 ⟨rfl, hb⟩
  obtain ⟨p0, p1, p2, -, -, -⟩ := (KA.out.keep hb).o3
  go_wp2_with fail
  clear p0 p1 p2
  have hd1 : Below W0.heap.size W0 w1 := hb
  have KA_ := Lib.hid (KA.out.keep hd1)
  have VA_ := Lib.hid (VA.out.below hd1)
  have HG_ := Lib.hid (HG.out.keep hd1)
  clear KA VA HG
  have KA := KA_
  have VA := VA_
  have HG := HG_
  clear KA_ VA_ HG_
  have B1 : Hid (Below w.heap.size w w1) := Lib.hid (B0.out.trans (hd1.mono B0.out.size))
  clear B0
  have B0 := B1
  clear B1
  clear hb hd1 
  refine (vmay VA.out HIN.out HM.out).mono ?_
  rintro e w2 ⟨rfl, hb⟩
  obtain ⟨p0, p1, p2, -, -, -⟩ := (KA.out.keep hb).o3
  go_wp2_with fail
  clear p0 p1 p2
  have hd2 : Below w1.heap.size w1 w2 := hb
  have KA_ := Lib.hid (KA.out.keep hd2)
  have VA_ := Lib.hid (VA.out.below hd2)
  have HG_ := Lib.hid (HG.out.keep hd2)
  clear KA VA HG
  have KA := KA_
  have VA := VA_
  have HG := HG_
  clear KA_ VA_ HG_
  have B1 : Hid (Below w.heap.size w w2) := Lib.hid (B0.out.trans (hd2.mono B0.out.size))
  clear B0
  have B0 := B1
  clear B1
  clear hb hd2 
  obtain ⟨w2_, hw2_⟩ : ∃ W, W = w2 := ⟨_, rfl⟩
  have HS2 := Lib.hid (NetV.s VA.out)
  refine (copynet_any n vq aq tq vc ac tc _ HS2.out (by have := F1.out.v; omega) (by have := F1.out.a; omega) (by have := F1.out.t; omega) (fun t ht => by have := F1.out.c t ht; omega)).mono ?_
  rintro e w3 ⟨q0, c0, q1, c1, q2, c2, us, rfl, hO, hb⟩
  have HO3 := Lib.hid hO
  have HB3 := Lib.hid hb
  clear hO hb hw2_
  go_upto_region 10 with (fail)
  obtain ⟨W, hW⟩ := named ((w3.alloc (.cells #[.slice q0 n.v.length c0, .slice q1 n.a.length c1, .slice q2 n.t.length c2] 26)).alloc (.cells #[.slice none 0 0, .int .i64 0] 41))
  rw [← hW]
  have hbW : Below w3.heap.size w3 W := by rw [hW]; exact below_alloc2 _ _
  have HO := Lib.hid (HO3.out.below hbW)
  have KM : Hid (Blk W w3.heap.size #[.slice q0 n.v.length c0, .slice q1 n.a.length c1, .slice q2 n.t.length c2] 26) := by rw [hW]; exact Lib.hid ((Blk.new _ _ _ _ rfl).old _)
  have KW : Hid (Blk W (w3.heap.size + 1) #[.slice none 0 0, .int .i64 0] 41) := by rw [hW]; exact Lib.hid (Blk.new _ _ _ _ (by simp))
  have BB := Lib.hid (HB3.out.trans (hbW.mono HB3.out.size))
  have z23 := HB3.out.size
  have Z3 := Lib.hid z23
  clear hW hbW HO3 HB3 z23
  have hO1 : (O == 0) = false := by simpa using hO0
  have hI3 : decide (16 < J) = false := decide_eq_false (by omega)
  have h3 := Z3.out
  obtain ⟨vg, vo, rfl, -, -, xt⟩ := (tris_of_owns HO.out.v (by have := F1.out.v; omega)).at hkv
  have hvg := World.block_lt_of_cell? W _ xt
  rw [ekt] at xt
  obtain ⟨g, rfl, hbg, hgl, xc, -, -, -⟩ := (HO.out.tab hkt (x := J) (old := .int .i64 I) (by rw [(flatB_at n.t us kt hkt (by have := HO.out.r.1; omega)).1, eT])).is
  have XC := Lib.hid xc
  have HGL := Lib.hid hgl
  have hvi : (kv : Int) < (n.v.length : Int) := by omega
  have hti : (kt : Int) < (n.t.length : Int) := by omega
  have hI2 : I ≤ 16 := HI16.out.2
  have hI1 : 0 ≤ I := HI16.out.1
  have HJ := Lib.hid (And.intro eJ (show IntKind.i64.wrap J = J from IntWalk.i64_in _ ⟨by omega, by omega⟩))
  clear eJ
  obtain ⟨m0, m1, m2, -, -, -⟩ := KM.out.o3
  clear xc hgl
  go_wp2_with fail
  clear m0 m1 m2 xt hvg
  have hGS : Grows (fun w' => Below W.heap.size W w') := Grows.below W
  refine' wp_thenL _ 12 (fun w' => Below W.heap.size W w') [[], [0], [], [], [3], [], [3, 4, 5], [3, 4, 5, 6], [3, 4, 5, 6, 7], [3, 4, 5, 6, 7, 8], [0, 1, 2], [0, 1, 2, 10]] (Fact.lit _ :: Fact.lit _ :: Fact.lit _ :: Fact.lit _ :: Fact.lit _ :: Fact.lit _ :: Fact.lit _ :: Fact.lit _ :: Fact.lit _ :: Fact.lit _ :: Fact.lit _ :: Fact.lit _ :: []) (by kernel_rfl) rfl (by kernel_rfl) (Below.refl _ _).drew ?seqel
  case' seqel => skip
  (first | (refine' grow_skip rfl ?wt88 ?put88 ?next88; (case wt88 => rfl)) | (refine' grow_lit rfl ?wt88 ?run88 ?put88 ?next88; (case wt88 => rfl); (case run88 => (intro w' hS H; clear H; (obtain ⟨m0, m1, m2, -, -, -⟩ := (KM.out.keep hS).o3); (have xc := keep hS XC.out); (have hgl := HGL.out); (obtain ⟨hj, hw⟩ := HJ.out); clear hS; go_simp; first | done | exact rfl)))); (case put88 => (simp only [Act.put, List.setIfInBounds_toArray, List.set_cons_zero, List.set_cons_succ]; first | done | exact rfl)); (case' next88 => skip)
  (first | (refine' grow_skip rfl ?wt89 ?put89 ?next89; (case wt89 => rfl)) | (refine' grow_lit rfl ?wt89 ?run89 ?put89 ?next89; (case wt89 => rfl); (case run89 => (intro w' hS H; clear H; (obtain ⟨m0, m1, m2, -, -, -⟩ := (KM.out.keep hS).o3); (have xc := keep hS XC.out); (have hgl := HGL.out); (obtain ⟨hj, hw⟩ := HJ.out); clear hS; go_simp; first | done | exact rfl)))); (case put89 => (simp only [Act.put, List.setIfInBounds_toArray, List.set_cons_zero, List.set_cons_succ]; first | done | exact rfl)); (case' next89 => skip)
  (first | (refine' grow_skip rfl ?wt90 ?put90 ?next90; (case wt90 => rfl)) | (refine' grow_lit rfl ?wt90 ?run90 ?put90 ?next90; (case wt90 => rfl); (case run90 => (intro w' hS H; clear H; (obtain ⟨m0, m1, m2, -, -, -⟩ := (KM.out.keep hS).o3); (have xc := keep hS XC.out); (have hgl := HGL.out); (obtain ⟨hj, hw⟩ := HJ.out); clear hS; go_simp; first | done | exact rfl)))); (case put90 => (simp only [Act.put, List.setIfInBounds_toArray, List.set_cons_zero, List.set_cons_succ]; first | done | exact rfl)); (case' next90 => skip)
  (first | (refine' grow_skip rfl ?wt91 ?put91 ?next91; (case wt91 => rfl)) | (refine' grow_lit rfl ?wt91 ?run91 ?put91 ?next91; (case wt91 => rfl); (case run91 => (intro w' hS H; clear H; (obtain ⟨m0, m1, m2, -, -, -⟩ := (KM.out.keep hS).o3); (have xc := keep hS XC.out); (have hgl := HGL.out); (obtain ⟨hj, hw⟩ := HJ.out); clear hS; go_simp; first | done | exact rfl)))); (case put91 => (simp only [Act.put, List.setIfInBounds_toArray, List.set_cons_zero, List.set_cons_succ]; first | done | exact rfl)); (case' next91 => skip)
  (first | (refine' grow_skip rfl ?wt92 ?put92 ?next92; (case wt92 => rfl)) | (refine' grow_lit rfl ?wt92 ?run92 ?put92 ?next92; (case wt92 => rfl); (case run92 => (intro w' hS H; clear H; (obtain ⟨m0, m1, m2, -, -, -⟩ := (KM.out.keep hS).o3); (have xc := keep hS XC.out); (have hgl := HGL.out); (obtain ⟨hj, hw⟩ := HJ.out); clear hS; go_simp; first | done | exact rfl)))); (case put92 => (simp only [Act.put, List.setIfInBounds_toArray, List.set_cons_zero, List.set_cons_succ]; first | done | exact rfl)); (case' next92 => skip)
  (first | (refine' grow_skip rfl ?wt93 ?put93 ?next93; (case wt93 => rfl)) | (refine' grow_lit rfl ?wt93 ?run93 ?put93 ?next93; (case wt93 => rfl); (case run93 => (intro w' hS H; clear H; (obtain ⟨m0, m1, m2, -, -, -⟩ := (KM.out.keep hS).o3); (have xc := keep hS XC.out); (have hgl := HGL.out); (obtain ⟨hj, hw⟩ := HJ.out); clear hS; go_simp; first | done | exact rfl)))); (case put93 => (simp only [Act.put, List.setIfInBounds_toArray, List.set_cons_zero, List.set_cons_succ]; first | done | exact rfl)); (case' next93 => skip)
  (first | (refine' grow_skip rfl ?wt94 ?put94 ?next94; (case wt94 => rfl)) | (refine' grow_lit rfl ?wt94 ?run94 ?put94 ?next94; (case wt94 => rfl); (case run94 => (intro w' hS H; clear H; (obtain ⟨m0, m1, m2, -, -, -⟩ := (KM.out.keep hS).o3); (have xc := keep hS XC.out); (have hgl := HGL.out); (obtain ⟨hj, hw⟩ := HJ.out); clear hS; go_simp; first | done | exact rfl)))); (case put94 => (simp only [Act.put, List.setIfInBounds_toArray, List.set_cons_zero, List.set_cons_succ]; first | done | exact rfl)); (case' next94 => skip)
  (first | (refine' grow_skip rfl ?wt95 ?put95 ?next95; (case wt95 => rfl)) | (refine' grow_lit rfl ?wt95 ?run95 ?put95 ?next95; (case wt95 => rfl); (case run95 => (intro w' hS H; clear H; (obtain ⟨m0, m1, m2, -, -, -⟩ := (KM.out.keep hS).o3); (have xc := keep hS XC.out); (have hgl := HGL.out); (obtain ⟨hj, hw⟩ := HJ.out); clear hS; go_simp; first | done | exact rfl)))); (case put95 => (simp only [Act.put, List.setIfInBounds_toArray, List.set_cons_zero, List.set_cons_succ]; first | done | exact rfl)); (case' next95 => skip)
  (first | (refine' grow_skip rfl ?wt96 ?put96 ?next96; (case wt96 => rfl)) | (refine' grow_lit rfl ?wt96 ?run96 ?put96 ?next96; (case wt96 => rfl); (case run96 => (intro w' hS H; clear H; (obtain ⟨m0, m1, m2, -, -, -⟩ := (KM.out.keep hS).o3); (have xc := keep hS XC.out); (have hgl := HGL.out); (obtain ⟨hj, hw⟩ := HJ.out); clear hS; go_simp; first | done | exact rfl)))); (case put96 => (simp only [Act.put, List.setIfInBounds_toArray, List.set_cons_zero, List.set_cons_succ]; first | done | exact rfl)); (case' next96 => skip)
  (first | (refine' grow_skip rfl ?wt97 ?put97 ?next97; (case wt97 => rfl)) | (refine' grow_lit rfl ?wt97 ?run97 ?put97 ?next97; (case wt97 => rfl); (case run97 => (intro w' hS H; clear H; (obtain ⟨m0, m1, m2, -, -, -⟩ := (KM.out.keep hS).o3); (have xc := keep hS XC.out); (have hgl := HGL.out); (obtain ⟨hj, hw⟩ := HJ.out); clear hS; go_simp; first | done | exact rfl)))); (case put97 => (simp only [Act.put, List.setIfInBounds_toArray, List.set_cons_zero, List.set_cons_succ]; first | done | exact rfl)); (case' next97 => skip)
  (first | (refine' grow_skip rfl ?wt98 ?put98 ?next98; (case wt98 => rfl)) | (refine' grow_lit rfl ?wt98 ?run98 ?put98 ?next98; (case wt98 => rfl); (case run98 => (intro w' hS H; clear H; (obtain ⟨m0, m1, m2, -, -, -⟩ := (KM.out.keep hS).o3); (have xc := keep hS XC.out); (have hgl := HGL.out); (obtain ⟨hj, hw⟩ := HJ.out); clear hS; go_simp; first | done | exact rfl)))); (case put98 => (simp only [Act.put, List.setIfInBounds_toArray, List.set_cons_zero, List.set_cons_succ]; first | done | exact rfl)); (case' next98 => skip)
  (first | (refine' grow_skip rfl ?wt99 ?put99 ?next99; (case wt99 => rfl)) | (refine' grow_lit rfl ?wt99 ?run99 ?put99 ?next99; (case wt99 => rfl); (case run99 => (intro w' hS H; clear H; (obtain ⟨m0, m1, m2, -, -, -⟩ := (KM.out.keep hS).o3); (have xc := keep hS XC.out); (have hgl := HGL.out); (obtain ⟨hj, hw⟩ := HJ.out); clear hS; go_simp; first | done | exact rfl)))); (case put99 => (simp only [Act.put, List.setIfInBounds_toArray, List.set_cons_zero, List.set_cons_succ]; first | done | exact rfl)); (case' next99 => skip)
  intro w9 hb _
  obtain ⟨g', eg, -, hgl, xc, xf, hO1, hBl⟩ := ((HO.out.below hb).tab hkt (x := J) (old := .int .i64 I) (by rw [(flatB_at n.t us kt hkt (by have := HO.out.r.1; omega)).1, eT])).is
  cases eg
  have HO1 := Lib.hid hO1
  have KM2 := Lib.hid (hBl _ _ _ (KM.out.keep hb) (by decide) (by decide) (by decide))
  have KW2 := Lib.hid (hBl _ _ _ (KW.out.keep hb) (by decide) (by decide) (by decide))
  have bb := Lib.hid ((BB.out.trans (hb.mono BB.out.size)).setCell (p := ⟨g, kt * 3, none⟩) hbg (.int .i64 J))
  refine wpAny_ready (rs := [12]) (by kernel_rfl) (by simp) (AllReady.cons rfl (fun K hK => ?_) AllReady.nil)
  go_simp
  refine hK _ _ ?_
  clear hK K
  refine wpAny_done (by kernel_rfl) ?_ _
  obtain ⟨W1, hW1⟩ := named (w9.setCell ⟨g, kt * 3, none⟩ (.int .i64 J))
  rw [← hW1] at HO1 KM2 KW2 bb ⊢
  clear xc xf hO1 hBl hb hGS KM KW HO BB hW1 XC HGL hgl hbg
  have KM := KM2
  have KW := KW2
  have HO := HO1
  have BB := bb
  clear KM2 KW2 HO1 bb
  go_wp2_with fail
  refine (at_post turnB 2 9 _).mono ?_
  rintro e w5 ⟨wv, rfl, hW5, hb⟩
  obtain ⟨eq, en, ec, rfl⟩ := hW5.shape
  have KM2 := Lib.hid (KM.out.keep hb)
  have KW2 := Lib.hid (KW.out.keep hb)
  have HO2 := Lib.hid (HO.out.below hb)
  have BB2 := Lib.hid (BB.out.trans (hb.mono BB.out.size))
  have HW5 := Lib.hid hW5
  clear hW5 hb KM KW HO BB h3
  have KM := KM2
  have KW := KW2
  have HO := HO2
  have BB := BB2
  clear KM2 KW2 HO2 BB2
  go_wp2_with fail
  refine (rwithin_any typeB (kt : Int) _ [(turnB, 2)] 9 _ HW5.out (by simp) (by decide) (by simp)).mono ?_
  rintro e w4 ⟨wv, rfl, hW4, hb⟩
  obtain ⟨fq, fn, fc, rfl⟩ := hW4.shape
  have kw := KW.out.keep hb
  have km := KM.out.keep hb
  have ho := HO.out.below hb
  have hlw := kw.lt
  have hlz := KW.out.lt
  have h3 := Z3.out
  obtain ⟨g0, g1, f0, f1⟩ := kw.o2
  obtain ⟨WE, hWE⟩ := named ((w4.setCell ⟨w3.heap.size + 1, 0, none⟩ (.slice fq fn fc)).setCell ⟨w3.heap.size + 1, 1, none⟩ (.int .i64 9))
  have bb : Hid (Below w2.heap.size w2 WE) := by
    rw [hWE]
    refine Lib.hid ?_
    iterate 2 (refine Below.setCell ?_ (by simp only []; omega) _)
    exact BB.out.trans (hb.mono BB.out.size)
  have WG : Hid (WrongV WE (.agg #[.slice fq fn fc, .int .i64 9]) [(typeB, (kt : Int)), (turnB, 2)] 9) := by rw [hWE]; exact Lib.hid (wrong_set kw (fun s => by simp) (fun s => by simp) hW4 (.slice fq fn fc) (.int .i64 9))
  have KW2 : Hid (Blk WE (w3.heap.size + 1) #[.slice fq fn fc, .int .i64 9] 41) := by rw [hWE]; exact Lib.hid (by simpa using (kw.set 0 (.slice fq fn fc)).set 1 (.int .i64 9))
  have KM2 := Lib.hid ((km.other (k := w3.heap.size + 1) 0 (.slice fq fn fc) (by omega)).other (k := w3.heap.size + 1) 1 (.int .i64 9) (by omega))
  have HO2 := Lib.hid ((ho.set kw (by decide) (by decide) (by decide) (by decide) 0 (.slice fq fn fc)).set (kw.set 0 _) (by decide) (by decide) (by decide) (by decide) 1 (.int .i64 9))
  rw [← hWE] at KM2 HO2
  have HWE := Lib.hid hWE
  obtain ⟨zt, zo, zu, ez, z0, z1, -, -⟩ := (tabs_of_owns HO2.out.t HO2.out.r (by have := F1.out.t; simp; omega) CC.out).at (k := kt) (by simpa using hkt)
  simp only [List.getElem_set_self] at z0 z1
  rw [eO] at z1
  cases ez
  rw [Nat.zero_add] at z0 z1
  have hzt := World.block_lt_of_cell? WE _ z0
  obtain ⟨k0, k1, k2, -, -, -⟩ := KM2.out.o3
  clear hW4 hb km ho hWE hlw hlz h3 KW KM HO BB
  rw [HWE.out] at z0 z1 k0 k1 k2 hzt
  go_wp2_with fail
  rw [← HWE.out]
  clear g0 g1 f0 f1 kw z0 z1 k0 k1 k2 hzt HWE
  have KW := KW2
  have KM := KM2
  have HO := HO2
  have BB := bb
  clear KW2 KM2 HO2 bb
  have hbn := BB.out
  have KAe := Lib.hid (KA.out.keep hbn)
  have VAe := Lib.hid (VA.out.below hbn)
  have HGe := Lib.hid (HG.out.keep hbn)
  have Be := Lib.hid (B0.out.trans (hbn.mono B0.out.size))
  have VMe := Lib.hid (HO.out.net BT.out.v BT.out.a BT.out.t BT.out.c)
  clear hbn KA VA HG B0 BB HO
  have KA := KAe
  have VA := VAe
  have HG := HGe
  have B0 := Be
  have VM := VMe
  clear KAe VAe HGe Be VMe
  have hGS : Grows (fun w' => Below WE.heap.size WE w') := Grows.below WE
  refine' wp_growL _ (fun w' => Below WE.heap.size WE w') [[], [0], [1], [], [2, 3], [4], [5], [5, 6], [5, 7], [5, 8], [5, 9], [10], [11], [11, 12], [11], [11, 14], [11, 13, 15], [11, 16], [11, 17], [18]] (Fact.lit _ :: Fact.prop _ _ :: Fact.prop _ _ :: Fact.lit _ :: Fact.lit _ :: Fact.lit _ :: Fact.lit _ :: Fact.prop _ _ :: Fact.lit _ :: Fact.lit _ :: Fact.lit _ :: Fact.lit _ :: Fact.lit _ :: Fact.prop _ _ :: Fact.lit _ :: Fact.prop _ _ :: Fact.lit _ :: Fact.lit _ :: Fact.lit _ :: Fact.lit _ :: []) (by kernel_rfl) rfl (by kernel_rfl) (Below.refl _ _).drew ?seqfin5c
  case' seqfin5c => skip
  (first | (refine' grow_skip rfl ?wt100 ?put100 ?next100; (case wt100 => rfl)) | (refine' grow_lit rfl ?wt100 ?run100 ?put100 ?next100; (case wt100 => rfl); (case run100 => (intro w' hS H; clear H; (obtain ⟨a0, a1, a2, -, -, -⟩ := (KA.out.keep hS).o3); (obtain ⟨m0, m1, m2, -, -, -⟩ := (KM.out.keep hS).o3); (obtain ⟨g0, g1, -, -⟩ := (KW.out.keep hS).o2); clear hS; go_simp; first | done | exact rfl)))); (case put100 => (simp only [Act.put, List.setIfInBounds_toArray, List.set_cons_zero, List.set_cons_succ]; first | done | exact rfl)); (case' next100 => skip)
  (refine' grow_callP (p := fun v w => NetV w v ⟨n.v, n.a, n.t.set kt (J, n.t[kt].2)⟩) (hp := fun v w w' h hb => h.below hb) rfl Tryd.func14 (by kernel_rfl) rfl hGS rfl ?wt154 ?run154 ?put154 ?next154; (case wt154 => rfl); (case run154 => (intro w' hS H; exact vto (VM.out.below hS) BT.out.v BT.out.a BT.out.t BT.out.c)); (case put154 => (intro v; simp only [Act.put, List.setIfInBounds_toArray, List.set_cons_zero, List.set_cons_succ]; first | done | exact rfl)); (case' next154 => intro v1))
  (refine' grow_callP (p := fun v w => FaultV w v ([(typeB, (kt : Int)), (turnB, 2)] : List (ByteArray × Int)) 9) (hp := fun v w w' h hb => h.below hb) rfl Tryd.func13 (by kernel_rfl) rfl hGS rfl ?wt155 ?run155 ?put155 ?next155; (case wt155 => rfl); (case run155 => (intro w' hS H; (have h1 : NetV w' v1 ⟨n.v, n.a, n.t.set kt (J, n.t[kt].2)⟩ := H 1 (by decide)); exact vcheckE h1 BT.out.small BT.out.inn BT.out.chk)); (case put155 => (intro v; simp only [Act.put, List.setIfInBounds_toArray, List.set_cons_zero, List.set_cons_succ]; first | done | exact rfl)); (case' next155 => intro v2))
  (first | (refine' grow_skip rfl ?wt101 ?put101 ?next101; (case wt101 => rfl)) | (refine' grow_lit rfl ?wt101 ?run101 ?put101 ?next101; (case wt101 => rfl); (case run101 => (intro w' hS H; clear H; (obtain ⟨a0, a1, a2, -, -, -⟩ := (KA.out.keep hS).o3); (obtain ⟨m0, m1, m2, -, -, -⟩ := (KM.out.keep hS).o3); (obtain ⟨g0, g1, -, -⟩ := (KW.out.keep hS).o2); clear hS; go_simp; first | done | exact rfl)))); (case put101 => (simp only [Act.put, List.setIfInBounds_toArray, List.set_cons_zero, List.set_cons_succ]; first | done | exact rfl)); (case' next101 => skip)
  (refine' grow_call (u := .bool true) rfl Tryd.func12 (by kernel_rfl) rfl hGS rfl ?wt156 ?run156 ?put156 ?next156; (case wt156 => rfl); (case run156 => (intro w' hS H; exact tells_post _ _ ([(typeB, (kt : Int)), (turnB, 2)] : List (ByteArray × Int)) 9 w' (HG.out.keep hS) (H 2 (by decide)) (WG.out.below hS) (Or.inr (by simp)))); (case put156 => (simp only [Act.put, List.setIfInBounds_toArray, List.set_cons_zero, List.set_cons_succ]; first | done | exact rfl)); (case' next156 => skip))
  (first | (refine' grow_skip rfl ?wt102 ?put102 ?next102; (case wt102 => rfl)) | (refine' grow_lit rfl ?wt102 ?run102 ?put102 ?next102; (case wt102 => rfl); (case run102 => (intro w' hS H; clear H; (obtain ⟨a0, a1, a2, -, -, -⟩ := (KA.out.keep hS).o3); (obtain ⟨m0, m1, m2, -, -, -⟩ := (KM.out.keep hS).o3); (obtain ⟨g0, g1, -, -⟩ := (KW.out.keep hS).o2); clear hS; go_simp; first | done | exact rfl)))); (case put102 => (simp only [Act.put, List.setIfInBounds_toArray, List.set_cons_zero, List.set_cons_succ]; first | done | exact rfl)); (case' next102 => skip)
  (first | (refine' grow_skip rfl ?wt103 ?put103 ?next103; (case wt103 => rfl)) | (refine' grow_lit rfl ?wt103 ?run103 ?put103 ?next103; (case wt103 => rfl); (case run103 => (intro w' hS H; clear H; (obtain ⟨a0, a1, a2, -, -, -⟩ := (KA.out.keep hS).o3); (obtain ⟨m0, m1, m2, -, -, -⟩ := (KM.out.keep hS).o3); (obtain ⟨g0, g1, -, -⟩ := (KW.out.keep hS).o2); clear hS; go_simp; first | done | exact rfl)))); (case put103 => (simp only [Act.put, List.setIfInBounds_toArray, List.set_cons_zero, List.set_cons_succ]; first | done | exact rfl)); (case' next103 => skip)
  (refine' grow_callP (p := fun v w => NetV w v n) (hp := fun v w w' h hb => h.below hb) rfl Tryd.func14 (by kernel_rfl) rfl hGS rfl ?wt157 ?run157 ?put157 ?next157; (case wt157 => rfl); (case run157 => (intro w' hS H; exact vtoF (VA.out.below hS) F1.out)); (case put157 => (intro v; simp only [Act.put, List.setIfInBounds_toArray, List.set_cons_zero, List.set_cons_succ]; first | done | exact rfl)); (case' next157 => intro v7))
  (refine' grow_call (u := .nilIface) rfl Tryd.func13 (by kernel_rfl) rfl hGS rfl ?wt158 ?run158 ?put158 ?next158; (case wt158 => rfl); (case run158 => (intro w' hS H; (have h4 : NetV w' v7 n := H 7 (by decide)); exact vcheck0 h4 F1.out.small HIN.out OK.out)); (case put158 => (simp only [Act.put, List.setIfInBounds_toArray, List.set_cons_zero, List.set_cons_succ]; first | done | exact rfl)); (case' next158 => skip))
  (first | (refine' grow_skip rfl ?wt104 ?put104 ?next104; (case wt104 => rfl)) | (refine' grow_lit rfl ?wt104 ?run104 ?put104 ?next104; (case wt104 => rfl); (case run104 => (intro w' hS H; clear H; (obtain ⟨a0, a1, a2, -, -, -⟩ := (KA.out.keep hS).o3); (obtain ⟨m0, m1, m2, -, -, -⟩ := (KM.out.keep hS).o3); (obtain ⟨g0, g1, -, -⟩ := (KW.out.keep hS).o2); clear hS; go_simp; first | done | exact rfl)))); (case put104 => (simp only [Act.put, List.setIfInBounds_toArray, List.set_cons_zero, List.set_cons_succ]; first | done | exact rfl)); (case' next104 => skip)
  (first | (refine' grow_skip rfl ?wt105 ?put105 ?next105; (case wt105 => rfl)) | (refine' grow_lit rfl ?wt105 ?run105 ?put105 ?next105; (case wt105 => rfl); (case run105 => (intro w' hS H; clear H; (obtain ⟨a0, a1, a2, -, -, -⟩ := (KA.out.keep hS).o3); (obtain ⟨m0, m1, m2, -, -, -⟩ := (KM.out.keep hS).o3); (obtain ⟨g0, g1, -, -⟩ := (KW.out.keep hS).o2); clear hS; go_simp; first | done | exact rfl)))); (case put105 => (simp only [Act.put, List.setIfInBounds_toArray, List.set_cons_zero, List.set_cons_succ]; first | done | exact rfl)); (case' next105 => skip)
  (first | (refine' grow_skip rfl ?wt106 ?put106 ?next106; (case wt106 => rfl)) | (refine' grow_lit rfl ?wt106 ?run106 ?put106 ?next106; (case wt106 => rfl); (case run106 => (intro w' hS H; clear H; (obtain ⟨a0, a1, a2, -, -, -⟩ := (KA.out.keep hS).o3); (obtain ⟨m0, m1, m2, -, -, -⟩ := (KM.out.keep hS).o3); (obtain ⟨g0, g1, -, -⟩ := (KW.out.keep hS).o2); clear hS; go_simp; first | done | exact rfl)))); (case put106 => (simp only [Act.put, List.setIfInBounds_toArray, List.set_cons_zero, List.set_cons_succ]; first | done | exact rfl)); (case' next106 => skip)
  (first | (refine' grow_skip rfl ?wt107 ?put107 ?next107; (case wt107 => rfl)) | (refine' grow_lit rfl ?wt107 ?run107 ?put107 ?next107; (case wt107 => rfl); (case run107 => (intro w' hS H; clear H; (obtain ⟨a0, a1, a2, -, -, -⟩ := (KA.out.keep hS).o3); (obtain ⟨m0, m1, m2, -, -, -⟩ := (KM.out.keep hS).o3); (obtain ⟨g0, g1, -, -⟩ := (KW.out.keep hS).o2); clear hS; go_simp; first | done | exact rfl)))); (case put107 => (simp only [Act.put, List.setIfInBounds_toArray, List.set_cons_zero, List.set_cons_succ]; first | done | exact rfl)); (case' next107 => skip)
  (refine' grow_callP (p := fun v w => NetV w v n) (hp := fun v w w' h hb => h.below hb) rfl Tryd.func14 (by kernel_rfl) rfl hGS rfl ?wt159 ?run159 ?put159 ?next159; (case wt159 => rfl); (case run159 => (intro w' hS H; exact vtoF (VA.out.below hS) F1.out)); (case put159 => (intro v; simp only [Act.put, List.setIfInBounds_toArray, List.set_cons_zero, List.set_cons_succ]; first | done | exact rfl)); (case' next159 => intro v13))
  (first | (refine' grow_skip rfl ?wt108 ?put108 ?next108; (case wt108 => rfl)) | (refine' grow_lit rfl ?wt108 ?run108 ?put108 ?next108; (case wt108 => rfl); (case run108 => (intro w' hS H; clear H; (obtain ⟨a0, a1, a2, -, -, -⟩ := (KA.out.keep hS).o3); (obtain ⟨m0, m1, m2, -, -, -⟩ := (KM.out.keep hS).o3); (obtain ⟨g0, g1, -, -⟩ := (KW.out.keep hS).o2); clear hS; go_simp; first | done | exact rfl)))); (case put108 => (simp only [Act.put, List.setIfInBounds_toArray, List.set_cons_zero, List.set_cons_succ]; first | done | exact rfl)); (case' next108 => skip)
  (refine' grow_callP (p := fun v w => NetV w v ⟨n.v, n.a, n.t.set kt (J, n.t[kt].2)⟩) (hp := fun v w w' h hb => h.below hb) rfl Tryd.func14 (by kernel_rfl) rfl hGS rfl ?wt160 ?run160 ?put160 ?next160; (case wt160 => rfl); (case run160 => (intro w' hS H; exact vto (VM.out.below hS) BT.out.v BT.out.a BT.out.t BT.out.c)); (case put160 => (intro v; simp only [Act.put, List.setIfInBounds_toArray, List.set_cons_zero, List.set_cons_succ]; first | done | exact rfl)); (case' next160 => intro v15))
  (refine' grow_call (u := .bool false) rfl Tryd.func16 (by kernel_rfl) rfl hGS rfl ?wt161 ?run161 ?put161 ?next161; (case wt161 => rfl); (case run161 => (intro w' hS H; (have h6 : NetV w' v13 n := H 13 (by decide)); (have h7 : NetV w' v15 ⟨n.v, n.a, n.t.set kt (J, n.t[kt].2)⟩ := H 15 (by decide)); exact vsame h6 h7 BT.out.ne)); (case put161 => (simp only [Act.put, List.setIfInBounds_toArray, List.set_cons_zero, List.set_cons_succ]; first | done | exact rfl)); (case' next161 => skip))
  (first | (refine' grow_skip rfl ?wt109 ?put109 ?next109; (case wt109 => rfl)) | (refine' grow_lit rfl ?wt109 ?run109 ?put109 ?next109; (case wt109 => rfl); (case run109 => (intro w' hS H; clear H; (obtain ⟨a0, a1, a2, -, -, -⟩ := (KA.out.keep hS).o3); (obtain ⟨m0, m1, m2, -, -, -⟩ := (KM.out.keep hS).o3); (obtain ⟨g0, g1, -, -⟩ := (KW.out.keep hS).o2); clear hS; go_simp; first | done | exact rfl)))); (case put109 => (simp only [Act.put, List.setIfInBounds_toArray, List.set_cons_zero, List.set_cons_succ]; first | done | exact rfl)); (case' next109 => skip)
  (first | (refine' grow_skip rfl ?wt110 ?put110 ?next110; (case wt110 => rfl)) | (refine' grow_lit rfl ?wt110 ?run110 ?put110 ?next110; (case wt110 => rfl); (case run110 => (intro w' hS H; clear H; (obtain ⟨a0, a1, a2, -, -, -⟩ := (KA.out.keep hS).o3); (obtain ⟨m0, m1, m2, -, -, -⟩ := (KM.out.keep hS).o3); (obtain ⟨g0, g1, -, -⟩ := (KW.out.keep hS).o2); clear hS; go_simp; first | done | exact rfl)))); (case put110 => (simp only [Act.put, List.setIfInBounds_toArray, List.set_cons_zero, List.set_cons_succ]; first | done | exact rfl)); (case' next110 => skip)
  (first | (refine' grow_skip rfl ?wt111 ?put111 ?next111; (case wt111 => rfl)) | (refine' grow_lit rfl ?wt111 ?run111 ?put111 ?next111; (case wt111 => rfl); (case run111 => (intro w' hS H; clear H; (obtain ⟨a0, a1, a2, -, -, -⟩ := (KA.out.keep hS).o3); (obtain ⟨m0, m1, m2, -, -, -⟩ := (KM.out.keep hS).o3); (obtain ⟨g0, g1, -, -⟩ := (KW.out.keep hS).o2); clear hS; go_simp; first | done | exact rfl)))); (case put111 => (simp only [Act.put, List.setIfInBounds_toArray, List.set_cons_zero, List.set_cons_succ]; first | done | exact rfl)); (case' next111 => skip)
  intro w9 hb _
  have HF := Lib.hid (B0.out.trans (hb.mono B0.out.size))
  clear hb hGS
  go_wp2_with fail
  go_ret
  exact ⟨rfl, HF.out⟩

theorem bent_walk (v : Value) (n : NetD) (wh at_ by_ : Int) (w : World) (hg : ErrT w) (hv : NetV w v n) (hin : InNet n) (hw0 : 0 ≤ wh) (_ : wh ≤ 255) (ha0 : 0 ≤ at_) (ha1 : at_ ≤ 65535) (hb0 : 0 ≤ by_) (hb1 : by_ ≤ 65535) :
    Calls Tryd.prog 8 #[v, .int .u8 wh, .int .u16 at_, .int .u16 by_] w fun e w' => e = .returned (.bool true) ∧ Below w.heap.size w w' := by
  cases hm : mayN n with
  | false => exact bent_no v n wh at_ by_ w hg hv hin hm
  | true =>
    by_cases h0 : n.v.length = 0
    · exact bent_v0 v n wh at_ by_ w hg hv hin hm h0
    by_cases h1 : n.a.length = 0
    · exact bent_a0 v n wh at_ by_ w hg hv hin hm h0 h1
    have hv0 : 0 ≤ at_.tmod (n.v.length : Int) := Int.tmod_nonneg _ ha0
    have hv1 : at_.tmod (n.v.length : Int) < (n.v.length : Int) := Int.tmod_lt_of_pos _ (by omega)
    have hx0 : 0 ≤ at_.tmod (n.a.length : Int) := Int.tmod_nonneg _ ha0
    have hx1 : at_.tmod (n.a.length : Int) < (n.a.length : Int) := Int.tmod_lt_of_pos _ (by omega)
    obtain ⟨kv, hmv⟩ : ∃ k : Nat, at_.tmod (n.v.length : Int) = k := ⟨(at_.tmod (n.v.length : Int)).toNat, by omega⟩
    obtain ⟨ka, hma⟩ : ∃ k : Nat, at_.tmod (n.a.length : Int) = k := ⟨(at_.tmod (n.a.length : Int)).toNat, by omega⟩
    have hkv : kv < n.v.length := by omega
    have hka : ka < n.a.length := by omega
    have w0 : 0 ≤ wh.tmod 6 := Int.tmod_nonneg _ hw0
    have w1 : wh.tmod 6 < 6 := Int.tmod_lt_of_pos _ (by omega)
    have hc : wh.tmod 6 = 0 ∨ wh.tmod 6 = 1 ∨ wh.tmod 6 = 2 ∨ wh.tmod 6 = 3 ∨ wh.tmod 6 = 4 ∨ wh.tmod 6 = 5 := by omega
    rcases hc with h | h | h | h | h | h
    · exact bent_0 v n wh at_ by_ kv ka w hg hv hin hm hkv hka hmv hma ha0 ha1 hb0 hb1 h
    · exact bent_1 v n wh at_ by_ kv ka w hg hv hin hm hkv hka hmv hma ha0 ha1 hb0 hb1 h
    · exact bent_2 v n wh at_ by_ kv ka w hg hv hin hm hkv hka hmv hma ha0 ha1 hb0 hb1 h
    · exact bent_3 v n wh at_ by_ kv ka w hg hv hin hm hkv hka hmv hma ha0 ha1 hb0 hb1 h
    · exact bent_4 v n wh at_ by_ kv ka w hg hv hin hm hkv hka hmv hma ha0 ha1 hb0 hb1 h
    · obtain ⟨-, -, g2, g3⟩ := (may_of hm).2.2.verts kv hkv
      obtain ⟨kt, ekt, hkt⟩ := nat_of' g2 g3
      by_cases hO : n.t[kt].2.1 = 0
      · exact bent_5a v n wh at_ by_ kv ka w hg hv hin hm hkv hka hmv hma ha0 ha1 h kt hkt ekt _ _ rfl rfl _ rfl hO
      · by_cases hI : 16 < n.t[kt].1 + 1
        · exact bent_5b v n wh at_ by_ kv ka w hg hv hin hm hkv hka hmv hma ha0 ha1 h kt hkt ekt _ _ rfl rfl _ rfl hO hI
        · exact bent_5c v n wh at_ by_ kv ka w hg hv hin hm hkv hka hmv hma ha0 ha1 h kt hkt ekt _ _ rfl rfl _ rfl hO hI

set_option maxRecDepth 100000 in
theorem netBent_walks : Walks laidAll 8 Tryd.f8 := by
  intro H enc W args ds g
  obtain ⟨ps, hA⟩ := g.reads
  obtain ⟨base, hval⟩ := g.okay
  rw [Tryd.params8] at hA hval
  obtain ⟨v0, vs0, d0, ds0, p0, q0, hargs, rfl, rfl, h0, r0⟩ := trodAll_cons hA
  obtain ⟨v1, vs1, d1, ds1, p1, q1, rfl, rfl, rfl, h1, r1⟩ := trodAll_cons r0
  obtain ⟨v2, vs2, d2, ds2, p2, q2, rfl, rfl, rfl, h2, r2⟩ := trodAll_cons r1
  obtain ⟨v3, vs3, d3, ds3, p3, q3, rfl, rfl, rfl, h3, r3⟩ := trodAll_cons r2
  obtain ⟨rfl, rfl, rfl⟩ := trodAll_nil r3
  obtain rfl : args = #[v0, v1, v2, v3] := Array.toList_inj.1 hargs
  obtain ⟨n0, w0, u0⟩ := open_net (hval 0 26 v0 rfl rfl) h0
  obtain ⟨x1, rfl, rfl, rfl, w1⟩ := open_int Tryd.underlying5 (hval 1 5 v1 rfl rfl) h1
  obtain ⟨x2, rfl, rfl, rfl, w2⟩ := open_int Tryd.underlying66 (hval 2 66 v2 rfl rfl) h2
  obtain ⟨x3, rfl, rfl, rfl, w3⟩ := open_int Tryd.underlying66 (hval 3 66 v3 rfl rfl) h3
  exact bent_walk v0 n0 x1 x2 x3 W (errT_of_laid g.laid) w0 u0 (wfu8 w1).1 (wfu8 w1).2 (wfu16 w2).1 (wfu16 w2).2 (wfu16 w3).1 (wfu16 w3).2

theorem netBent_row : Rows.NetBentSaid :=
  OpenClaim.holds_of_wide 8 Tryd.f8 rfl rfl rfl rfl rfl rfl rfl ⟨rfl, rfl, rfl, rfl, rfl⟩ rfl rfl rfl rfl rfl (by kernel_rfl) Tryd.func8 (by kernel_rfl)
    (of_decide_eq_true (by kernel_rfl)) (by unfold Func.isWrapper; rw [if_neg (of_decide_eq_false (by kernel_rfl))]; exact ⟨rfl, rfl⟩)
    (fun os started H enc _ => law_lifted (s := Rows.netBentSpec) (L := laidAll) Tryd.func8 (by kernel_rfl) rfl (by kernel_rfl)
      (fun H ds hl => by
        rw [Tryd.params8] at hl
        match ds, hl with
        | [_, _, _, _], _ => exact ⟨rfl, rfl, rfl⟩)
      (by kernel_rfl) os started H enc
      (ChangeSpec.witness_at (enc := enc) (C := Tryd.checked) (os := os) (X := fun w _ => laidMetH Tryd.prog laidAll w) false (laidWorld os) #[.agg #[.slice none 0 0, .slice none 0 0, .slice none 0 0], .int .u8 0, .int .u16 0, .int .u16 0] 8 rfl (by kernel_rfl) (by kernel_rfl) (by kernel_rfl) (by kernel_rfl) (by kernel_rfl) (laidWorld_met os _))
      netBent_walks)

theorem netBent_card : Rows.NetBentCardSaid :=
  Claim7.holds_tied_plain_at .later [] laidKindsAll true (Rows.netBentCard.stood.harness) true
    netBent_row (fun _ h => by cases h) (by kernel_rfl) (fun _ h => by cases h) netBent_row_tie rfl ⟨rfl, rfl⟩ (by kernel_rfl) rfl
    (fun f fn hf hfn => by
      obtain rfl : f = 8 := Option.some.inj ((show Tryd.prog.funcNamed "roundsman/roundsmanlaw3.NetBent" = some 8 by kernel_rfl).symm.trans hf) |>.symm
      obtain rfl : fn = Tryd.f8 := (Option.some.inj (Tryd.func8.symm.trans hfn)).symm
      exact ⟨by kernel_rfl, fun j t ht => by
        rw [Tryd.params8] at ht
        exact stand_all #[26, 5, 66, 66] (by kernel_rfl) j t ht⟩)
    (by kernel_rfl)
#print axioms netBent_card

end Go.Proofs.YtbdompngabokgaaDoor
