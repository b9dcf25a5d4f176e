/-
  PROVED: from one arc to another one it costs the same, whichever end it is told from; by way of a third one it is never less; to itself nothing. For every net and every three numbers.
-/
import Derived.Test.YtlfihaajnjeaeaaK8
import Derived.Test.YtlfihaajnjeaeaaLawP
import Derived.BigQuiet
import Derived.RegionTactic
import Derived.IntWalk
import Derived.Test.YtlfihaajnjeaeaaL8Base
namespace Go.Proofs.Ytlfihaajnjeaeaa
open HP Go.ChangeShapes Go.WideShapes Go.ChangeAt Go.RowKit

set_option maxHeartbeats 8000000 in
set_option maxRecDepth 100000 in
theorem meets_no (v : Value) (n : NetD) (a b c : Int) (w : World) (hv : NetV w v n) (hin : InNet n) (hs : smallN n = false) :
    Calls Try.prog 3 #[v, .int .u16 a, .int .u16 b, .int .u16 c] w fun e w' => e = .returned (.bool true) ∧ Below w.heap.size w w' := by
  obtain ⟨vq, aq, tq, vc, ac, tc, rfl, -⟩ := hv.shape
  have HS := Lib.hid hs
  have HIN := Lib.hid hin
  clear hs hin
  obtain ⟨W0, hW0⟩ := named (w.alloc (.cells #[.slice vq n.v.length vc, .slice aq n.a.length ac, .slice tq n.t.length tc] 26))
  have hb0 : Below w.heap.size w W0 := by rw [hW0]; exact below_alloc1 _
  have k0 : Blk W0 w.heap.size #[.slice vq n.v.length vc, .slice aq n.a.length ac, .slice tq n.t.length tc] 26 := by rw [hW0]; exact Blk.new _ _ _ _ rfl
  have KA := Lib.hid (k0)
  have B0 := Lib.hid (hb0)
  have VA := Lib.hid (hv.below hb0)
  have e0 := hW0.symm
  clear hb0 k0 hW0 hv
  go_enter Try.func3, Try.ntmps3
  go_wp2_with fail
  clear e0
  refine (known8_any W0).mono ?_
  rintro e w1 ⟨rfl, hb⟩
  have KA_ := Lib.hid (KA.out.keep hb)
  have B0_ := Lib.hid (bOn6 B0.out hb)
  have VA_ := Lib.hid (VA.out.below hb)
  clear KA B0 VA
  have KA := KA_
  have B0 := B0_
  have VA := VA_
  clear KA_ B0_ VA_
  clear hb 
  obtain ⟨p0, p1, p2, -, -, -⟩ := KA.out.o3
  have pl := KA.out.lt
  go_wp2_with fail
  clear p0 p1 p2 pl
  refine (vSmall VA.out HIN.out HS.out).mono ?_
  rintro e w2 ⟨rfl, hb⟩
  have KA_ := Lib.hid (KA.out.keep hb)
  have B0_ := Lib.hid (bOn6 B0.out hb)
  have VA_ := Lib.hid (VA.out.below hb)
  clear KA B0 VA
  have KA := KA_
  have B0 := B0_
  have VA := VA_
  clear KA_ B0_ VA_
  clear hb 
  obtain ⟨p0, p1, p2, -, -, -⟩ := KA.out.o3
  have pl := KA.out.lt
  go_wp2_with fail
  clear p0 p1 p2 pl
  go_ret
  exact ⟨rfl, B0.out⟩

set_option maxHeartbeats 8000000 in
set_option maxRecDepth 100000 in
theorem meets_zero (v : Value) (n : NetD) (a b c : Int) (w : World) (hv : NetV w v n) (hin : InNet n) (hs : smallN n = true) (h0 : n.a.length = 0) :
    Calls Try.prog 3 #[v, .int .u16 a, .int .u16 b, .int .u16 c] w fun e w' => e = .returned (.bool true) ∧ Below w.heap.size w w' := by
  obtain ⟨vq, aq, tq, vc, ac, tc, rfl, -⟩ := hv.shape
  have HS := Lib.hid hs
  have HIN := Lib.hid hin
  have hz : ((n.a.length : Int) == 0) = true := by simpa using h0
  clear hs hin h0
  obtain ⟨W0, hW0⟩ := named (w.alloc (.cells #[.slice vq n.v.length vc, .slice aq n.a.length ac, .slice tq n.t.length tc] 26))
  have hb0 : Below w.heap.size w W0 := by rw [hW0]; exact below_alloc1 _
  have k0 : Blk W0 w.heap.size #[.slice vq n.v.length vc, .slice aq n.a.length ac, .slice tq n.t.length tc] 26 := by rw [hW0]; exact Blk.new _ _ _ _ rfl
  have KA := Lib.hid (k0)
  have B0 := Lib.hid (hb0)
  have VA := Lib.hid (hv.below hb0)
  have e0 := hW0.symm
  clear hb0 k0 hW0 hv
  go_enter Try.func3, Try.ntmps3
  go_wp2_with fail
  clear e0
  refine (known8_any W0).mono ?_
  rintro e w1 ⟨rfl, hb⟩
  have KA_ := Lib.hid (KA.out.keep hb)
  have B0_ := Lib.hid (bOn6 B0.out hb)
  have VA_ := Lib.hid (VA.out.below hb)
  clear KA B0 VA
  have KA := KA_
  have B0 := B0_
  have VA := VA_
  clear KA_ B0_ VA_
  clear hb 
  obtain ⟨p0, p1, p2, -, -, -⟩ := KA.out.o3
  have pl := KA.out.lt
  go_wp2_with fail
  clear p0 p1 p2 pl
  refine (vSmall VA.out HIN.out HS.out).mono ?_
  rintro e w2 ⟨rfl, hb⟩
  have KA_ := Lib.hid (KA.out.keep hb)
  have B0_ := Lib.hid (bOn6 B0.out hb)
  have VA_ := Lib.hid (VA.out.below hb)
  clear KA B0 VA
  have KA := KA_
  have B0 := B0_
  have VA := VA_
  clear KA_ B0_ VA_
  clear hb 
  obtain ⟨p0, p1, p2, -, -, -⟩ := KA.out.o3
  have pl := KA.out.lt
  go_wp2_with fail
  clear p0 p1 p2 pl
  go_ret
  exact ⟨rfl, B0.out⟩

set_option maxHeartbeats 8000000 in
set_option maxRecDepth 100000 in
theorem meets_main (v : Value) (n : NetD) (a b c : Int) (w : World) (hv : NetV w v n) (hin : InNet n) (hs : smallN n = true) (h0 : 0 < n.a.length) (a0 : 0 ≤ a) (a1 : a ≤ 65535) (b0 : 0 ≤ b) (b1 : b ≤ 65535) (c0 : 0 ≤ c) (c1 : c ≤ 65535) :
    Calls Try.prog 3 #[v, .int .u16 a, .int .u16 b, .int .u16 c] w fun e w' => e = .returned (.bool true) ∧ Below w.heap.size w w' := by
  obtain ⟨vq, aq, tq, vc, ac, tc, rfl, -⟩ := hv.shape
  obtain ⟨hgr, hfew, hok, h90⟩ := small_gr hs hin
  obtain ⟨s, es, hs9⟩ := rem8 a0 h0
  obtain ⟨t, et9, ht9⟩ := rem8 b0 h0
  obtain ⟨m, em, hm9⟩ := rem8 c0 h0
  have HS := Lib.hid hs
  have HIN := Lib.hid hin
  have HGR := Lib.hid hgr
  have HOK := Lib.hid hok
  have ES := Lib.hid es
  have ET := Lib.hid et9
  have EM := Lib.hid em
  have hz : ((n.a.length : Int) == 0) = false := beq_eq_false_iff_ne.2 (by omega)
  have hnl : (n.a.length : Int) ≤ 90 := by omega
  have hnp : (0 : Int) < (n.a.length : Int) := by omega
  clear hs hin hgr hfew hok es et9 em
  obtain ⟨W0, hW0⟩ := named (w.alloc (.cells #[.slice vq n.v.length vc, .slice aq n.a.length ac, .slice tq n.t.length tc] 26))
  have hb0 : Below w.heap.size w W0 := by rw [hW0]; exact below_alloc1 _
  have k0 : Blk W0 w.heap.size #[.slice vq n.v.length vc, .slice aq n.a.length ac, .slice tq n.t.length tc] 26 := by rw [hW0]; exact Blk.new _ _ _ _ rfl
  have KA := Lib.hid (k0)
  have B0 := Lib.hid (hb0)
  have VA := Lib.hid (hv.below hb0)
  have e0 := hW0.symm
  clear hb0 k0 hW0 hv
  go_enter Try.func3, Try.ntmps3
  go_wp2_with fail
  clear e0
  refine (known8_any W0).mono ?_
  rintro e w1 ⟨rfl, hb⟩
  have KA_ := Lib.hid (KA.out.keep hb)
  have B0_ := Lib.hid (bOn6 B0.out hb)
  have VA_ := Lib.hid (VA.out.below hb)
  clear KA B0 VA
  have KA := KA_
  have B0 := B0_
  have VA := VA_
  clear KA_ B0_ VA_
  clear hb 
  obtain ⟨p0, p1, p2, -, -, -⟩ := KA.out.o3
  have pl := KA.out.lt
  go_wp2_with fail
  clear p0 p1 p2 pl
  refine (vSmall VA.out HIN.out HS.out).mono ?_
  rintro e w2 ⟨rfl, hb⟩
  have KA_ := Lib.hid (KA.out.keep hb)
  have B0_ := Lib.hid (bOn6 B0.out hb)
  have VA_ := Lib.hid (VA.out.below hb)
  clear KA B0 VA
  have KA := KA_
  have B0 := B0_
  have VA := VA_
  clear KA_ B0_ VA_
  clear hb 
  obtain ⟨p0, p1, p2, -, -, -⟩ := KA.out.o3
  have pl := KA.out.lt
  go_wp2_with fail
  clear p0 p1 p2 pl
  refine (vMade B0.out VA.out HGR.out HOK.out).mono ?_
  rintro e w3 ⟨p, va, vt, rfl, hG, hb⟩
  have KA_ := Lib.hid (KA.out.keep hb)
  have B0_ := Lib.hid (bOn6 B0.out hb)
  have VA_ := Lib.hid (VA.out.below hb)
  clear KA B0 VA
  have KA := KA_
  have B0 := B0_
  have VA := VA_
  clear KA_ B0_ VA_
  have G := Lib.hid (hG)
  clear B0
  clear hb hG
  obtain ⟨p0, p1, p2, -, -, -⟩ := KA.out.o3
  have pl := KA.out.lt
  go_wp2_with fail
  have wa : IntKind.i64.wrap a = a := IntWalk.i64_in _ (by omega)
  have wb : IntKind.i64.wrap b = b := IntWalk.i64_in _ (by omega)
  have wc : IntKind.i64.wrap c = c := IntWalk.i64_in _ (by omega)
  have es := ES.out
  have et9 := ET.out
  have em := EM.out
  have ws : IntKind.i64.wrap (s : Int) = s := IntWalk.i64_in _ (by omega)
  have wt9 : IntKind.i64.wrap (t : Int) = t := IntWalk.i64_in _ (by omega)
  have wm : IntKind.i64.wrap (m : Int) = m := IntWalk.i64_in _ (by omega)
  go_quiet (fail)
  clear p0 p1 p2 pl wa wb wc es et9 em ws wt9 wm
  obtain ⟨w4, hw4⟩ := named (w3.drewN nq)
  have hb : Below w3.heap.size w3 w4 := by rw [hw4]; exact below_drewN (Below.refl _ _) nq
  rw [← hw4]
  have KA_ := Lib.hid (KA.out.keep hb)
  have VA_ := Lib.hid (VA.out.below hb)
  have G_ := Lib.hid (G.out.old hb)
  clear KA VA G
  have KA := KA_
  have VA := VA_
  have G := G_
  clear KA_ VA_ G_
  clear hb hw4
  go_wp2_with fail
  refine (wFrom_is G.out.g G.out.n s (by omega) (by omega)).mono ?_
  rintro e xw ⟨xv, xl, rfl, xh, xF, hb⟩
  have xn := xF.1
  obtain ⟨xq, xc, rfl⟩ := xh.shape
  rw [xn]
  rw [xn] at xh
  have KA_ := Lib.hid (KA.out.keep hb)
  have VA_ := Lib.hid (VA.out.below hb)
  have G_ := Lib.hid (G.out.old hb)
  clear KA VA G
  have KA := KA_
  have VA := VA_
  have G := G_
  clear KA_ VA_ G_
  have XR := Lib.hid (xh)
  have XF := Lib.hid xF
  clear hb xh xF xn
  go_wp2_with fail
  refine (wFrom_is G.out.g G.out.n m (by omega) (by omega)).mono ?_
  rintro e yw ⟨yv, yl, rfl, yh, yF, hb⟩
  have yn := yF.1
  obtain ⟨yq, yc, rfl⟩ := yh.shape
  rw [yn]
  rw [yn] at yh
  have KA_ := Lib.hid (KA.out.keep hb)
  have VA_ := Lib.hid (VA.out.below hb)
  have G_ := Lib.hid (G.out.old hb)
  have XR_ := Lib.hid (XR.out.below hb)
  clear KA VA G XR
  have KA := KA_
  have VA := VA_
  have G := G_
  have XR := XR_
  clear KA_ VA_ G_ XR_
  have YR := Lib.hid (yh)
  have YF := Lib.hid yF
  clear hb yh yF yn
  go_wp2_with fail
  refine (wTo_is G.out.g G.out.n t (by omega) (by omega)).mono ?_
  rintro e zw ⟨zv, zl, rfl, zh, zF, hb⟩
  have zn := zF.1
  obtain ⟨zq, zc, rfl⟩ := zh.shape
  rw [zn]
  rw [zn] at zh
  have KA_ := Lib.hid (KA.out.keep hb)
  have VA_ := Lib.hid (VA.out.below hb)
  have G_ := Lib.hid (G.out.old hb)
  have XR_ := Lib.hid (XR.out.below hb)
  have YR_ := Lib.hid (YR.out.below hb)
  clear KA VA G XR YR
  have KA := KA_
  have VA := VA_
  have G := G_
  have XR := XR_
  have YR := YR_
  clear KA_ VA_ G_ XR_ YR_
  have ZR := Lib.hid (zh)
  have ZF := Lib.hid zF
  clear hb zh zF zn
  obtain ⟨ab, ao, rfl, -, -, ha2⟩ := (show NetV _ (netVal n vq aq tq vc ac tc) n from VA.out).s.a.at hs9
  obtain ⟨V, hV⟩ : ∃ V, n.a[s].2.2 = V := ⟨_, rfl⟩
  rw [hV] at ha2
  have hal := World.block_lt_of_cell? zw _ ha2
  obtain ⟨xb, xo, rfl, hxl, hxc⟩ := XR.out.cellsAt (by rw [XF.out.1]; exact h0)
  obtain ⟨yb, yo, rfl, hyl, hyc⟩ := YR.out.cellsAt (by rw [YF.out.1]; exact h0)
  obtain ⟨zb, zo, rfl, hzl, hzc⟩ := ZR.out.cellsAt (by rw [ZF.out.1]; exact h0)
  have m1 := XF.out.meets ZF.out hs9 ht9
  have m2 := YF.out.meets ZF.out hm9 ht9
  have m3 := XF.out.by_way YF.out ht9
  have m4 := XF.out.self hs9
  have bx := XF.out.bd m hm9
  have byt := YF.out.bd t ht9
  have cxt := hxc t (by rw [XF.out.1]; exact ht9)
  have cxm := hxc m (by rw [XF.out.1]; exact hm9)
  have cxs := hxc s (by rw [XF.out.1]; exact hs9)
  have cyt := hyc t (by rw [YF.out.1]; exact ht9)
  have czs := hzc s (by rw [ZF.out.1]; exact hs9)
  have czm := hzc m (by rw [ZF.out.1]; exact hm9)
  rw [← m1] at czs
  rw [← m2] at czm
  rw [m4] at cxs
  have hwn : wN n s = V := by unfold wN; rw [NetGood.arc_at s hs9]; exact hV
  rw [hwn] at cxs
  generalize ctL xl t = A at m1 m3 cxt czs
  generalize ctL xl m = M at m3 cxm bx
  generalize ctL yl t = Y at m2 m3 cyt czm byt
  generalize hD : addC M Y = D at m3
  have HD := Lib.hid hD
  have hsi : (s : Int) < (n.a.length : Int) := by omega
  have hti : (t : Int) < (n.a.length : Int) := by omega
  have hmi : (m : Int) < (n.a.length : Int) := by omega
  clear hV hxc hyc hzc m1 m2 m4 hD hwn
  by_cases hI : V = 1152921504606846976
  · rw [if_pos hI] at cxs
    have hI1 : (V == 1152921504606846976) = true := by simpa using hI
    clear hI
    obtain ⟨p0, p1, p2, -, -, -⟩ := KA.out.o3
    have pl := KA.out.lt
    go_wp2_with fail
    go_quiet ((go_at_call 11; exact Calls.quiet_of_same (quiet_add8 M Y D _ (by omega) (by omega) (by omega) (by omega) HD.out)))
    clear p0 p1 p2 pl cxt cxm cxs cyt czs czm
    go_wp2_with fail
    go_ret
    exact ⟨rfl, below_drewN G.out.b _⟩
  · rw [if_neg hI] at cxs
    have hI1 : (V == 1152921504606846976) = false := by simpa using hI
    clear hI
    obtain ⟨p0, p1, p2, -, -, -⟩ := KA.out.o3
    have pl := KA.out.lt
    go_wp2_with fail
    go_quiet ((go_at_call 11; exact Calls.quiet_of_same (quiet_add8 M Y D _ (by omega) (by omega) (by omega) (by omega) HD.out)))
    clear p0 p1 p2 pl cxt cxm cxs cyt czs czm
    go_wp2_with fail
    go_ret
    exact ⟨rfl, below_drewN G.out.b _⟩
theorem meets_law (v : Value) (n : NetD) (a b c : Int) (w : World) (hv : NetV w v n) (hin : InNet n) (a0 : 0 ≤ a) (a1 : a ≤ 65535) (b0 : 0 ≤ b) (b1 : b ≤ 65535) (c0 : 0 ≤ c) (c1 : c ≤ 65535) :
    Calls Try.prog 3 #[v, .int .u16 a, .int .u16 b, .int .u16 c] w fun e w' => e = .returned (.bool true) ∧ Below w.heap.size w w' := by
  cases hs : smallN n with
  | false => exact meets_no v n a b c w hv hin hs
  | true =>
    by_cases h0 : n.a.length = 0
    · exact meets_zero v n a b c w hv hin hs h0
    · exact meets_main v n a b c w hv hin hs (by omega) a0 a1 b0 b1 c0 c1

set_option maxRecDepth 100000 in
theorem walkMeets_walks : WalksP 3 Try.f3 := by
  intro H enc W args ds g
  obtain ⟨ps, hA⟩ := g.reads
  obtain ⟨base, hval⟩ := g.okay
  rw [Try.params3] at hA hval
  obtain ⟨v0, vs0, d0, ds0, p0, q0, hargs, rfl, rfl, h0, r0⟩ := trodAll_cons hA
  obtain ⟨v1, vs1, d1, ds1, p1, q1, rfl, rfl, rfl, h1, r1⟩ := trodAll_cons r0
  obtain ⟨v2, vs2, d2, ds2, p2, q2, rfl, rfl, rfl, h2, r2⟩ := trodAll_cons r1
  obtain ⟨v3, vs3, d3, ds3, p3, q3, rfl, rfl, rfl, h3, r3⟩ := trodAll_cons r2
  obtain ⟨rfl, rfl, rfl⟩ := trodAll_nil r3
  obtain rfl : args = #[v0, v1, v2, v3] := Array.toList_inj.1 hargs
  obtain ⟨n0, w0, u0⟩ := open_net (hval 0 26 v0 rfl rfl) h0
  obtain ⟨x1, rfl, rfl, rfl, w1⟩ := open_int Try.underlying27 (hval 1 27 v1 rfl rfl) h1
  obtain ⟨x2, rfl, rfl, rfl, w2⟩ := open_int Try.underlying27 (hval 2 27 v2 rfl rfl) h2
  obtain ⟨x3, rfl, rfl, rfl, w3⟩ := open_int Try.underlying27 (hval 3 27 v3 rfl rfl) h3
  exact meets_law v0 n0 x1 x2 x3 W w0 u0 (wfu16 w1).1 (wfu16 w1).2 (wfu16 w2).1 (wfu16 w2).2 (wfu16 w3).1 (wfu16 w3).2

theorem walkMeets_row : Rows.WalkMeetsSaid :=
  OpenClaim.holds_of_wide 3 Try.f3 rfl rfl rfl rfl rfl rfl rfl ⟨rfl, rfl, rfl, rfl, rfl⟩ rfl rfl rfl rfl rfl (by kernel_rfl) Try.func3 (by kernel_rfl)
    (of_decide_eq_true (by kernel_rfl)) (by unfold Func.isWrapper; rw [if_neg (of_decide_eq_false (by kernel_rfl))]; exact ⟨rfl, rfl⟩)
    (fun os started H enc _ => law_plain (s := Rows.walkMeetsSpec) Try.func3 (by kernel_rfl) rfl (by kernel_rfl)
      (fun H ds hl => by
        rw [Try.params3] at hl
        match ds, hl with
        | [_, _, _, _], _ => exact ⟨rfl, rfl, rfl⟩)
      (by kernel_rfl) os started H enc
      (ChangeSpec.witness6 (enc := enc) (C := Try.checked) false ⟨#[], #[.agg #[.slice none 0 0, .slice none 0 0, .slice none 0 0], .int .u16 0, .int .u16 0, .int .u16 0], []⟩ 8 (by kernel_rfl) (by kernel_rfl) (by kernel_rfl) (by kernel_rfl))
      walkMeets_walks)
#print axioms walkMeets_row

end Go.Proofs.Ytlfihaajnjeaeaa
