/-
  PROVED: one edge more lets at most one more go, and none less; it is one more just where it goes from Near out of Far. For every number, all edges, every two sets, every two numbers.
-/
import Derived.Test.YtgihaakgadmidaaDoorFlKn
import Derived.Test.YtgihaakgadmidaaDoorFlLm
import Derived.Test.YtgihaakgadmidaaDoorFlAp
import Derived.Test.YtgihaakgadmidaaDoorLaid9
import Derived.RegionTactic
import Derived.BigQuiet
import Derived.IntWalk
import Derived.Test.YtgihaakgadmidaaDoorCards
import Derived.Test.YtgihaakgadmidaaDoorTie
import Derived.SevenTiedAt
namespace Go.Proofs.YtgihaakgadmidaaDoor
open Go.ChangeShapes Go.WideShapes Go.ChangeAt Go.RowKit

set_option maxHeartbeats 8000000 in
set_option maxRecDepth 100000 in
theorem more_walk (n : Int) (ev : Value) (l : List (Int × Int)) (sv : Value) (src : List Int) (dv : Value) (dst : List Int) (a b : Int) (w : World) (hg : ErrT w) (n0 : -9223372036854775808 ≤ n) (n1 : n ≤ 9223372036854775807) (he : Prs w ev l) (hei : InPrs l) (hs : I64s w sv src) (hsi : In64 src) (hd : I64s w dv dst) (hdi : In64 dst) (a0 : 0 ≤ a) (a1 : a ≤ 65535) (b0 : 0 ≤ b) (bb1 : b ≤ 65535) :
    Calls Tryd.prog 7 #[.int .i64 n, ev, sv, dv, .int .u16 a, .int .u16 b] w fun e w' => e = .returned (.bool true) ∧ Below w.heap.size w w' := by
  obtain ⟨eq0, ec0, rfl⟩ := he.shape
  obtain ⟨sq0, sc0, rfl⟩ := hs.shape
  obtain ⟨dq0, dc0, rfl⟩ := hd.shape
  have HG := Lib.hid hg
  have HB := Lib.hid (Below.refl w.heap.size w)
  have HE := Lib.hid he
  have HS := Lib.hid hs
  have HD := Lib.hid hd
  clear hg he hs hd
  go_enter Tryd.func7, Tryd.ntmps7
  go_wp2_with fail
  refine (known9_any _ HG.out).mono ?_
  rintro e w1 ⟨rfl, hb⟩
  have HB_ := Lib.hid (bOn6 HB.out hb)
  have HE_ := Lib.hid (HE.out.below hb)
  have HS_ := Lib.hid (HS.out.below hb)
  have HD_ := Lib.hid (HD.out.below hb)
  clear HB HE HS HD
  have HB := HB_
  have HE := HE_
  have HS := HS_
  have HD := HD_
  clear HB_ HE_ HS_ HD_
  clear hb
  by_cases c0 : 60 < n
  · have d0 : decide (60 < n) = true := by simpa using c0
    go_wp2_with fail
    go_ret
    exact ⟨rfl, HB.out⟩
  have d0 : decide (60 < n) = false := by simpa using c0
  by_cases c1 : n < 1
  · have d1 : decide (n < 1) = true := by simpa using c1
    go_wp2_with fail
    go_ret
    exact ⟨rfl, HB.out⟩
  have d1 : decide (n < 1) = false := by simpa using c1
  by_cases c2 : (150 : Int) < (l.length : Int)
  · have d2 : decide ((150 : Int) < (l.length : Int)) = true := by simpa using c2
    go_wp2_with fail
    go_ret
    exact ⟨rfl, HB.out⟩
  have d2 : decide ((150 : Int) < (l.length : Int)) = false := by simpa using c2
  by_cases c3 : (80 : Int) < (src.length : Int)
  · have d3 : decide ((80 : Int) < (src.length : Int)) = true := by simpa using c3
    go_wp2_with fail
    go_ret
    exact ⟨rfl, HB.out⟩
  have d3 : decide ((80 : Int) < (src.length : Int)) = false := by simpa using c3
  by_cases c4 : (80 : Int) < (dst.length : Int)
  · have d4 : decide ((80 : Int) < (dst.length : Int)) = true := by simpa using c4
    go_wp2_with fail
    go_ret
    exact ⟨rfl, HB.out⟩
  have d4 : decide ((80 : Int) < (dst.length : Int)) = false := by simpa using c4
  go_wp2_with fail
  refine (checkFlow_is HE.out HS.out HD.out (by omega) (by omega) (by omega) (by omega)).mono ?_
  rintro e w2 ⟨q9, n9, m9, er, rfl, her, hb⟩
  have HER := Lib.hid her
  have hfl9 := wr_field1 (.slice q9 n9 m9) (.int .i64 er) w2
  clear her
  have HB_ := Lib.hid (bOn6 HB.out hb)
  have HE_ := Lib.hid (HE.out.below hb)
  have HS_ := Lib.hid (HS.out.below hb)
  have HD_ := Lib.hid (HD.out.below hb)
  clear HB HE HS HD
  have HB := HB_
  have HE := HE_
  have HS := HS_
  have HD := HD_
  clear HB_ HE_ HS_ HD_
  clear hb
  by_cases hq : OkA n l src dst ∧ ¬ Twice src dst
  case neg =>
    have d9 : (er != 0) = true := by
      simp only [bne_iff_ne, ne_eq]
      exact fun e => hq (HER.out.1 e)
    have d9b : (er == 0) = false := by simpa using d9
    go_wp2_with fail
    go_ret
    exact ⟨rfl, HB.out⟩
  obtain ⟨hok, htw⟩ := hq
  have d9 : (er != 0) = false := by
    simp only [bne_eq_false_iff_eq]
    exact HER.out.2 ⟨hok, htw⟩
  have d9b : (er == 0) = true := by simpa using d9
  obtain ⟨N, E, S, D, hN, hE, hEI, hS, hD, hSN, hDN⟩ := hok.edges
  subst hN hE hS hD
  rw [zE_len] at *
  rw [zN_len] at *
  rw [zN_len] at *
  have HEI := Lib.hid hEI
  have HSN := Lib.hid hSN
  have HDN := Lib.hid hDN
  have HTW := Lib.hid htw
  have HLN : Hid (0 < N ∧ N ≤ 60) := Lib.hid ⟨by omega, by omega⟩
  have HLE : Hid (E.length ≤ 150) := Lib.hid (by omega)
  have HLS : Hid (S.length ≤ 1000000) := Lib.hid (by omega)
  have HLD : Hid (D.length ≤ 1000000) := Lib.hid (by omega)
  obtain ⟨X, hX, hXN⟩ := remN a0 HLN.out.1
  obtain ⟨Y, hY, hYN⟩ := remN b0 HLN.out.1
  have HXN := Lib.hid hXN
  have HYN := Lib.hid hYN
  clear hok htw hEI hSN hDN
  go_wp2_with fail
  clear d0 d1 d2 d3 d4 d9 d9b hfl9 c0 c1 c2 c3 c4
  have wa : IntKind.i64.wrap a = a := IntWalk.i64_in _ (by omega)
  have wb : IntKind.i64.wrap b = b := IntWalk.i64_in _ (by omega)
  have wx : IntKind.i64.wrap (X : Int) = X := IntWalk.i64_in _ (by have := HLN.out; omega)
  have wy : IntKind.i64.wrap (Y : Int) = Y := IntWalk.i64_in _ (by have := HLN.out; omega)
  have hn0 : ((N : Int) == 0) = false := beq_eq_false_iff_ne.2 (by have := HLN.out; omega)
  have hnp : (0 : Int) < (N : Int) := by have := HLN.out; omega
  have hn60 : (N : Int) ≤ 60 := by have := HLN.out; omega
  go_quiet (fail)
  clear wa wb hX hY hn0 wx wy
  obtain ⟨w3, hw3⟩ := named (w2.drewN nq)
  have hb : Below w2.heap.size w2 w3 := by rw [hw3]; exact below_drewN (Below.refl _ _) nq
  rw [← hw3]
  have HB_ := Lib.hid (bOn6 HB.out hb)
  have HE_ := Lib.hid (HE.out.below hb)
  have HS_ := Lib.hid (HS.out.below hb)
  have HD_ := Lib.hid (HD.out.below hb)
  clear HB HE HS HD
  have HB := HB_
  have HE := HE_
  have HS := HS_
  have HD := HD_
  clear HB_ HE_ HS_ HD_
  clear hb hw3
  go_wp2_with fail
  refine (max_is (N := N) (E := E) (S := S) (D := D) HE.out HS.out HD.out (by have := HLN.out; omega) (by have := HLE.out; omega) (HLS.out) (HLD.out) (okA_of HEI.out HSN.out HDN.out) (HEI.out) (HSN.out) (HDN.out)).mono ?_
  rintro e w4 ⟨hb, ⟨-, V1, f1, near1, far1, fv1, nv1, gv1, rfl, hf, hn, hg, hq⟩ | ⟨htw, -⟩⟩
  case inr => exact absurd htw HTW.out
  have HQ1 := Lib.hid hq
  obtain ⟨fq1, fc1, rfl⟩ := hf.shape
  obtain ⟨nq1, nc1, rfl⟩ := hn.shapeN hq.nl
  obtain ⟨gq1, gc1, rfl⟩ := hg.shapeN hq.gl
  obtain ⟨L1, hL⟩ : ∃ L, f1.length = L := ⟨_, rfl⟩
  rw [hL]
  rw [hL] at hf
  clear hL
  have HV1 : Hid (0 ≤ V1 ∧ V1 ≤ (E).length) := Lib.hid (by rw [← (hq.maxQ (HEI.out)).nearV]; exact crossTo_bd _ _ _)
  clear hq
  have HB_ := Lib.hid (bOn6 HB.out hb)
  have HE_ := Lib.hid (HE.out.below hb)
  have HS_ := Lib.hid (HS.out.below hb)
  have HD_ := Lib.hid (HD.out.below hb)
  clear HB HE HS HD
  have HB := HB_
  have HE := HE_
  have HS := HS_
  have HD := HD_
  clear HB_ HE_ HS_ HD_
  clear hb
  have HF1 := Lib.hid hf
  have HN1 := Lib.hid hn
  have HGV1 := Lib.hid hg
  clear hf hn hg
  obtain ⟨x1, hx1⟩ := named (w4.alloc (.cells #[.int .i64 V1, .slice fq1 L1 fc1, .slice nq1 N nc1, .slice gq1 N gc1] 30))
  have hb : Below w4.heap.size w4 x1 := by rw [hx1]; exact below_alloc1 _
  obtain ⟨g1, hg1⟩ : ∃ g, w4.heap.size = g := ⟨_, rfl⟩
  have kb : Blk x1 g1 #[.int .i64 V1, .slice fq1 L1 fc1, .slice nq1 N nc1, .slice gq1 N gc1] 30 := by rw [hx1]; exact Blk.new _ _ _ _ hg1
  have HB_ := Lib.hid (bOn6 HB.out hb)
  have HE_ := Lib.hid (HE.out.below hb)
  have HS_ := Lib.hid (HS.out.below hb)
  have HD_ := Lib.hid (HD.out.below hb)
  have HF1_ := Lib.hid (HF1.out.below hb)
  have HN1_ := Lib.hid (HN1.out.below hb)
  have HGV1_ := Lib.hid (HGV1.out.below hb)
  clear HB HE HS HD HF1 HN1 HGV1
  have HB := HB_
  have HE := HE_
  have HS := HS_
  have HD := HD_
  have HF1 := HF1_
  have HN1 := HN1_
  have HGV1 := HGV1_
  clear HB_ HE_ HS_ HD_ HF1_ HN1_ HGV1_
  have KR1 := Lib.hid (kb)
  have e1 := hx1.symm
  have z1 : Hid (x1.heap.size = w4.heap.size + 1) := Lib.hid (by rw [hx1]; simp)
  clear hb kb hx1
  go_wp2_with fail
  clear e1 z1
  refine (copies_own HE.out (by rw [zE_len]; have := HLE.out; omega)).mono ?_
  rintro e w5 ⟨u, rfl, hu, hb5⟩
  rw [zE_len] at hu
  obtain ⟨uq, uc, rfl⟩ := own_shape hu
  obtain ⟨y2, hy2⟩ := named (w5.alloc (.cells #[.int .i64 X, .int .i64 Y] 43))
  have hbx : Below w5.heap.size w5 y2 := by rw [hy2]; exact below_alloc1 _
  obtain ⟨gy, hgy⟩ : ∃ g, w5.heap.size = g := ⟨_, rfl⟩
  have kp : Blk y2 gy #[.int .i64 X, .int .i64 Y] 43 := by rw [hy2]; exact Blk.new _ _ _ _ hgy
  obtain ⟨q5, c5, w6, hr6, ho6, hb6⟩ := appP (l := zE E) (news := [((X : Int), (Y : Int))]) (by rw [zE_len]; exact own_below hu hbx) kp (by rw [zE_len]; have := HLE.out; omega) (by simp) (by have := hb5.size; have := hbx.size; omega)
  have hp6 := prs_of_owns ho6 (by rw [List.length_append, zE_len]; have := HLE.out; simp; omega)
  simp only [zE_len, List.length_singleton] at hp6 hr6
  have HR7 := Lib.hid hr6
  have HP6 : Hid (Prs w6 (.slice q5 (E.length + 1) c5) (zE (E ++ [(X, Y)]))) := Lib.hid (by rw [zE_app]; exact hp6)
  have hb : Below x1.heap.size x1 w6 := (hb5.trans (hbx.mono hb5.size)).trans hb6
  have HB_ := Lib.hid (bOn6 HB.out hb)
  have HE_ := Lib.hid (HE.out.below hb)
  have HS_ := Lib.hid (HS.out.below hb)
  have HD_ := Lib.hid (HD.out.below hb)
  have HF1_ := Lib.hid (HF1.out.below hb)
  have HN1_ := Lib.hid (HN1.out.below hb)
  have HGV1_ := Lib.hid (HGV1.out.below hb)
  have KR1_ := Lib.hid (KR1.out.keep hb)
  clear HB HE HS HD HF1 HN1 HGV1 KR1
  have HB := HB_
  have HE := HE_
  have HS := HS_
  have HD := HD_
  have HF1 := HF1_
  have HN1 := HN1_
  have HGV1 := HGV1_
  have KR1 := KR1_
  clear HB_ HE_ HS_ HD_ HF1_ HN1_ HGV1_ KR1_
  have e9 := hy2.symm
  clear hu hb5 hbx kp hr6 ho6 hb6 hp6 hb hy2
  go_wp2_with (at_builtin; refine wpList_append_run (by rfl) _ _ _ rfl _ _ _ rfl rfl HR7.out ?_)
  clear e9
  have HE2 : Hid (EdgIn N (E ++ [(X, Y)])) := Lib.hid (edgIn_app HEI.out (edgIn_one HXN.out HYN.out))
  have HL2 : Hid ((E ++ [(X, Y)]).length = E.length + 1) := Lib.hid (by simp)
  refine (max_is (N := N) (E := E ++ [(X, Y)]) (S := S) (D := D) HP6.out HS.out HD.out (by have := HLN.out; omega) (by rw [HL2.out]; have := HLE.out; omega) (HLS.out) (HLD.out) (okA_of HE2.out HSN.out HDN.out) (HE2.out) (HSN.out) (HDN.out)).mono ?_
  rintro e w7 ⟨hb, ⟨-, V2, f2, near2, far2, fv2, nv2, gv2, rfl, hf, hn, hg, hq⟩ | ⟨htw, -⟩⟩
  case inr => exact absurd htw HTW.out
  have HQ2 := Lib.hid hq
  obtain ⟨fq2, fc2, rfl⟩ := hf.shape
  obtain ⟨nq2, nc2, rfl⟩ := hn.shapeN hq.nl
  obtain ⟨gq2, gc2, rfl⟩ := hg.shapeN hq.gl
  obtain ⟨L2, hL⟩ : ∃ L, f2.length = L := ⟨_, rfl⟩
  rw [hL]
  rw [hL] at hf
  clear hL
  have HV2 : Hid (0 ≤ V2 ∧ V2 ≤ (E ++ [(X, Y)]).length) := Lib.hid (by rw [← (hq.maxQ (HE2.out)).nearV]; exact crossTo_bd _ _ _)
  clear hq
  have HB_ := Lib.hid (bOn6 HB.out hb)
  have HE_ := Lib.hid (HE.out.below hb)
  have HS_ := Lib.hid (HS.out.below hb)
  have HD_ := Lib.hid (HD.out.below hb)
  have HF1_ := Lib.hid (HF1.out.below hb)
  have HN1_ := Lib.hid (HN1.out.below hb)
  have HGV1_ := Lib.hid (HGV1.out.below hb)
  have KR1_ := Lib.hid (KR1.out.keep hb)
  have HP6_ := Lib.hid (HP6.out.below hb)
  clear HB HE HS HD HF1 HN1 HGV1 KR1 HP6
  have HB := HB_
  have HE := HE_
  have HS := HS_
  have HD := HD_
  have HF1 := HF1_
  have HN1 := HN1_
  have HGV1 := HGV1_
  have KR1 := KR1_
  have HP6 := HP6_
  clear HB_ HE_ HS_ HD_ HF1_ HN1_ HGV1_ KR1_ HP6_
  clear hb
  have HF2 := Lib.hid hf
  have HN2 := Lib.hid hn
  have HGV2 := Lib.hid hg
  clear hf hn hg
  obtain ⟨x2, hx2⟩ := named (w7.alloc (.cells #[.int .i64 V2, .slice fq2 L2 fc2, .slice nq2 N nc2, .slice gq2 N gc2] 30))
  have hb : Below w7.heap.size w7 x2 := by rw [hx2]; exact below_alloc1 _
  obtain ⟨g2, hg2⟩ : ∃ g, w7.heap.size = g := ⟨_, rfl⟩
  have kb : Blk x2 g2 #[.int .i64 V2, .slice fq2 L2 fc2, .slice nq2 N nc2, .slice gq2 N gc2] 30 := by rw [hx2]; exact Blk.new _ _ _ _ hg2
  have HB_ := Lib.hid (bOn6 HB.out hb)
  have HE_ := Lib.hid (HE.out.below hb)
  have HS_ := Lib.hid (HS.out.below hb)
  have HD_ := Lib.hid (HD.out.below hb)
  have HF1_ := Lib.hid (HF1.out.below hb)
  have HN1_ := Lib.hid (HN1.out.below hb)
  have HGV1_ := Lib.hid (HGV1.out.below hb)
  have KR1_ := Lib.hid (KR1.out.keep hb)
  have HP6_ := Lib.hid (HP6.out.below hb)
  have HF2_ := Lib.hid (HF2.out.below hb)
  have HN2_ := Lib.hid (HN2.out.below hb)
  have HGV2_ := Lib.hid (HGV2.out.below hb)
  clear HB HE HS HD HF1 HN1 HGV1 KR1 HP6 HF2 HN2 HGV2
  have HB := HB_
  have HE := HE_
  have HS := HS_
  have HD := HD_
  have HF1 := HF1_
  have HN1 := HN1_
  have HGV1 := HGV1_
  have KR1 := KR1_
  have HP6 := HP6_
  have HF2 := HF2_
  have HN2 := HN2_
  have HGV2 := HGV2_
  clear HB_ HE_ HS_ HD_ HF1_ HN1_ HGV1_ KR1_ HP6_ HF2_ HN2_ HGV2_
  have KR2 := Lib.hid (kb)
  have e2 := hx2.symm
  have z2 : Hid (x2.heap.size = w7.heap.size + 1) := Lib.hid (by rw [hx2]; simp)
  clear hb kb hx2
  have HW : Hid (V2 = if ((setB near1 X && !setB far1 Y) || (setB near1 Y && !setB far1 X)) = true then V1 + 1 else V1) := Lib.hid ((HQ1.out.maxQ HEI.out).more (HQ2.out.maxQ HE2.out) HXN.out HYN.out)
  obtain ⟨nb, no, rfl, nx, nl⟩ := HN1.out.atN (k := X) (by rw [HQ1.out.nl]; exact HXN.out)
  obtain ⟨nb', no', ne, ny, -⟩ := HN1.out.atN (k := Y) (by rw [HQ1.out.nl]; exact HYN.out)
  obtain ⟨gb, go, rfl, gx, gl⟩ := HGV1.out.atN (k := X) (by rw [HQ1.out.gl]; exact HXN.out)
  obtain ⟨gb', go', ge, gy, -⟩ := HGV1.out.atN (k := Y) (by rw [HQ1.out.gl]; exact HYN.out)
  injection ne with ne
  injection ne with ne1 ne2
  subst ne1 ne2
  injection ge with ge
  injection ge with ge1 ge2
  subst ge1 ge2
  obtain ⟨k0, k1, k2, k3, -⟩ := KR1.out.o4
  obtain ⟨m0, m1, m2, m3, -⟩ := KR2.out.o4
  have kl := KR1.out.lt
  have ml := KR2.out.lt
  have hXi : (X : Int) < (N : Int) := by have := HXN.out; omega
  have hYi : (Y : Int) < (N : Int) := by have := HYN.out; omega
  have hv1 := HV1.out
  have hle := HLE.out
  have hwv : IntKind.i64.wrap (V1 + 1) = V1 + 1 := IntWalk.i64_in _ (by omega)
  have hne1 : (V1 == V1 + 1) = false := beq_eq_false_iff_ne.2 (by omega)
  generalize setB near1 X = b1 at nx HW
  generalize setB near1 Y = b2 at ny HW
  generalize setB far1 X = b3 at gx HW
  generalize setB far1 Y = b4 at gy HW
  cases b1 <;> cases b2 <;> cases b3 <;> cases b4
  all_goals
    have hw := HW.out
    simp only [Bool.not_true, Bool.not_false, Bool.and_true, Bool.and_false, Bool.or_true, Bool.or_false, if_true, if_false, Bool.false_eq_true, Bool.or_self] at hw
    subst hw
    clear HW
    go_wp2_with fail
    go_ret
    exact ⟨rfl, HB.out⟩
set_option maxRecDepth 100000 in
theorem flowMore_walks : Walks laidAll 7 Tryd.f7 := by
  intro H enc W args ds g
  obtain ⟨ps, hA⟩ := g.reads
  obtain ⟨base, hval⟩ := g.okay
  rw [Tryd.params7] at hA hval
  obtain ⟨v0, vs0, d0, ds0, p0, q0, hargs, rfl, rfl, h0, r0⟩ := trodAll_cons hA
  obtain ⟨v1, vs1, d1, ds1, p1, q1, rfl, rfl, rfl, h1, r1⟩ := trodAll_cons r0
  obtain ⟨v2, vs2, d2, ds2, p2, q2, rfl, rfl, rfl, h2, r2⟩ := trodAll_cons r1
  obtain ⟨v3, vs3, d3, ds3, p3, q3, rfl, rfl, rfl, h3, r3⟩ := trodAll_cons r2
  obtain ⟨v4, vs4, d4, ds4, p4, q4, rfl, rfl, rfl, h4, r4⟩ := trodAll_cons r3
  obtain ⟨v5, vs5, d5, ds5, p5, q5, rfl, rfl, rfl, h5, r5⟩ := trodAll_cons r4
  obtain ⟨rfl, rfl, rfl⟩ := trodAll_nil r5
  obtain rfl : args = #[v0, v1, v2, v3, v4, v5] := Array.toList_inj.1 hargs
  obtain ⟨x0, rfl, rfl, rfl, w0⟩ := open_int Tryd.underlying3 (hval 0 3 v0 rfl rfl) h0
  obtain ⟨x1, w1, u1⟩ := open_edges (hval 1 22 v1 rfl rfl) h1
  obtain ⟨x2, w2, u2⟩ := open_intsIn (hval 2 23 v2 rfl rfl) h2
  obtain ⟨x3, w3, u3⟩ := open_intsIn (hval 3 23 v3 rfl rfl) h3
  obtain ⟨x4, rfl, rfl, rfl, w4⟩ := open_int Tryd.underlying47 (hval 4 47 v4 rfl rfl) h4
  obtain ⟨x5, rfl, rfl, rfl, w5⟩ := open_int Tryd.underlying47 (hval 5 47 v5 rfl rfl) h5
  exact more_walk x0 v1 x1 v2 x2 v3 x3 x4 x5 W (errT_of_laid g.laid) (wf64 w0).1 (wf64 w0).2 w1 u1 w2 u2 w3 u3 (wfu16 w4).1 (wfu16 w4).2 (wfu16 w5).1 (wfu16 w5).2

theorem flowMore_row : Rows.FlowMoreSaid :=
  OpenClaim.holds_of_wide 7 Tryd.f7 rfl rfl rfl rfl rfl rfl rfl ⟨rfl, rfl, rfl, rfl, rfl⟩ rfl rfl rfl rfl rfl (by kernel_rfl) Tryd.func7 (by kernel_rfl)
    (of_decide_eq_true (by kernel_rfl)) (by unfold Func.isWrapper; rw [if_neg (of_decide_eq_false (by kernel_rfl))]; exact ⟨rfl, rfl⟩)
    (fun os started H enc _ => law_lifted (s := Rows.flowMoreSpec) (L := laidAll) Tryd.func7 (by kernel_rfl) rfl (by kernel_rfl)
      (fun H ds hl => by
        rw [Tryd.params7] at hl
        match ds, hl with
        | [_, _, _, _, _, _], _ => exact ⟨rfl, rfl, rfl⟩)
      (by kernel_rfl) os started H enc
      (ChangeSpec.witness_at (enc := enc) (C := Tryd.checked) (os := os) (X := fun w _ => laidMetH Tryd.prog laidAll w) false (laidWorld os) #[.int .i64 0, .slice none 0 0, .slice none 0 0, .slice none 0 0, .int .u16 0, .int .u16 0] 8 rfl (by kernel_rfl) (by kernel_rfl) (by kernel_rfl) (by kernel_rfl) (by kernel_rfl) (laidWorld_met os _))
      flowMore_walks)

theorem flowMore_card : Rows.FlowMoreCardSaid :=
  Claim7.holds_tied_plain_at .later [] laidKindsAll true (Rows.flowMoreCard.stood.harness) true
    flowMore_row (fun _ h => by cases h) (by kernel_rfl) (fun _ h => by cases h) flowMore_row_tie rfl ⟨rfl, rfl⟩ (by kernel_rfl) rfl
    (fun f fn hf hfn => by
      obtain rfl : f = 7 := Option.some.inj ((show Tryd.prog.funcNamed "roundsman/roundsmanlaw9.FlowMore" = some 7 by kernel_rfl).symm.trans hf) |>.symm
      obtain rfl : fn = Tryd.f7 := (Option.some.inj (Tryd.func7.symm.trans hfn)).symm
      exact ⟨by kernel_rfl, fun j t ht => by
        rw [Tryd.params7] at ht
        exact stand_all #[3, 22, 23, 23, 47, 47] (by kernel_rfl) j t ht⟩)
    (by kernel_rfl)
#print axioms flowMore_card
end Go.Proofs.YtgihaakgadmidaaDoor
