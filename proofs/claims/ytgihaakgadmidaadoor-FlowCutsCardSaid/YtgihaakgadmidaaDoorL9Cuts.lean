/-
  PROVED: whatever set has all of the one and none of the other, as many edges as go through leave it at least; where just as many do it has Near, and is within Far. For every number, all edges, every two sets, every row of marks.
-/
import Derived.Test.YtgihaakgadmidaaDoorFlKn
import Derived.Test.YtgihaakgadmidaaDoorFlLm
import Derived.Test.YtgihaakgadmidaaDoorFlAp
import Derived.Test.YtgihaakgadmidaaDoorLaid9
import Derived.RegionTactic
import Derived.BigQuiet
import Derived.IntWalk
import Derived.Test.YtgihaakgadmidaaDoorCards
import Derived.Test.YtgihaakgadmidaaDoorTie
import Derived.SevenTiedAt
import Derived.Test.YtgihaakgadmidaaDoorFlCu
namespace Go.Proofs.YtgihaakgadmidaaDoor
open Go.ChangeShapes Go.WideShapes Go.ChangeAt Go.RowKit

def CutLoop (W : World) (N : Nat) (iv : Value) (wr : World) : Prop := ∃ i : Nat, i ≤ N ∧ iv = .int .i64 i ∧ Below W.heap.size W wr
set_option maxHeartbeats 8000000 in
set_option maxRecDepth 100000 in
theorem cuts_walk (n : Int) (ev : Value) (l : List (Int × Int)) (sv : Value) (src : List Int) (dv : Value) (dst : List Int) (tv : Value) (M0 : List Bool) (w : World) (hg : ErrT w) (n0 : -9223372036854775808 ≤ n) (n1 : n ≤ 9223372036854775807) (he : Prs w ev l) (hei : InPrs l) (hs : I64s w sv src) (hsi : In64 src) (hd : I64s w dv dst) (hdi : In64 dst) (ht : Bools w tv M0) :
    Calls Tryd.prog 4 #[.int .i64 n, ev, sv, dv, tv] w fun e w' => e = .returned (.bool true) ∧ Below w.heap.size w w' := by
  obtain ⟨eq0, ec0, rfl⟩ := he.shape
  obtain ⟨sq0, sc0, rfl⟩ := hs.shape
  obtain ⟨dq0, dc0, rfl⟩ := hd.shape
  have HG := Lib.hid hg
  have HB := Lib.hid (Below.refl w.heap.size w)
  have HE := Lib.hid he
  have HS := Lib.hid hs
  have HD := Lib.hid hd
  clear hg he hs hd
  obtain ⟨bq0, bc0, rfl⟩ := ht.shape
  have HST := Lib.hid ht
  clear ht
  go_enter Tryd.func4, Tryd.ntmps4
  go_wp2_with fail
  refine (known9_any _ HG.out).mono ?_
  rintro e w1 ⟨rfl, hb⟩
  have HB_ := Lib.hid (bOn6 HB.out hb)
  have HE_ := Lib.hid (HE.out.below hb)
  have HS_ := Lib.hid (HS.out.below hb)
  have HD_ := Lib.hid (HD.out.below hb)
  have HST_ := Lib.hid (HST.out.below hb)
  clear HB HE HS HD HST
  have HB := HB_
  have HE := HE_
  have HS := HS_
  have HD := HD_
  have HST := HST_
  clear HB_ HE_ HS_ HD_ HST_
  clear hb
  by_cases c0 : 60 < n
  · have d0 : decide (60 < n) = true := by simpa using c0
    go_wp2_with fail
    go_ret
    exact ⟨rfl, HB.out⟩
  have d0 : decide (60 < n) = false := by simpa using c0
  by_cases c1 : (150 : Int) < (l.length : Int)
  · have d1 : decide ((150 : Int) < (l.length : Int)) = true := by simpa using c1
    go_wp2_with fail
    go_ret
    exact ⟨rfl, HB.out⟩
  have d1 : decide ((150 : Int) < (l.length : Int)) = false := by simpa using c1
  by_cases c2 : (80 : Int) < (src.length : Int)
  · have d2 : decide ((80 : Int) < (src.length : Int)) = true := by simpa using c2
    go_wp2_with fail
    go_ret
    exact ⟨rfl, HB.out⟩
  have d2 : decide ((80 : Int) < (src.length : Int)) = false := by simpa using c2
  by_cases c3 : (80 : Int) < (dst.length : Int)
  · have d3 : decide ((80 : Int) < (dst.length : Int)) = true := by simpa using c3
    go_wp2_with fail
    go_ret
    exact ⟨rfl, HB.out⟩
  have d3 : decide ((80 : Int) < (dst.length : Int)) = false := by simpa using c3
  by_cases c4 : (M0.length : Int) ≠ n
  · have d4 : ((M0.length : Int) != n) = true := by simp only [bne_iff_ne, ne_eq]; omega
    go_wp2_with fail
    go_ret
    exact ⟨rfl, HB.out⟩
  have d4 : ((M0.length : Int) != n) = false := by simp only [bne_eq_false_iff_eq]; omega
  go_wp2_with fail
  refine (checkFlow_is HE.out HS.out HD.out (by omega) (by omega) (by omega) (by omega)).mono ?_
  rintro e w2 ⟨q9, n9, m9, er, rfl, her, hb⟩
  have HER := Lib.hid her
  have hfl9 := wr_field1 (.slice q9 n9 m9) (.int .i64 er) w2
  clear her
  have HB_ := Lib.hid (bOn6 HB.out hb)
  have HE_ := Lib.hid (HE.out.below hb)
  have HS_ := Lib.hid (HS.out.below hb)
  have HD_ := Lib.hid (HD.out.below hb)
  have HST_ := Lib.hid (HST.out.below hb)
  clear HB HE HS HD HST
  have HB := HB_
  have HE := HE_
  have HS := HS_
  have HD := HD_
  have HST := HST_
  clear HB_ HE_ HS_ HD_ HST_
  clear hb
  by_cases hq : OkA n l src dst ∧ ¬ Twice src dst
  case neg =>
    have d9 : (er != 0) = true := by
      simp only [bne_iff_ne, ne_eq]
      exact fun e => hq (HER.out.1 e)
    have d9b : (er == 0) = false := by simpa using d9
    go_wp2_with fail
    go_ret
    exact ⟨rfl, HB.out⟩
  obtain ⟨hok, htw⟩ := hq
  have d9 : (er != 0) = false := by
    simp only [bne_eq_false_iff_eq]
    exact HER.out.2 ⟨hok, htw⟩
  have d9b : (er == 0) = true := by simpa using d9
  obtain ⟨N, E, S, D, hN, hE, hEI, hS, hD, hSN, hDN⟩ := hok.edges
  subst hN hE hS hD
  rw [zE_len] at *
  rw [zN_len] at *
  rw [zN_len] at *
  have HEI := Lib.hid hEI
  have HSN := Lib.hid hSN
  have HDN := Lib.hid hDN
  have HTW := Lib.hid htw
  have hml : M0.length = N := by omega
  have HML0 := Lib.hid hml
  have HLN : Hid (N ≤ 60) := Lib.hid (by omega)
  have HLE : Hid (E.length ≤ 150) := Lib.hid (by omega)
  have HLS : Hid (S.length ≤ 1000000) := Lib.hid (by omega)
  have HLD : Hid (D.length ≤ 1000000) := Lib.hid (by omega)
  clear hok htw hEI hSN hDN
  go_wp2_with fail
  clear d0 d1 d2 d3 d4 d9 d9b hfl9 c0 c1 c2 c3 c4
  rw [hml] at HST
  clear hml
  refine (max_is (N := N) (E := E) (S := S) (D := D) HE.out HS.out HD.out (by have := HLN.out; omega) (by have := HLE.out; omega) (HLS.out) (HLD.out) (okA_of HEI.out HSN.out HDN.out) (HEI.out) (HSN.out) (HDN.out)).mono ?_
  rintro e w4 ⟨hb, ⟨-, V1, f1, near1, far1, fv1, nv1, gv1, rfl, hf, hn, hg, hq⟩ | ⟨htw, -⟩⟩
  case inr => exact absurd htw HTW.out
  have HQ1 := Lib.hid hq
  obtain ⟨fq1, fc1, rfl⟩ := hf.shape
  obtain ⟨nq1, nc1, rfl⟩ := hn.shapeN hq.nl
  obtain ⟨gq1, gc1, rfl⟩ := hg.shapeN hq.gl
  obtain ⟨L1, hL⟩ : ∃ L, f1.length = L := ⟨_, rfl⟩
  rw [hL]
  rw [hL] at hf
  clear hL
  have HV1 : Hid (0 ≤ V1 ∧ V1 ≤ (E).length) := Lib.hid (by rw [← (hq.maxQ (HEI.out)).nearV]; exact crossTo_bd _ _ _)
  clear hq
  have HB_ := Lib.hid (bOn6 HB.out hb)
  have HE_ := Lib.hid (HE.out.below hb)
  have HS_ := Lib.hid (HS.out.below hb)
  have HD_ := Lib.hid (HD.out.below hb)
  have HST_ := Lib.hid (HST.out.below hb)
  clear HB HE HS HD HST
  have HB := HB_
  have HE := HE_
  have HS := HS_
  have HD := HD_
  have HST := HST_
  clear HB_ HE_ HS_ HD_ HST_
  clear hb
  have HF1 := Lib.hid hf
  have HN1 := Lib.hid hn
  have HGV1 := Lib.hid hg
  clear hf hn hg
  obtain ⟨x1, hx1⟩ := named (w4.alloc (.cells #[.int .i64 V1, .slice fq1 L1 fc1, .slice nq1 N nc1, .slice gq1 N gc1] 30))
  have hb : Below w4.heap.size w4 x1 := by rw [hx1]; exact below_alloc1 _
  obtain ⟨g1, hg1⟩ : ∃ g, w4.heap.size = g := ⟨_, rfl⟩
  have kb : Blk x1 g1 #[.int .i64 V1, .slice fq1 L1 fc1, .slice nq1 N nc1, .slice gq1 N gc1] 30 := by rw [hx1]; exact Blk.new _ _ _ _ hg1
  have HB_ := Lib.hid (bOn6 HB.out hb)
  have HE_ := Lib.hid (HE.out.below hb)
  have HS_ := Lib.hid (HS.out.below hb)
  have HD_ := Lib.hid (HD.out.below hb)
  have HST_ := Lib.hid (HST.out.below hb)
  have HF1_ := Lib.hid (HF1.out.below hb)
  have HN1_ := Lib.hid (HN1.out.below hb)
  have HGV1_ := Lib.hid (HGV1.out.below hb)
  clear HB HE HS HD HST HF1 HN1 HGV1
  have HB := HB_
  have HE := HE_
  have HS := HS_
  have HD := HD_
  have HST := HST_
  have HF1 := HF1_
  have HN1 := HN1_
  have HGV1 := HGV1_
  clear HB_ HE_ HS_ HD_ HST_ HF1_ HN1_ HGV1_
  have KR1 := Lib.hid (kb)
  have e1 := hx1.symm
  have z1 : Hid (x1.heap.size = w4.heap.size + 1) := Lib.hid (by rw [hx1]; simp)
  clear hb kb hx1
  have DS0 : Hid (GG.BelS x1 (fun _ => false) () x1.drew) := Lib.hid ⟨(Below.refl _ _).drew⟩
  obtain ⟨k0, k1, k2, k3, -⟩ := KR1.out.o4
  have kl := KR1.out.lt
  have HLE9 : Hid (E.length ≤ 1000000) := Lib.hid (by have := HLE.out; omega)
  have HNV : Hid (crossS (setB near1) E = V1) := Lib.hid (HQ1.out.maxQ HEI.out).nearV
  have HFV : Hid (crossS (setB far1) E = V1) := Lib.hid (HQ1.out.maxQ HEI.out).farV
  go_wp2_with fail
  clear e1 z1
  clear k0 k1 k2 k3 kl
  refine' GG.wp_growL _ (GG.BelS x1) [[], [0], [], [0, 1, 2], [], [4], [0, 1, 2, 3, 4, 5], [0, 1, 2, 3, 4, 5, 6], [0, 1, 2, 3, 4, 5, 6, 7], [0, 1, 2, 3, 4, 5, 6, 7, 8], [0, 1, 2, 3, 4, 5, 6, 7], [0, 1, 2, 3, 4, 5, 6, 7, 8, 9, 10], [0, 1, 2, 3, 4, 5, 6, 7], [0, 1, 2, 3, 4, 5, 6, 7, 12], [0, 1, 2, 3, 4, 5, 6, 7, 8, 9, 10, 11, 12, 13], [0, 1, 2, 3, 4, 5, 6, 7, 8, 9, 10, 11, 12, 13, 14]] (GG.Fact.lit (Rl := GG.RlB) _ :: GG.Fact.lit (Rl := GG.RlB) _ :: GG.Fact.lit (Rl := GG.RlB) _ :: GG.Fact.lit (Rl := GG.RlB) _ :: GG.Fact.lit (Rl := GG.RlB) _ :: GG.Fact.lit (Rl := GG.RlB) _ :: GG.Fact.lit (Rl := GG.RlB) _ :: GG.Fact.lit (Rl := GG.RlB) _ :: GG.Fact.lit (Rl := GG.RlB) _ :: GG.Fact.lit (Rl := GG.RlB) _ :: GG.Fact.lit (Rl := GG.RlB) _ :: GG.Fact.lit (Rl := GG.RlB) _ :: GG.Fact.lit (Rl := GG.RlB) _ :: GG.Fact.lit (Rl := GG.RlB) _ :: GG.Fact.lit (Rl := GG.RlB) _ :: GG.Fact.lit (Rl := GG.RlB) _ :: []) (by kernel_rfl) rfl (by kernel_rfl) (()) (DS0.out) ?seqcu
  case' seqcu => skip
  (refine' GG.grow_lit (GG.BelS.still) rfl ?wtcu0 ?runcu0 ?putcu0 ?nextcu0; (case wtcu0 => rfl); (case runcu0 => (intro w' hS; (obtain ⟨dn, s, hS⟩ := hS); (obtain ⟨k0, k1, k2, k3, -⟩ := (KR1.out.keep hS.b).o4); (have kl := (KR1.out.keep hS.b).lt); clear hS; go_simp; first | done | exact rfl)); (case putcu0 => (first | (simp only [Act.put, List.setIfInBounds_toArray, List.set_cons_zero, List.set_cons_succ]; first | done | exact rfl) | rfl)); (case' nextcu0 => skip))
  (refine' GG.grow_lit (GG.BelS.still) rfl ?wtcu1 ?runcu1 ?putcu1 ?nextcu1; (case wtcu1 => rfl); (case runcu1 => (intro w' hS; (obtain ⟨dn, s, hS⟩ := hS); (obtain ⟨k0, k1, k2, k3, -⟩ := (KR1.out.keep hS.b).o4); (have kl := (KR1.out.keep hS.b).lt); clear hS; go_simp; first | done | exact rfl)); (case putcu1 => (first | (simp only [Act.put, List.setIfInBounds_toArray, List.set_cons_zero, List.set_cons_succ]; first | done | exact rfl) | rfl)); (case' nextcu1 => skip))
  (refine' GG.grow_lit (GG.BelS.still) rfl ?wtcu2 ?runcu2 ?putcu2 ?nextcu2; (case wtcu2 => rfl); (case runcu2 => (intro w' hS; (obtain ⟨dn, s, hS⟩ := hS); (obtain ⟨k0, k1, k2, k3, -⟩ := (KR1.out.keep hS.b).o4); (have kl := (KR1.out.keep hS.b).lt); clear hS; go_simp; first | done | exact rfl)); (case putcu2 => (first | (simp only [Act.put, List.setIfInBounds_toArray, List.set_cons_zero, List.set_cons_succ]; first | done | exact rfl) | rfl)); (case' nextcu2 => skip))
  (refine' GG.grow_lit_call (u := .int .i64 V1) rfl Tryd.func15 (by kernel_rfl) rfl rfl ?wtcu3 ?runcu3 ?putcu3 ?nextcu3; (case wtcu3 => rfl); (case runcu3 => (intro dn s w' hS hd H; exact (cross_is (HN1.out.below hS.b) (HE.out.below hS.b) HLE9.out HNV.out).mono (fun e w2 h => ⟨(), h.1, ⟨hS.b.trans (h.2.mono hS.b.size)⟩, h.2, h.2.size⟩))); (case putcu3 => (first | (simp only [Act.put, List.setIfInBounds_toArray, List.set_cons_zero, List.set_cons_succ]; first | done | exact rfl) | rfl)); (case' nextcu3 => skip))
  (refine' GG.grow_lit (GG.BelS.still) rfl ?wtcu4 ?runcu4 ?putcu4 ?nextcu4; (case wtcu4 => rfl); (case runcu4 => (intro w' hS; (obtain ⟨dn, s, hS⟩ := hS); (obtain ⟨k0, k1, k2, k3, -⟩ := (KR1.out.keep hS.b).o4); (have kl := (KR1.out.keep hS.b).lt); clear hS; go_simp; first | done | exact rfl)); (case putcu4 => (first | (simp only [Act.put, List.setIfInBounds_toArray, List.set_cons_zero, List.set_cons_succ]; first | done | exact rfl) | rfl)); (case' nextcu4 => skip))
  (refine' GG.grow_lit (GG.BelS.still) rfl ?wtcu5 ?runcu5 ?putcu5 ?nextcu5; (case wtcu5 => rfl); (case runcu5 => (intro w' hS; (obtain ⟨dn, s, hS⟩ := hS); (obtain ⟨k0, k1, k2, k3, -⟩ := (KR1.out.keep hS.b).o4); (have kl := (KR1.out.keep hS.b).lt); clear hS; go_simp; first | done | exact rfl)); (case putcu5 => (first | (simp only [Act.put, List.setIfInBounds_toArray, List.set_cons_zero, List.set_cons_succ]; first | done | exact rfl) | rfl)); (case' nextcu5 => skip))
  (refine' GG.grow_lit (GG.BelS.still) rfl ?wtcu6 ?runcu6 ?putcu6 ?nextcu6; (case wtcu6 => rfl); (case runcu6 => (intro w' hS; (obtain ⟨dn, s, hS⟩ := hS); (obtain ⟨k0, k1, k2, k3, -⟩ := (KR1.out.keep hS.b).o4); (have kl := (KR1.out.keep hS.b).lt); clear hS; go_simp; first | done | exact rfl)); (case putcu6 => (first | (simp only [Act.put, List.setIfInBounds_toArray, List.set_cons_zero, List.set_cons_succ]; first | done | exact rfl) | rfl)); (case' nextcu6 => skip))
  (refine' GG.grow_lit (GG.BelS.still) rfl ?wtcu7 ?runcu7 ?putcu7 ?nextcu7; (case wtcu7 => rfl); (case runcu7 => (intro w' hS; (obtain ⟨dn, s, hS⟩ := hS); (obtain ⟨k0, k1, k2, k3, -⟩ := (KR1.out.keep hS.b).o4); (have kl := (KR1.out.keep hS.b).lt); clear hS; go_simp; first | done | exact rfl)); (case putcu7 => (first | (simp only [Act.put, List.setIfInBounds_toArray, List.set_cons_zero, List.set_cons_succ]; first | done | exact rfl) | rfl)); (case' nextcu7 => skip))
  (refine' GG.grow_lit (GG.BelS.still) rfl ?wtcu8 ?runcu8 ?putcu8 ?nextcu8; (case wtcu8 => rfl); (case runcu8 => (intro w' hS; (obtain ⟨dn, s, hS⟩ := hS); (obtain ⟨k0, k1, k2, k3, -⟩ := (KR1.out.keep hS.b).o4); (have kl := (KR1.out.keep hS.b).lt); clear hS; go_simp; first | done | exact rfl)); (case putcu8 => (first | (simp only [Act.put, List.setIfInBounds_toArray, List.set_cons_zero, List.set_cons_succ]; first | done | exact rfl) | rfl)); (case' nextcu8 => skip))
  (refine' GG.grow_lit (GG.BelS.still) rfl ?wtcu9 ?runcu9 ?putcu9 ?nextcu9; (case wtcu9 => rfl); (case runcu9 => (intro w' hS; (obtain ⟨dn, s, hS⟩ := hS); (obtain ⟨k0, k1, k2, k3, -⟩ := (KR1.out.keep hS.b).o4); (have kl := (KR1.out.keep hS.b).lt); clear hS; go_simp; first | done | exact rfl)); (case putcu9 => (first | (simp only [Act.put, List.setIfInBounds_toArray, List.set_cons_zero, List.set_cons_succ]; first | done | exact rfl) | rfl)); (case' nextcu9 => skip))
  (refine' GG.grow_lit (GG.BelS.still) rfl ?wtcu10 ?runcu10 ?putcu10 ?nextcu10; (case wtcu10 => rfl); (case runcu10 => (intro w' hS; (obtain ⟨dn, s, hS⟩ := hS); (obtain ⟨k0, k1, k2, k3, -⟩ := (KR1.out.keep hS.b).o4); (have kl := (KR1.out.keep hS.b).lt); clear hS; go_simp; first | done | exact rfl)); (case putcu10 => (first | (simp only [Act.put, List.setIfInBounds_toArray, List.set_cons_zero, List.set_cons_succ]; first | done | exact rfl) | rfl)); (case' nextcu10 => skip))
  (refine' GG.grow_lit_call (u := .int .i64 V1) rfl Tryd.func15 (by kernel_rfl) rfl rfl ?wtcu11 ?runcu11 ?putcu11 ?nextcu11; (case wtcu11 => rfl); (case runcu11 => (intro dn s w' hS hd H; exact (cross_is (HGV1.out.below hS.b) (HE.out.below hS.b) HLE9.out HFV.out).mono (fun e w2 h => ⟨(), h.1, ⟨hS.b.trans (h.2.mono hS.b.size)⟩, h.2, h.2.size⟩))); (case putcu11 => (first | (simp only [Act.put, List.setIfInBounds_toArray, List.set_cons_zero, List.set_cons_succ]; first | done | exact rfl) | rfl)); (case' nextcu11 => skip))
  (refine' GG.grow_lit (GG.BelS.still) rfl ?wtcu12 ?runcu12 ?putcu12 ?nextcu12; (case wtcu12 => rfl); (case runcu12 => (intro w' hS; (obtain ⟨dn, s, hS⟩ := hS); (obtain ⟨k0, k1, k2, k3, -⟩ := (KR1.out.keep hS.b).o4); (have kl := (KR1.out.keep hS.b).lt); clear hS; go_simp; first | done | exact rfl)); (case putcu12 => (first | (simp only [Act.put, List.setIfInBounds_toArray, List.set_cons_zero, List.set_cons_succ]; first | done | exact rfl) | rfl)); (case' nextcu12 => skip))
  (refine' GG.grow_lit (GG.BelS.still) rfl ?wtcu13 ?runcu13 ?putcu13 ?nextcu13; (case wtcu13 => rfl); (case runcu13 => (intro w' hS; (obtain ⟨dn, s, hS⟩ := hS); (obtain ⟨k0, k1, k2, k3, -⟩ := (KR1.out.keep hS.b).o4); (have kl := (KR1.out.keep hS.b).lt); clear hS; go_simp; first | done | exact rfl)); (case putcu13 => (first | (simp only [Act.put, List.setIfInBounds_toArray, List.set_cons_zero, List.set_cons_succ]; first | done | exact rfl) | rfl)); (case' nextcu13 => skip))
  (refine' GG.grow_lit (GG.BelS.still) rfl ?wtcu14 ?runcu14 ?putcu14 ?nextcu14; (case wtcu14 => rfl); (case runcu14 => (intro w' hS; (obtain ⟨dn, s, hS⟩ := hS); (obtain ⟨k0, k1, k2, k3, -⟩ := (KR1.out.keep hS.b).o4); (have kl := (KR1.out.keep hS.b).lt); clear hS; go_simp; first | done | exact rfl)); (case putcu14 => (first | (simp only [Act.put, List.setIfInBounds_toArray, List.set_cons_zero, List.set_cons_succ]; first | done | exact rfl) | rfl)); (case' nextcu14 => skip))
  (refine' GG.grow_lit (GG.BelS.still) rfl ?wtcu15 ?runcu15 ?putcu15 ?nextcu15; (case wtcu15 => rfl); (case runcu15 => (intro w' hS; (obtain ⟨dn, s, hS⟩ := hS); (obtain ⟨k0, k1, k2, k3, -⟩ := (KR1.out.keep hS.b).o4); (have kl := (KR1.out.keep hS.b).lt); clear hS; go_simp; first | done | exact rfl)); (case putcu15 => (first | (simp only [Act.put, List.setIfInBounds_toArray, List.set_cons_zero, List.set_cons_succ]; first | done | exact rfl) | rfl)); (case' nextcu15 => skip))
  intro dn s w8 hS _ _
  have hb := hS.b
  clear hS DS0
  have HB_ := Lib.hid (bOn6 HB.out hb)
  have HE_ := Lib.hid (HE.out.below hb)
  have HS_ := Lib.hid (HS.out.below hb)
  have HD_ := Lib.hid (HD.out.below hb)
  have HST_ := Lib.hid (HST.out.below hb)
  have HF1_ := Lib.hid (HF1.out.below hb)
  have HN1_ := Lib.hid (HN1.out.below hb)
  have HGV1_ := Lib.hid (HGV1.out.below hb)
  have KR1_ := Lib.hid (KR1.out.keep hb)
  clear HB HE HS HD HST HF1 HN1 HGV1 KR1
  have HB := HB_
  have HE := HE_
  have HS := HS_
  have HD := HD_
  have HST := HST_
  have HF1 := HF1_
  have HN1 := HN1_
  have HGV1 := HGV1_
  have KR1 := KR1_
  clear HB_ HE_ HS_ HD_ HST_ HF1_ HN1_ HGV1_ KR1_
  clear hb
  obtain ⟨y9, hy9⟩ := named (w8.alloc (.cells #[] 4))
  have hbx : Below w8.heap.size w8 y9 := by rw [hy9]; exact below_alloc1 _
  obtain ⟨gy, hgy⟩ : ∃ g, w8.heap.size = g := ⟨_, rfl⟩
  have ky : Blk y9 gy #[] 4 := by rw [hy9]; exact Blk.new _ _ _ _ hgy
  obtain ⟨gi, ic, w9, hr9, hic, hle, hle2, hgi, hb9⟩ := copyBO y9 _ M0 (HST.out.below hbx) (by have := HML0.out; have := HLN.out; omega) gy w8.heap.size ky (by omega)
  rw [HML0.out] at hr9 hle
  have HR9 := Lib.hid hr9
  have HIC := Lib.hid hic
  have HCL := Lib.hid (And.intro hle hle2)
  have HGI := Lib.hid hgi
  have HB9 : Hid (Below w8.heap.size w8 w9) := Lib.hid (bOn6 hbx hb9)
  have e9 := hy9.symm
  clear hbx ky hr9 hic hle hle2 hgi hb9 hy9
  go_wp2_with (at_builtin; refine wpList_append_run (by rfl) _ _ _ rfl _ _ _ rfl rfl HR9.out ?_)
  clear e9 hgy
  go_loopw [14] (fun iv wr => PutRel w8 gi M0 S true iv wr) (fun iv _ => S.length - (intOf iv).toNat)
  case atStart => exact ⟨0, Nat.zero_le _, rfl, by rw [List.take_zero]; exact HIC.out, HB9.out⟩
  case round =>
    clear HIC HB9
    obtain ⟨k, hk, rfl, hic, hb⟩ := hrel
    have HI := Lib.hid hic
    have HBK := Lib.hid hb
    clear hic hb
    by_cases hlt : k < S.length
    · have hki : (k : Int) < (S.length : Int) := by omega
      have hls := HLS.out
      obtain ⟨eb, eo, rfl, ec⟩ := (HS.out.below HBK.out).at (k := k) (by rw [zN_len]; exact hlt)
      obtain ⟨x, hx⟩ : ∃ x, S[k] = x := ⟨_, rfl⟩
      rw [show (zN S)[k]'(by rw [zN_len]; exact hlt) = (x : Int) from by simp [zN, hx]] at ec
      have hxN : x < N := HSN.out x (by rw [← hx]; exact List.getElem_mem hlt)
      have hxi : (x : Int) < (N : Int) := by omega
      have hel := World.block_lt_of_cell? _ _ ec
      have xc := HI.out.cell (i := x) (by rw [putL_len, HML0.out]; exact hxN)
      have xf := HI.out.free x
      have xl := HI.out.lt
      have hset := HI.out.set x true
      rw [← putL_snoc, show S.take k ++ [x] = S.take (k + 1) from by rw [List.take_succ_eq_append_getElem hlt, hx]] at hset
      have HR : Hid (InC (wr.setCell ⟨gi, x, none⟩ (.bool true)) gi (putL M0 (S.take (k + 1)) true) ∧ Below w8.heap.size w8 (wr.setCell ⟨gi, x, none⟩ (.bool true))) := Lib.hid ⟨hset, HBK.out.setCell HGI.out _⟩
      clear hset hx HI
      go_wp2_with fail
      go_roundw
      case rel => exact ⟨k + 1, hlt, by go_num, HR.out.1, HR.out.2⟩
      case measure => simp [intOf]; omega
    · obtain rfl : k = S.length := by omega
      have HIC : Hid (InC wr gi (putL M0 S true)) := Lib.hid (by have := HI.out; rwa [List.take_length] at this)
      have HB9 := HBK
      clear HI HBK hlt hk
      go_wp2_with fail
      go_loopw [15] (fun iv wr => PutRel w8 gi (putL M0 S true) D false iv wr) (fun iv _ => D.length - (intOf iv).toNat)
      case atStart => exact ⟨0, Nat.zero_le _, rfl, by rw [List.take_zero]; exact HIC.out, HB9.out⟩
      case round =>
        clear HIC HB9
        obtain ⟨k, hk, rfl, hic, hb⟩ := hrel
        have HI := Lib.hid hic
        have HBK := Lib.hid hb
        clear hic hb
        by_cases hlt : k < D.length
        · have hki : (k : Int) < (D.length : Int) := by omega
          have hls := HLD.out
          obtain ⟨eb, eo, rfl, ec⟩ := (HD.out.below HBK.out).at (k := k) (by rw [zN_len]; exact hlt)
          obtain ⟨x, hx⟩ : ∃ x, D[k] = x := ⟨_, rfl⟩
          rw [show (zN D)[k]'(by rw [zN_len]; exact hlt) = (x : Int) from by simp [zN, hx]] at ec
          have hxN : x < N := HDN.out x (by rw [← hx]; exact List.getElem_mem hlt)
          have hxi : (x : Int) < (N : Int) := by omega
          have hel := World.block_lt_of_cell? _ _ ec
          have xc := HI.out.cell (i := x) (by rw [putL_len, putL_len, HML0.out]; exact hxN)
          have xf := HI.out.free x
          have xl := HI.out.lt
          have hset := HI.out.set x false
          rw [← putL_snoc, show D.take k ++ [x] = D.take (k + 1) from by rw [List.take_succ_eq_append_getElem hlt, hx]] at hset
          have HR : Hid (InC (wr.setCell ⟨gi, x, none⟩ (.bool false)) gi (putL (putL M0 S true) (D.take (k + 1)) false) ∧ Below w8.heap.size w8 (wr.setCell ⟨gi, x, none⟩ (.bool false))) := Lib.hid ⟨hset, HBK.out.setCell HGI.out _⟩
          clear hset hx HI
          go_wp2_with fail
          go_roundw
          case rel => exact ⟨k + 1, hlt, by go_num, HR.out.1, HR.out.2⟩
          case measure => simp [intOf]; omega
        · obtain rfl : k = D.length := by omega
          have HIC : Hid (InC wr gi (putL (putL M0 S true) D false)) := Lib.hid (by have := HI.out; rwa [List.take_length] at this)
          have HB9 := HBK
          clear HI HBK hlt hk
          go_wp2_with fail
          have HCUT : Hid (IsCut N (setB (markL N S)) (setB (markL N D)) (setB (putL (putL M0 S true) D false))) := Lib.hid (cut_of HML0.out HTW.out)
          have HML : Hid ((putL (putL M0 S true) D false).length = N) := Lib.hid (by rw [putL_len, putL_len, HML0.out])
          obtain ⟨M, hM⟩ : ∃ M, putL (putL M0 S true) D false = M := ⟨_, rfl⟩
          rw [hM] at HCUT HML HIC
          clear hM
          have HIN : Hid (Bools wr (.slice (some ⟨gi, 0, none⟩) N ic) M) := Lib.hid (by
            have := HIC.out.bools (c := ic) (by rw [HML.out]; exact HCL.out.1) HCL.out.2
            rwa [HML.out] at this)
          have hb := HB9.out
          clear HIC HB9
          have HB_ := Lib.hid (bOn6 HB.out hb)
          have HE_ := Lib.hid (HE.out.below hb)
          have HS_ := Lib.hid (HS.out.below hb)
          have HD_ := Lib.hid (HD.out.below hb)
          have HST_ := Lib.hid (HST.out.below hb)
          have HF1_ := Lib.hid (HF1.out.below hb)
          have HN1_ := Lib.hid (HN1.out.below hb)
          have HGV1_ := Lib.hid (HGV1.out.below hb)
          have KR1_ := Lib.hid (KR1.out.keep hb)
          clear HB HE HS HD HST HF1 HN1 HGV1 KR1
          have HB := HB_
          have HE := HE_
          have HS := HS_
          have HD := HD_
          have HST := HST_
          have HF1 := HF1_
          have HN1 := HN1_
          have HGV1 := HGV1_
          have KR1 := KR1_
          clear HB_ HE_ HS_ HD_ HST_ HF1_ HN1_ HGV1_ KR1_
          clear hb
          obtain ⟨C, hC⟩ : ∃ C, crossS (setB M) E = C := ⟨_, rfl⟩
          have HC := Lib.hid hC
          clear hC
          go_wp2_with fail
          refine (cross_is HIN.out HE.out HLE9.out HC.out).mono ?_
          rintro e w12 ⟨rfl, hb⟩
          have HB_ := Lib.hid (bOn6 HB.out hb)
          have HE_ := Lib.hid (HE.out.below hb)
          have HS_ := Lib.hid (HS.out.below hb)
          have HD_ := Lib.hid (HD.out.below hb)
          have HST_ := Lib.hid (HST.out.below hb)
          have HF1_ := Lib.hid (HF1.out.below hb)
          have HN1_ := Lib.hid (HN1.out.below hb)
          have HGV1_ := Lib.hid (HGV1.out.below hb)
          have KR1_ := Lib.hid (KR1.out.keep hb)
          have HIN_ := Lib.hid (HIN.out.below hb)
          clear HB HE HS HD HST HF1 HN1 HGV1 KR1 HIN
          have HB := HB_
          have HE := HE_
          have HS := HS_
          have HD := HD_
          have HST := HST_
          have HF1 := HF1_
          have HN1 := HN1_
          have HGV1 := HGV1_
          have KR1 := KR1_
          have HIN := HIN_
          clear HB_ HE_ HS_ HD_ HST_ HF1_ HN1_ HGV1_ KR1_ HIN_
          clear hb
          obtain ⟨k0, k1, k2, k3, -⟩ := KR1.out.o4
          have kl := KR1.out.lt
          by_cases hcv : C = V1
          case neg =>
            have hne : (C != V1) = true := by simpa using hcv
            have hgt : decide (V1 < C) = true := by
              have := (HQ1.out.maxQ HEI.out).least _ HCUT.out
              rw [HC.out] at this
              simp only [decide_eq_true_eq]
              omega
            clear hcv
            go_wp2_with fail
            go_ret
            exact ⟨rfl, HB.out⟩
          subst hcv
          obtain ⟨hb1, hb2⟩ := (HQ1.out.maxQ HEI.out).both _ HCUT.out HC.out
          have H1 := Lib.hid hb1
          have H2 := Lib.hid hb2
          clear hb1 hb2
          have HL1 := Lib.hid HQ1.out.nl
          have HL2 := Lib.hid HQ1.out.gl
          go_wp2_with fail
          clear k0 k1 k2 k3 kl
          go_loopw [17] (fun iv wr => CutLoop w12 N iv wr) (fun iv _ => N - (intOf iv).toNat)
          case atStart => exact ⟨0, Nat.zero_le _, rfl, Below.refl _ _⟩
          case round =>
            obtain ⟨i, hi, rfl, hb⟩ := hrel
            have HM := Lib.hid hb
            have HB_ := Lib.hid (bOn6 HB.out hb)
            have HE_ := Lib.hid (HE.out.below hb)
            have HS_ := Lib.hid (HS.out.below hb)
            have HD_ := Lib.hid (HD.out.below hb)
            have HST_ := Lib.hid (HST.out.below hb)
            have HF1_ := Lib.hid (HF1.out.below hb)
            have HN1_ := Lib.hid (HN1.out.below hb)
            have HGV1_ := Lib.hid (HGV1.out.below hb)
            have KR1_ := Lib.hid (KR1.out.keep hb)
            have HIN_ := Lib.hid (HIN.out.below hb)
            clear HB HE HS HD HST HF1 HN1 HGV1 KR1 HIN
            have HB := HB_
            have HE := HE_
            have HS := HS_
            have HD := HD_
            have HST := HST_
            have HF1 := HF1_
            have HN1 := HN1_
            have HGV1 := HGV1_
            have KR1 := KR1_
            have HIN := HIN_
            clear HB_ HE_ HS_ HD_ HST_ HF1_ HN1_ HGV1_ KR1_ HIN_
            clear hb
            obtain ⟨k0, k1, k2, k3, -⟩ := KR1.out.o4
            have kl := KR1.out.lt
            by_cases hlt : i < N
            · have hii : (i : Int) < (N : Int) := by omega
              have hls := HLN.out
              obtain ⟨n1b, n1o, rfl, x1, l1⟩ := HN1.out.atN (k := i) (by rw [HL1.out]; exact hlt)
              obtain ⟨f1b, f1o, rfl, x2, l2⟩ := HGV1.out.atN (k := i) (by rw [HL2.out]; exact hlt)
              obtain ⟨ib, io, he, x3, l3⟩ := HIN.out.atN (k := i) (by rw [HML.out]; exact hlt)
              injection he with he
              injection he with he1 he2
              subst he1 he2
              rw [Nat.zero_add] at x3
              have h1 := H1.out i hlt
              have h2 := H2.out i hlt
              generalize setB near1 i = b1 at x1 h1
              generalize setB far1 i = b2 at x2 h2
              generalize setB M i = b3 at x3 h1 h2
              cases b1 <;> cases b3 <;> cases b2 <;> first | exact absurd (h1 rfl) (by decide) | exact absurd (h2 rfl) (by decide) | clear h1 h2
              all_goals
                go_wp2_with fail
                go_roundw
                case rel => exact ⟨i + 1, hlt, by go_num, HM.out⟩
                case measure => simp [intOf]; omega
            · obtain rfl : i = N := by omega
              clear hlt hi
              go_wp2_with fail
              go_ret
              exact ⟨rfl, HB.out⟩
set_option maxRecDepth 100000 in
theorem flowCuts_walks : Walks laidAll 4 Tryd.f4 := by
  intro H enc W args ds g
  obtain ⟨ps, hA⟩ := g.reads
  obtain ⟨base, hval⟩ := g.okay
  rw [Tryd.params4] at hA hval
  obtain ⟨v0, vs0, d0, ds0, p0, q0, hargs, rfl, rfl, h0, r0⟩ := trodAll_cons hA
  obtain ⟨v1, vs1, d1, ds1, p1, q1, rfl, rfl, rfl, h1, r1⟩ := trodAll_cons r0
  obtain ⟨v2, vs2, d2, ds2, p2, q2, rfl, rfl, rfl, h2, r2⟩ := trodAll_cons r1
  obtain ⟨v3, vs3, d3, ds3, p3, q3, rfl, rfl, rfl, h3, r3⟩ := trodAll_cons r2
  obtain ⟨v4, vs4, d4, ds4, p4, q4, rfl, rfl, rfl, h4, r4⟩ := trodAll_cons r3
  obtain ⟨rfl, rfl, rfl⟩ := trodAll_nil r4
  obtain rfl : args = #[v0, v1, v2, v3, v4] := Array.toList_inj.1 hargs
  obtain ⟨x0, rfl, rfl, rfl, w0⟩ := open_int Tryd.underlying3 (hval 0 3 v0 rfl rfl) h0
  obtain ⟨x1, w1, u1⟩ := open_edges (hval 1 22 v1 rfl rfl) h1
  obtain ⟨x2, w2, u2⟩ := open_intsIn (hval 2 23 v2 rfl rfl) h2
  obtain ⟨x3, w3, u3⟩ := open_intsIn (hval 3 23 v3 rfl rfl) h3
  obtain ⟨x4, w4⟩ := open_marks (hval 4 24 v4 rfl rfl) h4
  exact cuts_walk x0 v1 x1 v2 x2 v3 x3 v4 x4 W (errT_of_laid g.laid) (wf64 w0).1 (wf64 w0).2 w1 u1 w2 u2 w3 u3 w4

theorem flowCuts_row : Rows.FlowCutsSaid :=
  OpenClaim.holds_of_wide 4 Tryd.f4 rfl rfl rfl rfl rfl rfl rfl ⟨rfl, rfl, rfl, rfl, rfl⟩ rfl rfl rfl rfl rfl (by kernel_rfl) Tryd.func4 (by kernel_rfl)
    (of_decide_eq_true (by kernel_rfl)) (by unfold Func.isWrapper; rw [if_neg (of_decide_eq_false (by kernel_rfl))]; exact ⟨rfl, rfl⟩)
    (fun os started H enc _ => law_lifted (s := Rows.flowCutsSpec) (L := laidAll) Tryd.func4 (by kernel_rfl) rfl (by kernel_rfl)
      (fun H ds hl => by
        rw [Tryd.params4] at hl
        match ds, hl with
        | [_, _, _, _, _], _ => exact ⟨rfl, rfl, rfl⟩)
      (by kernel_rfl) os started H enc
      (ChangeSpec.witness_at (enc := enc) (C := Tryd.checked) (os := os) (X := fun w _ => laidMetH Tryd.prog laidAll w) false (laidWorld os) #[.int .i64 0, .slice none 0 0, .slice none 0 0, .slice none 0 0, .slice none 0 0] 8 rfl (by kernel_rfl) (by kernel_rfl) (by kernel_rfl) (by kernel_rfl) (by kernel_rfl) (laidWorld_met os _))
      flowCuts_walks)

theorem flowCuts_card : Rows.FlowCutsCardSaid :=
  Claim7.holds_tied_plain_at .later [] laidKindsAll true (Rows.flowCutsCard.stood.harness) true
    flowCuts_row (fun _ h => by cases h) (by kernel_rfl) (fun _ h => by cases h) flowCuts_row_tie rfl ⟨rfl, rfl⟩ (by kernel_rfl) rfl
    (fun f fn hf hfn => by
      obtain rfl : f = 4 := Option.some.inj ((show Tryd.prog.funcNamed "roundsman/roundsmanlaw9.FlowCuts" = some 4 by kernel_rfl).symm.trans hf) |>.symm
      obtain rfl : fn = Tryd.f4 := (Option.some.inj (Tryd.func4.symm.trans hfn)).symm
      exact ⟨by kernel_rfl, fun j t ht => by
        rw [Tryd.params4] at ht
        exact stand_all #[3, 22, 23, 23, 24] (by kernel_rfl) j t ht⟩)
    (by kernel_rfl)
#print axioms flowCuts_card
end Go.Proofs.YtgihaakgadmidaaDoor
