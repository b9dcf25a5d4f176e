/-
  PROVED: between any two arcs Path tells a walk in which no arc is twice, and that costs just the least; or none, where there is none. For every net and every two numbers.
-/
import Derived.Test.YtgihaakgadmidaaGreatK7
import Derived.Test.YtgihaakgadmidaaGreatK12
import Derived.BigQuiet
import Derived.RegionTactic
import Derived.IntWalk
import Derived.Test.YtgihaakgadmidaaGreatK10
import Derived.Test.YtgihaakgadmidaaGreatK6
namespace Go.Proofs.YtgihaakgadmidaaGreat
open HP Go.ChangeShapes Go.WideShapes Go.ChangeAt Go.RowKit

theorem quiet_place8 (u : Value) (l : List Int) (a k : Int) (w : World) (h : I64s w u l) (hk : placeL l a = k) :
    Calls Tryz.prog 19 #[u, .int .i64 a] w fun e w' => e = .returned (.int .i64 k) ∧ w' = w :=
  (rplace_any u l a w h).mono fun e w' h => ⟨by rw [h.1, hk], h.2.symm⟩

set_option maxHeartbeats 8000000 in
set_option maxRecDepth 100000 in
theorem paths_no (v : Value) (n : NetD) (x y : Int) (w : World) (hv : NetV w v n) (hin : InNet n) (hs : smallN n = false) :
    Calls Tryz.prog 4 #[v, .int .i64 x, .int .i64 y] w fun e w' => e = .returned (.bool true) ∧ Below w.heap.size w w' := by
  obtain ⟨vq, aq, tq, vc, ac, tc, rfl, -⟩ := hv.shape
  have HS := Lib.hid hs
  have HIN := Lib.hid hin
  clear hs hin
  obtain ⟨W0, hW0⟩ := named (w.alloc (.cells #[.slice vq n.v.length vc, .slice aq n.a.length ac, .slice tq n.t.length tc] 26))
  have hb0 : Below w.heap.size w W0 := by rw [hW0]; exact below_alloc1 _
  have k0 : Blk W0 w.heap.size #[.slice vq n.v.length vc, .slice aq n.a.length ac, .slice tq n.t.length tc] 26 := by rw [hW0]; exact Blk.new _ _ _ _ rfl
  have KA := Lib.hid (k0)
  have B0 := Lib.hid (hb0)
  have VA := Lib.hid (hv.below hb0)
  have e0 := hW0.symm
  clear hb0 k0 hW0 hv
  go_enter Tryz.func4, Tryz.ntmps4
  go_wp2_with fail
  clear e0
  refine (known8_any W0).mono ?_
  rintro e w1 ⟨rfl, hb⟩
  have KA_ := Lib.hid (KA.out.keep hb)
  have B0_ := Lib.hid (bOn6 B0.out hb)
  have VA_ := Lib.hid (VA.out.below hb)
  clear KA B0 VA
  have KA := KA_
  have B0 := B0_
  have VA := VA_
  clear KA_ B0_ VA_
  clear hb 
  obtain ⟨p0, p1, p2, -, -, -⟩ := KA.out.o3
  have pl := KA.out.lt
  go_wp2_with fail
  clear p0 p1 p2 pl
  refine (vSmall VA.out HIN.out HS.out).mono ?_
  rintro e w2 ⟨rfl, hb⟩
  have KA_ := Lib.hid (KA.out.keep hb)
  have B0_ := Lib.hid (bOn6 B0.out hb)
  have VA_ := Lib.hid (VA.out.below hb)
  clear KA B0 VA
  have KA := KA_
  have B0 := B0_
  have VA := VA_
  clear KA_ B0_ VA_
  clear hb 
  obtain ⟨p0, p1, p2, -, -, -⟩ := KA.out.o3
  have pl := KA.out.lt
  go_wp2_with fail
  clear p0 p1 p2 pl
  go_ret
  exact ⟨rfl, B0.out⟩

set_option maxHeartbeats 8000000 in
set_option maxRecDepth 100000 in
theorem paths_yes (v : Value) (n : NetD) (x y : Int) (w : World) (hv : NetV w v n) (hin : InNet n) (hs : smallN n = true) (s0 : -9223372036854775808 ≤ x) (s1 : x ≤ 9223372036854775807) (t0 : -9223372036854775808 ≤ y) (t1 : y ≤ 9223372036854775807) :
    Calls Tryz.prog 4 #[v, .int .i64 x, .int .i64 y] w fun e w' => e = .returned (.bool true) ∧ Below w.heap.size w w' := by
  obtain ⟨vq, aq, tq, vc, ac, tc, rfl, -⟩ := hv.shape
  obtain ⟨hgr, hfew, hok, h90⟩ := small_gr hs hin
  have HS := Lib.hid hs
  have HIN := Lib.hid hin
  have HGR := Lib.hid hgr
  have HGD : Hid (NetGood n) := Lib.hid hgr.good
  have HOK := Lib.hid hok
  have HSI := Lib.hid (And.intro s0 s1)
  have HTI := Lib.hid (And.intro t0 t1)
  clear hs hin hgr hfew hok s0 s1 t0 t1
  obtain ⟨W0, hW0⟩ := named (w.alloc (.cells #[.slice vq n.v.length vc, .slice aq n.a.length ac, .slice tq n.t.length tc] 26))
  have hb0 : Below w.heap.size w W0 := by rw [hW0]; exact below_alloc1 _
  have k0 : Blk W0 w.heap.size #[.slice vq n.v.length vc, .slice aq n.a.length ac, .slice tq n.t.length tc] 26 := by rw [hW0]; exact Blk.new _ _ _ _ rfl
  have KA := Lib.hid (k0)
  have B0 := Lib.hid (hb0)
  have VA := Lib.hid (hv.below hb0)
  have e0 := hW0.symm
  clear hb0 k0 hW0 hv
  go_enter Tryz.func4, Tryz.ntmps4
  go_wp2_with fail
  clear e0
  refine (known8_any W0).mono ?_
  rintro e w1 ⟨rfl, hb⟩
  have KA_ := Lib.hid (KA.out.keep hb)
  have B0_ := Lib.hid (bOn6 B0.out hb)
  have VA_ := Lib.hid (VA.out.below hb)
  clear KA B0 VA
  have KA := KA_
  have B0 := B0_
  have VA := VA_
  clear KA_ B0_ VA_
  clear hb 
  obtain ⟨p0, p1, p2, -, -, -⟩ := KA.out.o3
  have pl := KA.out.lt
  go_wp2_with fail
  clear p0 p1 p2 pl
  refine (vSmall VA.out HIN.out HS.out).mono ?_
  rintro e w2 ⟨rfl, hb⟩
  have KA_ := Lib.hid (KA.out.keep hb)
  have B0_ := Lib.hid (bOn6 B0.out hb)
  have VA_ := Lib.hid (VA.out.below hb)
  clear KA B0 VA
  have KA := KA_
  have B0 := B0_
  have VA := VA_
  clear KA_ B0_ VA_
  clear hb 
  obtain ⟨p0, p1, p2, -, -, -⟩ := KA.out.o3
  have pl := KA.out.lt
  go_wp2_with fail
  clear p0 p1 p2 pl
  refine (vMade B0.out VA.out HGR.out HOK.out).mono ?_
  rintro e w3 ⟨p, va, vt, rfl, hG, hb⟩
  have KA_ := Lib.hid (KA.out.keep hb)
  have B0_ := Lib.hid (bOn6 B0.out hb)
  have VA_ := Lib.hid (VA.out.below hb)
  clear KA B0 VA
  have KA := KA_
  have B0 := B0_
  have VA := VA_
  clear KA_ B0_ VA_
  have G := Lib.hid (hG)
  clear B0
  clear hb hG
  go_wp2_with fail
  refine (wpath_is G.out.g G.out.n x y HSI.out.1 HSI.out.2 HTI.out.1 HTI.out.2).mono ?_
  rintro e w4 ⟨pv, l, c, rfl, hl, hq, hb⟩
  have KA_ := Lib.hid (KA.out.keep hb)
  have VA_ := Lib.hid (VA.out.below hb)
  have G_ := Lib.hid (G.out.old hb)
  clear KA VA G
  have KA := KA_
  have VA := VA_
  have G := G_
  clear KA_ VA_ G_
  have HL := Lib.hid (hl)
  have HQ := Lib.hid hq
  clear hb hl hq
  obtain ⟨p0, p1, p2, -, -, -⟩ := KA.out.o3
  have pl := KA.out.lt
  go_wp2_with fail
  clear p0 p1 p2 pl
  refine (of_is VA.out HGR.out).mono ?_
  rintro e w5 ⟨rv, rfl, hrv, hb⟩
  have KA_ := Lib.hid (KA.out.keep hb)
  have VA_ := Lib.hid (VA.out.below hb)
  have G_ := Lib.hid (G.out.old hb)
  have HL_ := Lib.hid (HL.out.below hb)
  clear KA VA G HL
  have KA := KA_
  have VA := VA_
  have G := G_
  have HL := HL_
  clear KA_ VA_ G_ HL_
  have HRV := Lib.hid (hrv)
  clear hb hrv
  obtain ⟨pq, pc, rfl⟩ := HL.out.shape
  go_wp2_with fail
  cases hth : n.there y with
  | false =>
    have HTH := Lib.hid hth
    have hci := HQ.out.dist_out hth
    clear hth
    subst hci
    refine (rdist_out HRV.out HTH.out).mono ?_
    rintro e w6 ⟨rfl, hb⟩
    have KA_ := Lib.hid (KA.out.keep hb)
    have VA_ := Lib.hid (VA.out.below hb)
    have G_ := Lib.hid (G.out.old hb)
    have HL_ := Lib.hid (HL.out.below hb)
    have HRV_ := Lib.hid (HRV.out.below hb)
    clear KA VA G HL HRV
    have KA := KA_
    have VA := VA_
    have G := G_
    have HL := HL_
    have HRV := HRV_
    clear KA_ VA_ G_ HL_ HRV_
    clear hb
    have hl0 := HQ.out.none
    subst hl0
    go_wp2_with fail
    go_ret
    exact ⟨rfl, G.out.b⟩
  | true =>
    obtain ⟨j, rfl, hj⟩ := there_of hth
    clear hth
    refine (rdist_in HRV.out HGR.out hj).mono ?_
    rintro e w6 ⟨d, rfl, hf, hb⟩
    have KA_ := Lib.hid (KA.out.keep hb)
    have VA_ := Lib.hid (VA.out.below hb)
    have G_ := Lib.hid (G.out.old hb)
    have HL_ := Lib.hid (HL.out.below hb)
    have HRV_ := Lib.hid (HRV.out.below hb)
    clear KA VA G HL HRV
    have KA := KA_
    have VA := VA_
    have G := G_
    have HL := HL_
    have HRV := HRV_
    clear KA_ VA_ G_ HL_ HRV_
    clear hb
    rw [← HQ.out.dist hf hj]
    have HF := Lib.hid hf
    clear hf
    by_cases hci : c = 1152921504606846976
    · subst hci
      have hl0 := HQ.out.none
      subst hl0
      go_wp2_with fail
      go_ret
      exact ⟨rfl, G.out.b⟩
    · have hc1 : (c == 1152921504606846976) = false := by simpa using hci
      obtain ⟨h0, hln, hA, hZ, hcs, hnd⟩ := HQ.out.way hci
      clear hci
      rcases HL.out with ⟨rfl, -⟩ | ⟨hl64, b, o, cp, hlc, hc64, he, hcell⟩
      · simp at h0
      injection he with he1 he2 he3
      subst he1 he3
      have HC := Lib.hid hcell
      have cA := hcell 0 h0
      have cZ := hcell (l.length - 1) (by omega)
      rw [Nat.add_zero] at cA
      rw [show l[0] = x from by simpa [h0] using hA] at cA
      have hz1 : l.length - 1 < l.length := by omega
      rw [List.getD_eq_getElem?_getD, List.getElem?_eq_getElem hz1] at hZ
      rw [show l[l.length - 1] = (j : Int) from hZ] at cZ
      have HCS := Lib.hid hcs
      have HND := Lib.hid hnd
      have HLN : Hid (l.length ≤ 90) := Lib.hid (by omega)
      have hl0 : ((l.length : Int) == 0) = false := beq_eq_false_iff_ne.2 (by omega)
      have hbl := World.block_lt_of_cell? w6 _ cA
      have hlw : IntKind.i64.wrap ((l.length : Int) - 1) = ((l.length - 1 : Nat) : Int) := by rw [IntWalk.i64_in _ (by omega)]; omega
      have hzi : ((l.length - 1 : Nat) : Int) < (l.length : Int) := by omega
      have HCA := Lib.hid cA
      have HCZ := Lib.hid cZ
      clear hA hZ hcs hnd hcell cA cZ hln
      obtain ⟨c0, c1, c2, -, -, -⟩ := KA.out.o3
      have cA := HCA.out
      have cZ := HCZ.out
      go_wp2_with fail
      refine (rvcost VA.out HGD.out HL.out (by have := HLN.out; omega) HCS.out).mono ?_
      rintro e w7 ⟨rfl, hb⟩
      clear c0 c1 c2 cA cZ
      have KA_ := Lib.hid (KA.out.keep hb)
      have VA_ := Lib.hid (VA.out.below hb)
      have G_ := Lib.hid (G.out.old hb)
      have HL_ := Lib.hid (HL.out.below hb)
      have HRV_ := Lib.hid (HRV.out.below hb)
      clear KA VA G HL HRV
      have KA := KA_
      have VA := VA_
      have G := G_
      have HL := HL_
      have HRV := HRV_
      clear KA_ VA_ G_ HL_ HRV_
      have HC1 : Hid (∀ i (h : i < l.length), w7.cell? ⟨b, o + i, none⟩ = some (.int .i64 l[i])) := Lib.hid fun i hi => (hb.cell (World.block_lt_of_cell? w6 _ (HC.out i hi))).trans (HC.out i hi)
      clear hb
      go_wp2_with fail
      refine (wcost_is G.out.g G.out.n HL.out HCS.out).mono ?_
      rintro e w8 ⟨rfl, hb⟩
      have KA_ := Lib.hid (KA.out.keep hb)
      have VA_ := Lib.hid (VA.out.below hb)
      have G_ := Lib.hid (G.out.old hb)
      have HL_ := Lib.hid (HL.out.below hb)
      have HRV_ := Lib.hid (HRV.out.below hb)
      clear KA VA G HL HRV
      have KA := KA_
      have VA := VA_
      have G := G_
      have HL := HL_
      have HRV := HRV_
      clear KA_ VA_ G_ HL_ HRV_
      have HC7 : Hid (∀ i (h : i < l.length), w8.cell? ⟨b, o + i, none⟩ = some (.int .i64 l[i])) := Lib.hid fun i hi => (hb.cell (World.block_lt_of_cell? w7 _ (HC1.out i hi))).trans (HC1.out i hi)
      clear hb hzi hlw
      go_wp2_with fail
      go_loopw [10] (fun i wr => ∃ k : Nat, k ≤ l.length ∧ i = .int .i64 k ∧ Below w8.heap.size w8 wr) (fun i _ => l.length - (intOf i).toNat)
      case atStart => exact ⟨0, Nat.zero_le _, rfl, Below.refl _ _⟩
      case round =>
        obtain ⟨k, hk, rfl, hb⟩ := hrel
        have HBK := Lib.hid hb
        by_cases hlt : k < l.length
        · have hki : (k : Int) < (l.length : Int) := by omega
          have hcw : ∀ i (h : i < l.length), wr.cell? ⟨b, o + i, none⟩ = some (.int .i64 l[i]) := fun i hi => (hb.cell (World.block_lt_of_cell? w8 _ (HC7.out i hi))).trans (HC7.out i hi)
          have hT := I64s.take hcw hlc hc64 k (by omega)
          have ck := hcw k hlt
          have hbw := World.block_lt_of_cell? wr _ ck
          have hpl : placeL (l.take k) l[k] = -1 := by
            have := nodup_place HND.out hlt
            rwa [show l.getD k 0 = l[k] from by simp [hlt]] at this
          obtain ⟨A, hA⟩ : ∃ A, l[k] = A := ⟨_, rfl⟩
          rw [hA] at ck hpl
          have HPL := Lib.hid hpl
          have HT := Lib.hid hT
          have hkc : (k : Int) ≤ (pc : Int) := by omega
          clear hcw hpl hT hb hA
          go_wp2_with fail
          go_quiet ((go_at_call 19; exact Calls.quiet_of_same (quiet_place8 _ _ _ _ _ HT.out HPL.out)))
          clear ck hbw hkc
          obtain ⟨w10, hw10⟩ := named (wr.drewN nq)
          have hb9 : Below wr.heap.size wr w10 := by rw [hw10]; exact below_drewN (Below.refl _ _) nq
          rw [← hw10]
          have HBN := Lib.hid (bOn6 HBK.out hb9)
          clear hb9 hw10
          go_wp2_with fail
          go_roundw
          case rel => exact ⟨k + 1, by omega, by go_num, HBN.out⟩
          case measure => simp [intOf]; omega
        · obtain rfl : k = l.length := by omega
          clear hb
          go_wp2_with fail
          go_ret
          exact ⟨rfl, bOn6 G.out.b HBK.out⟩

theorem paths_law (v : Value) (n : NetD) (x y : Int) (w : World) (hv : NetV w v n) (hin : InNet n) (s0 : -9223372036854775808 ≤ x) (s1 : x ≤ 9223372036854775807) (t0 : -9223372036854775808 ≤ y) (t1 : y ≤ 9223372036854775807) :
    Calls Tryz.prog 4 #[v, .int .i64 x, .int .i64 y] w fun e w' => e = .returned (.bool true) ∧ Below w.heap.size w w' := by
  cases hs : smallN n with
  | false => exact paths_no v n x y w hv hin hs
  | true => exact paths_yes v n x y w hv hin hs s0 s1 t0 t1

set_option maxRecDepth 100000 in
theorem walkPaths_walks : WalksP 4 Tryz.f4 := by
  intro H enc W args ds g
  obtain ⟨ps, hA⟩ := g.reads
  obtain ⟨base, hval⟩ := g.okay
  rw [Tryz.params4] at hA hval
  obtain ⟨v0, vs0, d0, ds0, p0, q0, hargs, rfl, rfl, h0, r0⟩ := trodAll_cons hA
  obtain ⟨v1, vs1, d1, ds1, p1, q1, rfl, rfl, rfl, h1, r1⟩ := trodAll_cons r0
  obtain ⟨v2, vs2, d2, ds2, p2, q2, rfl, rfl, rfl, h2, r2⟩ := trodAll_cons r1
  obtain ⟨rfl, rfl, rfl⟩ := trodAll_nil r2
  obtain rfl : args = #[v0, v1, v2] := Array.toList_inj.1 hargs
  obtain ⟨n0, w0, u0⟩ := open_net (hval 0 26 v0 rfl rfl) h0
  obtain ⟨x1, rfl, rfl, rfl, w1⟩ := open_int Tryz.underlying3 (hval 1 3 v1 rfl rfl) h1
  obtain ⟨x2, rfl, rfl, rfl, w2⟩ := open_int Tryz.underlying3 (hval 2 3 v2 rfl rfl) h2
  exact paths_law v0 n0 x1 x2 W w0 u0 (wf64 w1).1 (wf64 w1).2 (wf64 w2).1 (wf64 w2).2

theorem walkPaths_row : Rows.WalkPathsSaid :=
  OpenClaim.holds_of_wide 4 Tryz.f4 rfl rfl rfl rfl rfl rfl rfl ⟨rfl, rfl, rfl, rfl, rfl⟩ rfl rfl rfl rfl rfl (by kernel_rfl) Tryz.func4 (by kernel_rfl)
    (of_decide_eq_true (by kernel_rfl)) (by unfold Func.isWrapper; rw [if_neg (of_decide_eq_false (by kernel_rfl))]; exact ⟨rfl, rfl⟩)
    (fun os started H enc _ => law_plain (s := Rows.walkPathsSpec) Tryz.func4 (by kernel_rfl) rfl (by kernel_rfl)
      (fun H ds hl => by
        rw [Tryz.params4] at hl
        match ds, hl with
        | [_, _, _], _ => exact ⟨rfl, rfl, rfl⟩)
      (by kernel_rfl) os started H enc
      (ChangeSpec.witness6 (enc := enc) (C := Tryz.checked) false ⟨#[], #[.agg #[.slice none 0 0, .slice none 0 0, .slice none 0 0], .int .i64 0, .int .i64 0], []⟩ 8 (by kernel_rfl) (by kernel_rfl) (by kernel_rfl) (by kernel_rfl))
      walkPaths_walks)
#print axioms walkPaths_row

end Go.Proofs.YtgihaakgadmidaaGreat
