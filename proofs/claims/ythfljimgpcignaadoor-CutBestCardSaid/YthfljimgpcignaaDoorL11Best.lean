/-
  PROVED: Best is the first of the least of the twelve.
-/
import Derived.Test.YthfljimgpcignaaDoorG25
import Derived.Test.YthfljimgpcignaaDoorLift
import Derived.RegionTactic
import Derived.BigQuiet
import Derived.IntWalk
import Derived.Test.YthfljimgpcignaaDoorCards
import Derived.Test.YthfljimgpcignaaDoorTie
import Derived.SevenTiedAt
namespace Go.Proofs.YthfljimgpcignaaDoor
open Go.ChangeShapes Go.WideShapes Go.ChangeAt Go.RowKit Go.Sort

theorem zE_of {N : Nat} {es : List (Int × Int)} (h : ∀ x, x ∈ es → zPair N x) : ∃ F, es = zE F := by
  refine ⟨es.map fun x => (x.1.toNat, x.2.toNat), ?_⟩
  unfold zE
  rw [List.map_map]
  refine ((List.map_congr_left fun x hx => ?_).trans (List.map_id _)).symm
  obtain ⟨⟨h1, -⟩, h2, -⟩ := h x hx
  show (((x.1.toNat : Nat) : Int), ((x.2.toNat : Nat) : Int)) = id x
  rw [Int.toNat_of_nonneg h1, Int.toNat_of_nonneg h2]
  rfl
def BstRel (w : World) (iv : Value) (wr : World) : Prop := ∃ i : Nat, i ≤ 12 ∧ iv = .int .i64 i ∧ Below w.heap.size w wr
set_option maxHeartbeats 8000000 in
set_option maxRecDepth 100000 in
theorem best_walk (pv ev : Value) (l : List (Int × Int)) (es : List (Int × Int)) (w : World) (hk : Calls Tryd.prog 6 #[] w fun e w' => e = .returned (.bool true) ∧ Below w.heap.size w w') (hall : AllC) (hbest : BestC) (hp : Prs w pv l) (he : Prs w ev es) :
    Calls Tryd.prog 3 #[pv, ev] w fun e w' => e = .returned (.bool true) ∧ Below w.heap.size w w' := by
  obtain ⟨pq0, pc0, rfl⟩ := hp.shape
  obtain ⟨eq0, ec0, rfl⟩ := he.shape
  have HB := Lib.hid (Below.refl w.heap.size w)
  have HP := Lib.hid hp
  have HE := Lib.hid he
  clear hp he
  go_enter Tryd.func3, Tryd.ntmps3
  go_wp2_with fail
  refine (hk).mono ?_
  rintro e w1 ⟨rfl, hb⟩
  have HB_ := Lib.hid (bOn6 HB.out hb)
  have HP_ := Lib.hid (HP.out.below hb)
  have HE_ := Lib.hid (HE.out.below hb)
  clear HB HP HE
  have HB := HB_
  have HP := HP_
  have HE := HE_
  clear HB_ HP_ HE_
  clear hb
  go_wp2_with fail
  obtain ⟨fw, hfw⟩ : ∃ fw, decide (l.length ≤ 24 ∧ es.length ≤ 80) = fw := ⟨_, rfl⟩
  refine (few_is HP.out HE.out).mono ?_
  rintro e w2 ⟨rfl, rfl⟩
  rw [hfw]
  cases fw
  · go_wp2_with fail
    go_ret
    exact ⟨rfl, HB.out⟩
  have HFW := Lib.hid (of_decide_eq_true hfw)
  clear hfw
  go_wp2_with fail
  refine (checkCut_is HP.out HE.out).mono ?_
  rintro e w3 ⟨q9, n9, m9, er, rfl, her, hb⟩
  have HER := Lib.hid her
  have hfl9 := wr_field1 (.slice q9 n9 m9) (.int .i64 er) w3
  clear her
  have HB_ := Lib.hid (bOn6 HB.out hb)
  have HP_ := Lib.hid (HP.out.below hb)
  have HE_ := Lib.hid (HE.out.below hb)
  clear HB HP HE
  have HB := HB_
  have HP := HP_
  have HE := HE_
  clear HB_ HP_ HE_
  clear hb
  by_cases hq : OkC l es
  case neg =>
    have d9 : (er != 0) = true := by
      simp only [bne_iff_ne, ne_eq]
      exact fun e => hq (HER.out.1 e)
    have d9b : (er == 0) = false := by simpa using d9
    go_wp2_with fail
    go_ret
    exact ⟨rfl, HB.out⟩
  have d9 : (er != 0) = false := by
    simp only [bne_eq_false_iff_eq]
    exact HER.out.2 hq
  have d9b : (er == 0) = true := by simpa using d9
  obtain ⟨E, rfl⟩ := zE_of hq.e
  have HOK := Lib.hid hq
  clear hq
  go_wp2_with fail
  clear d9 d9b hfl9 HER
  refine (hall _ _ _ _ _ HP.out HE.out HOK.out).mono ?_
  rintro e w4 ⟨av, L, rfl, hS, hQ, hb⟩
  have HS := Lib.hid hS
  have HQ := Lib.hid hQ
  obtain ⟨ab, ao, ac, e9, -⟩ := hS
  subst e9
  rw [hQ.len] at HS ⊢
  clear hQ
  have HB_ := Lib.hid (bOn6 HB.out hb)
  have HP_ := Lib.hid (HP.out.below hb)
  have HE_ := Lib.hid (HE.out.below hb)
  clear HB HP HE
  have HB := HB_
  have HP := HP_
  have HE := HE_
  clear HB_ HP_ HE_
  clear hb
  go_wp2_with fail
  refine (hbest _ _ _ _ _ HP.out HE.out HOK.out).mono ?_
  rintro e w5 ⟨sv, s, P, L2, he, hsv, hQ2, hA, hb⟩
  obtain rfl := HQ.out.uniq hQ2
  have hPL : P < 12 := by rw [← HQ.out.len]; exact (List.getElem?_eq_some_iff.1 hA.at').1
  have hdir := (HQ.out.one hA.at').dir
  have hkind := HQ.out.kind hA.at'
  have hlen := (HQ.out.one hA.at').len
  have hlp : (l.length : Int) ≤ 24 := by have := HFW.out.1; omega
  obtain ⟨S0, C0, D0, K0⟩ := s
  simp only at he hsv hdir hkind hlen
  subst he
  obtain ⟨sq, sc, rfl⟩ := hsv.shapeN hlen
  have HSV := Lib.hid hsv
  have HA := Lib.hid hA
  have HSL := Lib.hid hlen
  have D1 : (0 : Int) ≤ D0 ∧ D0 ≤ 3 ∧ 0 ≤ K0 ∧ K0 ≤ 2 ∧ 3 * D0 + K0 = (P : Int) := by omega
  obtain ⟨D2, D3, D4, D5, D6⟩ := D1
  have HD6 := Lib.hid (show IntKind.i64.wrap (3 * D0 + K0) = (P : Int) by rw [D6]; exact IntWalk.i64_in _ (by omega))
  have HPL := Lib.hid hPL
  have d1 : ¬ D0 < 0 := by omega
  have d2 : ¬ 3 < D0 := by omega
  have d3 : ¬ K0 < 0 := by omega
  have d4 : ¬ 2 < K0 := by omega
  clear hsv hQ2 hA hdir hkind hlen hPL hlp
  have HB_ := Lib.hid (bOn6 HB.out hb)
  have HP_ := Lib.hid (HP.out.below hb)
  have HE_ := Lib.hid (HE.out.below hb)
  have HS_ := Lib.hid (HS.out.below hb)
  clear HB HP HE HS
  have HB := HB_
  have HP := HP_
  have HE := HE_
  have HS := HS_
  clear HB_ HP_ HE_ HS_
  clear hb
  obtain ⟨x1, hx1⟩ := named (w5.alloc (.cells #[.slice sq l.length sc, .int .i64 C0, .int .i64 D0, .int .i64 K0] 36))
  have hb : Below w5.heap.size w5 x1 := by rw [hx1]; exact below_alloc1 _
  obtain ⟨g1, hg1⟩ : ∃ g, w5.heap.size = g := ⟨_, rfl⟩
  have kb : Blk x1 g1 #[.slice sq l.length sc, .int .i64 C0, .int .i64 D0, .int .i64 K0] 36 := by rw [hx1]; exact Blk.new _ _ _ _ hg1
  have HB_ := Lib.hid (bOn6 HB.out hb)
  have HP_ := Lib.hid (HP.out.below hb)
  have HE_ := Lib.hid (HE.out.below hb)
  have HS_ := Lib.hid (HS.out.below hb)
  have HSV_ := Lib.hid (HSV.out.below hb)
  clear HB HP HE HS HSV
  have HB := HB_
  have HP := HP_
  have HE := HE_
  have HS := HS_
  have HSV := HSV_
  clear HB_ HP_ HE_ HS_ HSV_
  have KR := Lib.hid (kb)
  have e1 := hx1.symm
  have z1 : Hid (x1.heap.size = w5.heap.size + 1) := Lib.hid (by rw [hx1]; simp)
  clear hb kb hx1
  obtain ⟨k0, k1, k2, k3, -⟩ := KR.out.o4
  have kl := KR.out.lt
  go_wp2_with fail
  clear e1 z1
  clear k0 k1 k2 k3 kl
  go_loopw [10, 11, 12] (fun iv _ _ wr => BstRel x1 iv wr) (fun iv _ _ _ => 12 - (intOf iv).toNat)
  case atStart => exact ⟨0, Nat.zero_le _, rfl, Below.refl _ _⟩
  case round =>
    obtain ⟨i, hi, rfl, hb⟩ := hrel
    have HB_ := Lib.hid (bOn6 HB.out hb)
    have HP_ := Lib.hid (HP.out.below hb)
    have HE_ := Lib.hid (HE.out.below hb)
    have HS_ := Lib.hid (HS.out.below hb)
    have HSV_ := Lib.hid (HSV.out.below hb)
    have KR_ := Lib.hid (KR.out.keep hb)
    clear HB HP HE HS HSV KR
    have HB := HB_
    have HP := HP_
    have HE := HE_
    have HS := HS_
    have HSV := HSV_
    have KR := KR_
    clear HB_ HP_ HE_ HS_ HSV_ KR_
    have HBX := Lib.hid hb
    clear hb
    by_cases hlt : i < 12
    case neg =>
      obtain rfl : i = 12 := by omega
      clear hlt hi
      go_wp2_with fail
      obtain ⟨pv, p0, pb, p1, pl⟩ := HS.out.at HA.out.at'
      obtain ⟨pq, pc, rfl⟩ := pb.shapeN HSL.out
      have P0 := Lib.hid p0
      have P1 := Lib.hid p1
      have PB := Lib.hid pb
      have DS0 : Hid (GG.BelL wr (fun _ => false) () wr.drew) := Lib.hid ⟨(Below.refl _ _).drew⟩
      clear p0 pb p1 pl
      have HPZ : Hid (P < 12 ∧ (P : Int) < 12) := Lib.hid ⟨HPL.out, by have := HPL.out; omega⟩
      refine' GG.wp_growL _ (GG.BelL wr) [[], [], [0, 1], [0, 1, 2], [0, 1, 2, 3], [], [5], [0, 1, 2, 3, 4, 5, 6], [0, 1, 2, 3, 4, 5, 6, 7], [0, 1, 2, 3, 4, 5, 6, 7, 8], [0, 1, 2, 3, 4, 5, 6, 7, 8], [0, 1, 2, 3, 4, 5, 6, 7, 8, 9, 10], [0, 1, 2, 3, 4, 5, 6, 7, 8, 9, 10, 11], [0, 1, 2, 3, 4, 5, 6, 7, 8, 9, 10, 11, 12], [0, 1, 2, 3, 4, 5, 6, 7, 8], [0, 1, 2, 3, 4, 5, 6, 7, 8, 14], [0, 1, 2, 3, 4, 5, 6, 7, 8, 9, 10, 11, 12, 13, 14, 15], [0, 1, 2, 3, 4, 5, 6, 7, 8, 9, 10, 11, 12, 13, 14, 15, 16], [0, 1, 2, 3, 4, 5, 6, 7, 8, 9, 10, 11, 12, 13, 14, 15, 16, 17]] (GG.Fact.lit (Rl := GG.RlL) _ :: GG.Fact.lit (Rl := GG.RlL) _ :: GG.Fact.lit (Rl := GG.RlL) _ :: GG.Fact.lit (Rl := GG.RlL) _ :: GG.Fact.lit (Rl := GG.RlL) _ :: GG.Fact.lit (Rl := GG.RlL) _ :: GG.Fact.lit (Rl := GG.RlL) _ :: GG.Fact.lit (Rl := GG.RlL) _ :: GG.Fact.lit (Rl := GG.RlL) _ :: GG.Fact.lit (Rl := GG.RlL) _ :: GG.Fact.lit (Rl := GG.RlL) _ :: GG.Fact.lit (Rl := GG.RlL) _ :: GG.Fact.lit (Rl := GG.RlL) _ :: GG.Fact.lit (Rl := GG.RlL) _ :: GG.Fact.lit (Rl := GG.RlL) _ :: GG.Fact.lit (Rl := GG.RlL) _ :: GG.Fact.lit (Rl := GG.RlL) _ :: GG.Fact.lit (Rl := GG.RlL) _ :: GG.Fact.lit (Rl := GG.RlL) _ :: []) (by kernel_rfl) rfl (by kernel_rfl) (()) (DS0.out) ?sequb
      case' sequb => skip
      (refine' GG.grow_lit (GG.BelL.still) rfl ?wtub0 ?runub0 ?putub0 ?nextub0; (case wtub0 => rfl); (case runub0 => (intro w' hS; (obtain ⟨dn, s, hS⟩ := hS); (have p0 := keep hS.b P0.out); (have pl := World.block_lt_of_cell? _ _ p0); (have p1 := keep hS.b P1.out); (have k9 := KR.out.keep hS.b); (obtain ⟨k0, k1, k2, k3, -⟩ := k9.o4); (have kl := k9.lt); (obtain ⟨hpz, hpz2⟩ := HPZ.out); clear k9; clear hS; go_simp; first | done | exact rfl)); (case putub0 => (first | (simp only [Act.put, List.setIfInBounds_toArray, List.set_cons_zero, List.set_cons_succ]; first | done | exact rfl) | rfl)); (case' nextub0 => skip))
      (refine' GG.grow_lit (GG.BelL.still) rfl ?wtub1 ?runub1 ?putub1 ?nextub1; (case wtub1 => rfl); (case runub1 => (intro w' hS; (obtain ⟨dn, s, hS⟩ := hS); (have p0 := keep hS.b P0.out); (have pl := World.block_lt_of_cell? _ _ p0); (have p1 := keep hS.b P1.out); (have k9 := KR.out.keep hS.b); (obtain ⟨k0, k1, k2, k3, -⟩ := k9.o4); (have kl := k9.lt); (obtain ⟨hpz, hpz2⟩ := HPZ.out); clear k9; clear hS; go_simp; first | done | exact rfl)); (case putub1 => (first | (simp only [Act.put, List.setIfInBounds_toArray, List.set_cons_zero, List.set_cons_succ]; first | done | exact rfl) | rfl)); (case' nextub1 => skip))
      (refine' GG.grow_lit (GG.BelL.still) rfl ?wtub2 ?runub2 ?putub2 ?nextub2; (case wtub2 => rfl); (case runub2 => (intro w' hS; (obtain ⟨dn, s, hS⟩ := hS); (have p0 := keep hS.b P0.out); (have pl := World.block_lt_of_cell? _ _ p0); (have p1 := keep hS.b P1.out); (have k9 := KR.out.keep hS.b); (obtain ⟨k0, k1, k2, k3, -⟩ := k9.o4); (have kl := k9.lt); (obtain ⟨hpz, hpz2⟩ := HPZ.out); clear k9; clear hS; go_simp; first | done | exact rfl)); (case putub2 => (first | (simp only [Act.put, List.setIfInBounds_toArray, List.set_cons_zero, List.set_cons_succ]; first | done | exact rfl) | rfl)); (case' nextub2 => skip))
      (refine' GG.grow_lit (GG.BelL.still) rfl ?wtub3 ?runub3 ?putub3 ?nextub3; (case wtub3 => rfl); (case runub3 => (intro w' hS; (obtain ⟨dn, s, hS⟩ := hS); (have p0 := keep hS.b P0.out); (have pl := World.block_lt_of_cell? _ _ p0); (have p1 := keep hS.b P1.out); (have k9 := KR.out.keep hS.b); (obtain ⟨k0, k1, k2, k3, -⟩ := k9.o4); (have kl := k9.lt); (obtain ⟨hpz, hpz2⟩ := HPZ.out); clear k9; clear hS; go_simp; first | done | exact rfl)); (case putub3 => (first | (simp only [Act.put, List.setIfInBounds_toArray, List.set_cons_zero, List.set_cons_succ]; first | done | exact rfl) | rfl)); (case' nextub3 => skip))
      (refine' GG.grow_lit (GG.BelL.still) rfl ?wtub4 ?runub4 ?putub4 ?nextub4; (case wtub4 => rfl); (case runub4 => (intro w' hS; (obtain ⟨dn, s, hS⟩ := hS); (have p0 := keep hS.b P0.out); (have pl := World.block_lt_of_cell? _ _ p0); (have p1 := keep hS.b P1.out); (have k9 := KR.out.keep hS.b); (obtain ⟨k0, k1, k2, k3, -⟩ := k9.o4); (have kl := k9.lt); (obtain ⟨hpz, hpz2⟩ := HPZ.out); clear k9; clear hS; go_simp; first | done | exact rfl)); (case putub4 => (first | (simp only [Act.put, List.setIfInBounds_toArray, List.set_cons_zero, List.set_cons_succ]; first | done | exact rfl) | rfl)); (case' nextub4 => skip))
      (refine' GG.grow_lit (GG.BelL.still) rfl ?wtub5 ?runub5 ?putub5 ?nextub5; (case wtub5 => rfl); (case runub5 => (intro w' hS; (obtain ⟨dn, s, hS⟩ := hS); (have p0 := keep hS.b P0.out); (have pl := World.block_lt_of_cell? _ _ p0); (have p1 := keep hS.b P1.out); (have k9 := KR.out.keep hS.b); (obtain ⟨k0, k1, k2, k3, -⟩ := k9.o4); (have kl := k9.lt); (obtain ⟨hpz, hpz2⟩ := HPZ.out); clear k9; clear hS; go_simp; first | done | exact rfl)); (case putub5 => (first | (simp only [Act.put, List.setIfInBounds_toArray, List.set_cons_zero, List.set_cons_succ]; first | done | exact rfl) | rfl)); (case' nextub5 => skip))
      (refine' GG.grow_lit (GG.BelL.still) rfl ?wtub6 ?runub6 ?putub6 ?nextub6; (case wtub6 => rfl); (case runub6 => (intro w' hS; (obtain ⟨dn, s, hS⟩ := hS); (have p0 := keep hS.b P0.out); (have pl := World.block_lt_of_cell? _ _ p0); (have p1 := keep hS.b P1.out); (have k9 := KR.out.keep hS.b); (obtain ⟨k0, k1, k2, k3, -⟩ := k9.o4); (have kl := k9.lt); (obtain ⟨hpz, hpz2⟩ := HPZ.out); clear k9; clear hS; go_simp; first | done | exact rfl)); (case putub6 => (first | (simp only [Act.put, List.setIfInBounds_toArray, List.set_cons_zero, List.set_cons_succ]; first | done | exact rfl) | rfl)); (case' nextub6 => skip))
      (refine' GG.grow_lit (GG.BelL.still) rfl ?wtub7 ?runub7 ?putub7 ?nextub7; (case wtub7 => rfl); (case runub7 => (intro w' hS; (obtain ⟨dn, s, hS⟩ := hS); (have p0 := keep hS.b P0.out); (have pl := World.block_lt_of_cell? _ _ p0); (have p1 := keep hS.b P1.out); (have k9 := KR.out.keep hS.b); (obtain ⟨k0, k1, k2, k3, -⟩ := k9.o4); (have kl := k9.lt); (obtain ⟨hpz, hpz2⟩ := HPZ.out); clear k9; clear hS; go_simp; first | done | exact rfl)); (case putub7 => (first | (simp only [Act.put, List.setIfInBounds_toArray, List.set_cons_zero, List.set_cons_succ]; first | done | exact rfl) | rfl)); (case' nextub7 => skip))
      (refine' GG.grow_lit (GG.BelL.still) rfl ?wtub8 ?runub8 ?putub8 ?nextub8; (case wtub8 => rfl); (case runub8 => (intro w' hS; (obtain ⟨dn, s, hS⟩ := hS); (have p0 := keep hS.b P0.out); (have pl := World.block_lt_of_cell? _ _ p0); (have p1 := keep hS.b P1.out); (have k9 := KR.out.keep hS.b); (obtain ⟨k0, k1, k2, k3, -⟩ := k9.o4); (have kl := k9.lt); (obtain ⟨hpz, hpz2⟩ := HPZ.out); clear k9; clear hS; go_simp; first | done | exact rfl)); (case putub8 => (first | (simp only [Act.put, List.setIfInBounds_toArray, List.set_cons_zero, List.set_cons_succ]; first | done | exact rfl) | rfl)); (case' nextub8 => skip))
      (refine' GG.grow_lit (GG.BelL.still) rfl ?wtub9 ?runub9 ?putub9 ?nextub9; (case wtub9 => rfl); (case runub9 => (intro w' hS; (obtain ⟨dn, s, hS⟩ := hS); (have p0 := keep hS.b P0.out); (have pl := World.block_lt_of_cell? _ _ p0); (have p1 := keep hS.b P1.out); (have k9 := KR.out.keep hS.b); (obtain ⟨k0, k1, k2, k3, -⟩ := k9.o4); (have kl := k9.lt); (obtain ⟨hpz, hpz2⟩ := HPZ.out); clear k9; clear hS; go_simp; first | done | exact rfl)); (case putub9 => (first | (simp only [Act.put, List.setIfInBounds_toArray, List.set_cons_zero, List.set_cons_succ]; first | done | exact rfl) | rfl)); (case' nextub9 => skip))
      (refine' GG.grow_lit (GG.BelL.still) rfl ?wtub10 ?runub10 ?putub10 ?nextub10; (case wtub10 => rfl); (case runub10 => (intro w' hS; (obtain ⟨dn, s, hS⟩ := hS); (have p0 := keep hS.b P0.out); (have pl := World.block_lt_of_cell? _ _ p0); (have p1 := keep hS.b P1.out); (have k9 := KR.out.keep hS.b); (obtain ⟨k0, k1, k2, k3, -⟩ := k9.o4); (have kl := k9.lt); (obtain ⟨hpz, hpz2⟩ := HPZ.out); clear k9; clear hS; go_simp; first | done | exact rfl)); (case putub10 => (first | (simp only [Act.put, List.setIfInBounds_toArray, List.set_cons_zero, List.set_cons_succ]; first | done | exact rfl) | rfl)); (case' nextub10 => skip))
      (refine' GG.grow_lit (GG.BelL.still) rfl ?wtub11 ?runub11 ?putub11 ?nextub11; (case wtub11 => rfl); (case runub11 => (intro w' hS; (obtain ⟨dn, s, hS⟩ := hS); (have p0 := keep hS.b P0.out); (have pl := World.block_lt_of_cell? _ _ p0); (have p1 := keep hS.b P1.out); (have k9 := KR.out.keep hS.b); (obtain ⟨k0, k1, k2, k3, -⟩ := k9.o4); (have kl := k9.lt); (obtain ⟨hpz, hpz2⟩ := HPZ.out); clear k9; clear hS; go_simp; first | done | exact rfl)); (case putub11 => (first | (simp only [Act.put, List.setIfInBounds_toArray, List.set_cons_zero, List.set_cons_succ]; first | done | exact rfl) | rfl)); (case' nextub11 => skip))
      (refine' GG.grow_lit (GG.BelL.still) rfl ?wtub12 ?runub12 ?putub12 ?nextub12; (case wtub12 => rfl); (case runub12 => (intro w' hS; (obtain ⟨dn, s, hS⟩ := hS); (have p0 := keep hS.b P0.out); (have pl := World.block_lt_of_cell? _ _ p0); (have p1 := keep hS.b P1.out); (have k9 := KR.out.keep hS.b); (obtain ⟨k0, k1, k2, k3, -⟩ := k9.o4); (have kl := k9.lt); (obtain ⟨hpz, hpz2⟩ := HPZ.out); clear k9; clear hS; go_simp; first | done | exact rfl)); (case putub12 => (first | (simp only [Act.put, List.setIfInBounds_toArray, List.set_cons_zero, List.set_cons_succ]; first | done | exact rfl) | rfl)); (case' nextub12 => skip))
      (refine' GG.grow_lit (GG.BelL.still) rfl ?wtub13 ?runub13 ?putub13 ?nextub13; (case wtub13 => rfl); (case runub13 => (intro w' hS; (obtain ⟨dn, s, hS⟩ := hS); (have p0 := keep hS.b P0.out); (have pl := World.block_lt_of_cell? _ _ p0); (have p1 := keep hS.b P1.out); (have k9 := KR.out.keep hS.b); (obtain ⟨k0, k1, k2, k3, -⟩ := k9.o4); (have kl := k9.lt); (obtain ⟨hpz, hpz2⟩ := HPZ.out); clear k9; clear hS; go_simp; first | done | exact rfl)); (case putub13 => (first | (simp only [Act.put, List.setIfInBounds_toArray, List.set_cons_zero, List.set_cons_succ]; first | done | exact rfl) | rfl)); (case' nextub13 => skip))
      (refine' GG.grow_lit (GG.BelL.still) rfl ?wtub14 ?runub14 ?putub14 ?nextub14; (case wtub14 => rfl); (case runub14 => (intro w' hS; (obtain ⟨dn, s, hS⟩ := hS); (have p0 := keep hS.b P0.out); (have pl := World.block_lt_of_cell? _ _ p0); (have p1 := keep hS.b P1.out); (have k9 := KR.out.keep hS.b); (obtain ⟨k0, k1, k2, k3, -⟩ := k9.o4); (have kl := k9.lt); (obtain ⟨hpz, hpz2⟩ := HPZ.out); clear k9; clear hS; go_simp; first | done | exact rfl)); (case putub14 => (first | (simp only [Act.put, List.setIfInBounds_toArray, List.set_cons_zero, List.set_cons_succ]; first | done | exact rfl) | rfl)); (case' nextub14 => skip))
      (refine' GG.grow_lit (GG.BelL.still) rfl ?wtub15 ?runub15 ?putub15 ?nextub15; (case wtub15 => rfl); (case runub15 => (intro w' hS; (obtain ⟨dn, s, hS⟩ := hS); (have p0 := keep hS.b P0.out); (have pl := World.block_lt_of_cell? _ _ p0); (have p1 := keep hS.b P1.out); (have k9 := KR.out.keep hS.b); (obtain ⟨k0, k1, k2, k3, -⟩ := k9.o4); (have kl := k9.lt); (obtain ⟨hpz, hpz2⟩ := HPZ.out); clear k9; clear hS; go_simp; first | done | exact rfl)); (case putub15 => (first | (simp only [Act.put, List.setIfInBounds_toArray, List.set_cons_zero, List.set_cons_succ]; first | done | exact rfl) | rfl)); (case' nextub15 => skip))
      (refine' GG.grow_lit_call (u := .bool true) rfl Tryd.func12 (by kernel_rfl) rfl rfl ?wtub16 ?runub16 ?putub16 ?nextub16; (case wtub16 => rfl); (case runub16 => (intro dn s w' hS hd H; exact (sameB_is (PB.out.below hS.b) (HSV.out.below hS.b) (by simp : decide (S0 = S0) = true)).mono (fun e w2 h => ⟨(), h.1, ⟨hS.b.trans (h.2.mono hS.b.size)⟩, h.2, h.2.size⟩))); (case putub16 => (first | (simp only [Act.put, List.setIfInBounds_toArray, List.set_cons_zero, List.set_cons_succ]; first | done | exact rfl) | rfl)); (case' nextub16 => skip))
      (refine' GG.grow_lit (GG.BelL.still) rfl ?wtub17 ?runub17 ?putub17 ?nextub17; (case wtub17 => rfl); (case runub17 => (intro w' hS; (obtain ⟨dn, s, hS⟩ := hS); (have p0 := keep hS.b P0.out); (have pl := World.block_lt_of_cell? _ _ p0); (have p1 := keep hS.b P1.out); (have k9 := KR.out.keep hS.b); (obtain ⟨k0, k1, k2, k3, -⟩ := k9.o4); (have kl := k9.lt); (obtain ⟨hpz, hpz2⟩ := HPZ.out); clear k9; clear hS; go_simp; first | done | exact rfl)); (case putub17 => (first | (simp only [Act.put, List.setIfInBounds_toArray, List.set_cons_zero, List.set_cons_succ]; first | done | exact rfl) | rfl)); (case' nextub17 => skip))
      (refine' GG.grow_lit (GG.BelL.still) rfl ?wtub18 ?runub18 ?putub18 ?nextub18; (case wtub18 => rfl); (case runub18 => (intro w' hS; (obtain ⟨dn, s, hS⟩ := hS); (have p0 := keep hS.b P0.out); (have pl := World.block_lt_of_cell? _ _ p0); (have p1 := keep hS.b P1.out); (have k9 := KR.out.keep hS.b); (obtain ⟨k0, k1, k2, k3, -⟩ := k9.o4); (have kl := k9.lt); (obtain ⟨hpz, hpz2⟩ := HPZ.out); clear k9; clear hS; go_simp; first | done | exact rfl)); (case putub18 => (first | (simp only [Act.put, List.setIfInBounds_toArray, List.set_cons_zero, List.set_cons_succ]; first | done | exact rfl) | rfl)); (case' nextub18 => skip))
      intro dn s w8 hS _ _
      have HBE := Lib.hid (bOn6 HB.out hS.b)
      clear hS DS0
      go_wp2_with fail
      go_ret
      exact ⟨rfl, HBE.out⟩
    have hki : (i : Int) < 12 := by omega
    obtain ⟨x, hx⟩ : ∃ x, L[i]? = some x := ⟨_, List.getElem?_eq_getElem (by rw [HQ.out.len]; exact hlt)⟩
    obtain ⟨xv, x0, xb, x1', xl⟩ := HS.out.at hx
    have hxl := (HQ.out.one hx).len
    obtain ⟨xq, xc, rfl⟩ := xb.shapeN hxl
    have X0 := Lib.hid x0
    have XB := Lib.hid xb
    have XL : Hid (x.side.length ≤ 100000 ∧ S0.length ≤ 100000) := Lib.hid (by rw [hxl, HSL.out]; have := HFW.out.1; omega)
    have HX := Lib.hid hx
    have hbst := HA.out.best i x hx
    obtain ⟨U, hU⟩ : ∃ U, unevL x.side = U := ⟨_, rfl⟩
    obtain ⟨V, hV⟩ : ∃ V, unevL S0 = V := ⟨_, rfl⟩
    simp only at hbst
    rw [hU, hV] at hbst
    have HU := Lib.hid hU
    have HV := Lib.hid hV
    have HBST := Lib.hid hbst
    have HK : Hid (i < 12 ∧ (i : Int) < 12) := Lib.hid ⟨hlt, hki⟩
    have DS0 : Hid (GG.BelL wr (fun _ => false) () wr.drew) := Lib.hid ⟨(Below.refl _ _).drew⟩
    clear x0 xb x1' xl hxl hx hbst hU hV
    go_wp2_with fail
    refine' GG.wp_growL _ (GG.BelL wr) [[], [], [0, 1], [0, 1, 2], [0, 1, 2, 3], [0, 1, 2, 3, 4], [], [6], [0, 1, 2, 3, 4, 5, 6, 7], [0, 1, 2, 3, 4, 5, 6, 7, 8], [0, 1, 2, 3, 4, 5, 6, 7, 8, 9]] (GG.Fact.lit (Rl := GG.RlL) _ :: GG.Fact.lit (Rl := GG.RlL) _ :: GG.Fact.lit (Rl := GG.RlL) _ :: GG.Fact.lit (Rl := GG.RlL) _ :: GG.Fact.lit (Rl := GG.RlL) _ :: GG.Fact.lit (Rl := GG.RlL) _ :: GG.Fact.lit (Rl := GG.RlL) _ :: GG.Fact.lit (Rl := GG.RlL) _ :: GG.Fact.lit (Rl := GG.RlL) _ :: GG.Fact.lit (Rl := GG.RlL) _ :: GG.Fact.lit (Rl := GG.RlL) _ :: []) (by kernel_rfl) rfl (by kernel_rfl) (()) (DS0.out) ?sequa
    case' sequa => skip
    (refine' GG.grow_lit (GG.BelL.still) rfl ?wtua0 ?runua0 ?putua0 ?nextua0; (case wtua0 => rfl); (case runua0 => (intro w' hS; (obtain ⟨dn, s, hS⟩ := hS); (have x0 := keep hS.b X0.out); (have xl := World.block_lt_of_cell? _ _ x0); (have k9 := KR.out.keep hS.b); (obtain ⟨k0, k1, k2, k3, -⟩ := k9.o4); (have kl := k9.lt); (obtain ⟨hlt, hki⟩ := HK.out); clear k9; clear hS; go_simp; first | done | exact rfl)); (case putua0 => (first | (simp only [Act.put, List.setIfInBounds_toArray, List.set_cons_zero, List.set_cons_succ]; first | done | exact rfl) | rfl)); (case' nextua0 => skip))
    (refine' GG.grow_lit (GG.BelL.still) rfl ?wtua1 ?runua1 ?putua1 ?nextua1; (case wtua1 => rfl); (case runua1 => (intro w' hS; (obtain ⟨dn, s, hS⟩ := hS); (have x0 := keep hS.b X0.out); (have xl := World.block_lt_of_cell? _ _ x0); (have k9 := KR.out.keep hS.b); (obtain ⟨k0, k1, k2, k3, -⟩ := k9.o4); (have kl := k9.lt); (obtain ⟨hlt, hki⟩ := HK.out); clear k9; clear hS; go_simp; first | done | exact rfl)); (case putua1 => (first | (simp only [Act.put, List.setIfInBounds_toArray, List.set_cons_zero, List.set_cons_succ]; first | done | exact rfl) | rfl)); (case' nextua1 => skip))
    (refine' GG.grow_lit (GG.BelL.still) rfl ?wtua2 ?runua2 ?putua2 ?nextua2; (case wtua2 => rfl); (case runua2 => (intro w' hS; (obtain ⟨dn, s, hS⟩ := hS); (have x0 := keep hS.b X0.out); (have xl := World.block_lt_of_cell? _ _ x0); (have k9 := KR.out.keep hS.b); (obtain ⟨k0, k1, k2, k3, -⟩ := k9.o4); (have kl := k9.lt); (obtain ⟨hlt, hki⟩ := HK.out); clear k9; clear hS; go_simp; first | done | exact rfl)); (case putua2 => (first | (simp only [Act.put, List.setIfInBounds_toArray, List.set_cons_zero, List.set_cons_succ]; first | done | exact rfl) | rfl)); (case' nextua2 => skip))
    (refine' GG.grow_lit (GG.BelL.still) rfl ?wtua3 ?runua3 ?putua3 ?nextua3; (case wtua3 => rfl); (case runua3 => (intro w' hS; (obtain ⟨dn, s, hS⟩ := hS); (have x0 := keep hS.b X0.out); (have xl := World.block_lt_of_cell? _ _ x0); (have k9 := KR.out.keep hS.b); (obtain ⟨k0, k1, k2, k3, -⟩ := k9.o4); (have kl := k9.lt); (obtain ⟨hlt, hki⟩ := HK.out); clear k9; clear hS; go_simp; first | done | exact rfl)); (case putua3 => (first | (simp only [Act.put, List.setIfInBounds_toArray, List.set_cons_zero, List.set_cons_succ]; first | done | exact rfl) | rfl)); (case' nextua3 => skip))
    (refine' GG.grow_lit (GG.BelL.still) rfl ?wtua4 ?runua4 ?putua4 ?nextua4; (case wtua4 => rfl); (case runua4 => (intro w' hS; (obtain ⟨dn, s, hS⟩ := hS); (have x0 := keep hS.b X0.out); (have xl := World.block_lt_of_cell? _ _ x0); (have k9 := KR.out.keep hS.b); (obtain ⟨k0, k1, k2, k3, -⟩ := k9.o4); (have kl := k9.lt); (obtain ⟨hlt, hki⟩ := HK.out); clear k9; clear hS; go_simp; first | done | exact rfl)); (case putua4 => (first | (simp only [Act.put, List.setIfInBounds_toArray, List.set_cons_zero, List.set_cons_succ]; first | done | exact rfl) | rfl)); (case' nextua4 => skip))
    (refine' GG.grow_lit_call (u := .int .i64 U) rfl Tryd.func11 (by kernel_rfl) rfl rfl ?wtua5 ?runua5 ?putua5 ?nextua5; (case wtua5 => rfl); (case runua5 => (intro dn s w' hS hd H; exact (uneven_is (XB.out.below hS.b) XL.out.1).mono (fun e w2 h => by rw [HU.out] at h; exact ⟨(), h.1, ⟨by rw [h.2]; exact hS.b⟩, by rw [h.2]; exact Below.refl _ _, by rw [h.2]; exact Nat.le_refl _⟩))); (case putua5 => (first | (simp only [Act.put, List.setIfInBounds_toArray, List.set_cons_zero, List.set_cons_succ]; first | done | exact rfl) | rfl)); (case' nextua5 => skip))
    (refine' GG.grow_lit (GG.BelL.still) rfl ?wtua6 ?runua6 ?putua6 ?nextua6; (case wtua6 => rfl); (case runua6 => (intro w' hS; (obtain ⟨dn, s, hS⟩ := hS); (have x0 := keep hS.b X0.out); (have xl := World.block_lt_of_cell? _ _ x0); (have k9 := KR.out.keep hS.b); (obtain ⟨k0, k1, k2, k3, -⟩ := k9.o4); (have kl := k9.lt); (obtain ⟨hlt, hki⟩ := HK.out); clear k9; clear hS; go_simp; first | done | exact rfl)); (case putua6 => (first | (simp only [Act.put, List.setIfInBounds_toArray, List.set_cons_zero, List.set_cons_succ]; first | done | exact rfl) | rfl)); (case' nextua6 => skip))
    (refine' GG.grow_lit (GG.BelL.still) rfl ?wtua7 ?runua7 ?putua7 ?nextua7; (case wtua7 => rfl); (case runua7 => (intro w' hS; (obtain ⟨dn, s, hS⟩ := hS); (have x0 := keep hS.b X0.out); (have xl := World.block_lt_of_cell? _ _ x0); (have k9 := KR.out.keep hS.b); (obtain ⟨k0, k1, k2, k3, -⟩ := k9.o4); (have kl := k9.lt); (obtain ⟨hlt, hki⟩ := HK.out); clear k9; clear hS; go_simp; first | done | exact rfl)); (case putua7 => (first | (simp only [Act.put, List.setIfInBounds_toArray, List.set_cons_zero, List.set_cons_succ]; first | done | exact rfl) | rfl)); (case' nextua7 => skip))
    (refine' GG.grow_lit_call (u := .int .i64 V) rfl Tryd.func11 (by kernel_rfl) rfl rfl ?wtua8 ?runua8 ?putua8 ?nextua8; (case wtua8 => rfl); (case runua8 => (intro dn s w' hS hd H; exact (uneven_is (HSV.out.below hS.b) XL.out.2).mono (fun e w2 h => by rw [HV.out] at h; exact ⟨(), h.1, ⟨by rw [h.2]; exact hS.b⟩, by rw [h.2]; exact Below.refl _ _, by rw [h.2]; exact Nat.le_refl _⟩))); (case putua8 => (first | (simp only [Act.put, List.setIfInBounds_toArray, List.set_cons_zero, List.set_cons_succ]; first | done | exact rfl) | rfl)); (case' nextua8 => skip))
    (refine' GG.grow_lit (GG.BelL.still) rfl ?wtua9 ?runua9 ?putua9 ?nextua9; (case wtua9 => rfl); (case runua9 => (intro w' hS; (obtain ⟨dn, s, hS⟩ := hS); (have x0 := keep hS.b X0.out); (have xl := World.block_lt_of_cell? _ _ x0); (have k9 := KR.out.keep hS.b); (obtain ⟨k0, k1, k2, k3, -⟩ := k9.o4); (have kl := k9.lt); (obtain ⟨hlt, hki⟩ := HK.out); clear k9; clear hS; go_simp; first | done | exact rfl)); (case putua9 => (first | (simp only [Act.put, List.setIfInBounds_toArray, List.set_cons_zero, List.set_cons_succ]; first | done | exact rfl) | rfl)); (case' nextua9 => skip))
    (refine' GG.grow_lit (GG.BelL.still) rfl ?wtua10 ?runua10 ?putua10 ?nextua10; (case wtua10 => rfl); (case runua10 => (intro w' hS; (obtain ⟨dn, s, hS⟩ := hS); (have x0 := keep hS.b X0.out); (have xl := World.block_lt_of_cell? _ _ x0); (have k9 := KR.out.keep hS.b); (obtain ⟨k0, k1, k2, k3, -⟩ := k9.o4); (have kl := k9.lt); (obtain ⟨hlt, hki⟩ := HK.out); clear k9; clear hS; go_simp; first | done | exact rfl)); (case putua10 => (first | (simp only [Act.put, List.setIfInBounds_toArray, List.set_cons_zero, List.set_cons_succ]; first | done | exact rfl) | rfl)); (case' nextua10 => skip))
    intro dn s w8 hS _ _
    have hb := hS.b
    clear hS DS0 XB X0
    have HB_ := Lib.hid (bOn6 HB.out hb)
    have HP_ := Lib.hid (HP.out.below hb)
    have HE_ := Lib.hid (HE.out.below hb)
    have HS_ := Lib.hid (HS.out.below hb)
    have HSV_ := Lib.hid (HSV.out.below hb)
    have KR_ := Lib.hid (KR.out.keep hb)
    have HBX_ := Lib.hid (bOn6 HBX.out hb)
    clear HB HP HE HS HSV KR HBX
    have HB := HB_
    have HP := HP_
    have HE := HE_
    have HS := HS_
    have HSV := HSV_
    have KR := KR_
    have HBX := HBX_
    clear HB_ HP_ HE_ HS_ HSV_ KR_ HBX_
    clear hb
    obtain ⟨xv, x0, xb, x2, xl⟩ := HS.out.at HX.out
    obtain ⟨k0, k1, k2, k3, -⟩ := KR.out.o4
    have kl := KR.out.lt
    obtain ⟨X, hX⟩ : ∃ X, x.cross = X := ⟨_, rfl⟩
    have hbst := HBST.out
    rw [hX] at hbst x2
    have hwi : IntKind.i64.wrap ((i : Int) + 1) = (i : Int) + 1 := IntWalk.i64_in _ (by omega)
    clear x0 xb hX
    rcases hbst with h1 | ⟨h1, h2 | ⟨h2, h3⟩⟩
    · have a1 : ¬ X < C0 := by omega
      have a1b : C0 ≤ X := by omega
      have a2 : (X == C0) = false := by simp only [beq_eq_false_iff_ne]; omega
      have a3 : decide (X < C0) = false := by simpa using a1
      go_wp2_with fail
      go_quiet (fail)
      go_wp2_with fail
      go_roundw
      case rel => exact ⟨i + 1, HK.out.1, by go_num, below_drewN HBX.out _⟩
      case measure => simp [intOf]; omega
    · subst h1
      have a3 : ¬ U < V := by omega
      have a3b : V ≤ U := by omega
      have a4 : (U == V) = false := by simp only [beq_eq_false_iff_ne]; omega
      go_wp2_with fail
      go_quiet (fail)
      go_wp2_with fail
      go_roundw
      case rel => exact ⟨i + 1, HK.out.1, by go_num, below_drewN HBX.out _⟩
      case measure => simp [intOf]; omega
    · subst h1
      subst h2
      have a5 : ¬ i < P := by omega
      have a6 : ¬ (i : Int) < (P : Int) := by omega
      have a7 : (P : Int) ≤ (i : Int) := by omega
      go_wp2_with fail
      go_quiet (fail)
      go_wp2_with fail
      go_roundw
      case rel => exact ⟨i + 1, HK.out.1, by go_num, below_drewN HBX.out _⟩
      case measure => simp [intOf]; omega
end Go.Proofs.YthfljimgpcignaaDoor
