/-
  PROVED: of any number of points both ends have a quarter, rounded up, and nothing in common; a side that has an end and none of the other one is fair, so is half. For every number, all marks.
-/
import Derived.Test.YtleheaffipokfaaLnG
import Derived.Test.YtleheaffipokfaaLnIn
import Derived.Test.YtleheaffipokfaaLnS
namespace Go.Proofs.Ytleheaffipokfaa
open Go.ChangeShapes Go.WideShapes Go.ChangeAt Go.RowKit Go.Sort

theorem wfi16 {a : Int} (h : (Lit.int .i16 a).wf = true) : -32768 ≤ a ∧ a ≤ 32767 := by
  simpa [Lit.wf, IntKind.min, IntKind.max, IntKind.signed, IntKind.bits] using h
set_option maxHeartbeats 8000000 in
set_option maxRecDepth 100000 in
theorem shares_walk (n : Int) (tv : Value) (M0 : List Bool) (w : World) (n0 : 0 ≤ n) (n1 : n ≤ 255) (ht : Bools w tv M0) :
    Calls Try.prog 4 #[.int .u8 n, tv] w fun e w' => e = .returned (.bool true) ∧ Below w.heap.size w w' := by
  obtain ⟨bq0, bc0, rfl⟩ := ht.shape
  have HB := Lib.hid (Below.refl w.heap.size w)
  have HT := Lib.hid ht
  obtain ⟨N, hN⟩ : ∃ N : Nat, n = (N : Int) := ⟨n.toNat, by omega⟩
  subst hN
  have HN9 : Hid (N ≤ 255) := Lib.hid (by omega)
  have wn64 : IntKind.i64.wrap (N : Int) = N := IntWalk.i64_in _ (by omega)
  clear ht n0 n1
  go_enter Try.func4, Try.ntmps4
  go_wp2_with fail
  refine (known10_any _).mono ?_
  rintro e w1 ⟨rfl, hb⟩
  have HB_ := Lib.hid (bOn6 HB.out hb)
  have HT_ := Lib.hid (HT.out.below hb)
  clear HB HT
  have HB := HB_
  have HT := HT_
  clear HB_ HT_
  clear hb
  go_wp2_with fail
  go_loopw [5, 6] (fun v iv wr => DnRel w1 N v iv wr) (fun _ iv _ => N - (intOf iv).toNat)
  case atStart => exact ⟨0, Nat.zero_le _, rfl, World.ownsRow_nil _ _ _ _, Below.refl _ _⟩
  case round =>
    obtain ⟨k, hk, rfl, hm⟩ := hrel
    have HM := Lib.hid hm
    by_cases hlt : k < N
    · have hki : (k : Int) < (N : Int) := by omega
      have hn9 := HN9.out
      obtain ⟨J, hJ⟩ : ∃ J, N - 1 - k = J := ⟨_, rfl⟩
      have wj1 : IntKind.i64.wrap ((N : Int) - 1) = (N : Int) - 1 := IntWalk.i64_in _ (by omega)
      have wj2 : IntKind.i64.wrap ((N : Int) - 1 - (k : Int)) = (J : Int) := by
        rw [show (N : Int) - 1 - (k : Int) = (J : Int) from by omega]
        exact IntWalk.i64_in _ (by omega)
      have wk1 : IntKind.i64.wrap ((k : Int) + 1) = (k : Int) + 1 := IntWalk.i64_in _ (by omega)
      obtain ⟨y8, hy8⟩ := named (wr.alloc (.cells #[.int .i64 (J : Int)] 3))
      have hby : Below wr.heap.size wr y8 := by rw [hy8]; exact below_alloc1 _
      obtain ⟨gy, hgy⟩ : ∃ g, wr.heap.size = g := ⟨_, rfl⟩
      have ky : Blk y8 gy #[.int .i64 (J : Int)] 3 := by rw [hy8]; exact Blk.new _ _ _ _ hgy
      obtain ⟨q9, c9, w9, hr9, hm9⟩ := hm.app hJ hby ky (by omega)
      have HR9 := Lib.hid hr9
      have HM9 := Lib.hid hm9
      have e8 := hy8.symm
      clear hby ky hr9 hm9 hy8 hm hJ
      go_wp2_with (at_builtin; refine wpList_append_run (by rfl) _ _ _ rfl _ _ _ rfl rfl HR9.out ?_)
      clear e8 hgy
      go_roundw
      case rel => exact ⟨k + 1, hlt, by go_num, HM9.out⟩
      case measure => simp [intOf]; omega
    obtain rfl : k = N := by omega
    have hb := hm.b
    have HO := Lib.hid (ints_of_owns hm.r (by rw [zN_len, dn_len]; have := HN9.out; omega))
    obtain ⟨oq, oc, rfl⟩ := own_shape hm.r
    clear HM hm hlt hk
    have HB_ := Lib.hid (bOn6 HB.out hb)
    have HT_ := Lib.hid (HT.out.below hb)
    clear HB HT
    have HB := HB_
    have HT := HT_
    clear HB_ HT_
    clear hb
    have hol : (zN (dn k k)).length = k := by rw [zN_len, dn_len]
    have HOL := Lib.hid hol
    obtain ⟨E, hE⟩ : ∃ E, endN k = E := ⟨_, rfl⟩
    have HE := Lib.hid hE
    have HE2 : Hid (E ≤ k ∧ 2 * E ≤ k) := Lib.hid (by rw [← hE]; exact endN_le k)
    clear hol hE
    go_wp2_with fail
    refine (ends_is HO.out (by rw [HOL.out]; have := HN9.out; omega)).mono ?_
    rintro e w3 ⟨aq, ac, bq, bc, rfl, h1, h2, hb⟩
    rw [HOL.out, HE.out] at h1 h2 ⊢
    rw [zN_dn_take HE2.out.1] at h1
    rw [zN_dn_drop HE2.out.1] at h2
    have HA := Lib.hid h1
    have HC := Lib.hid h2
    clear h1 h2
    have HB_ := Lib.hid (bOn6 HB.out hb)
    have HT_ := Lib.hid (HT.out.below hb)
    have HO_ := Lib.hid (HO.out.below hb)
    clear HB HT HO
    have HB := HB_
    have HT := HT_
    have HO := HO_
    clear HB_ HT_ HO_
    clear hb
    obtain ⟨H, hH⟩ : ∃ H, (k + 1) / 2 = H := ⟨_, rfl⟩
    have HH := Lib.hid hH
    have HHk : Hid (H ≤ k) := Lib.hid (by have := HH.out; have := HN9.out; by_cases h : k = 0 <;> omega)
    clear hH
    go_wp2_with fail
    refine (half_is HO.out (by rw [HOL.out]; have := HN9.out; omega) (k := H) (by rw [HOL.out]; exact HH.out)).mono ?_
    rintro e w4 ⟨hq, hc, rfl, h1, hb⟩
    rw [zN_dn_take HHk.out] at h1
    have HHR := Lib.hid h1
    clear h1
    have HB_ := Lib.hid (bOn6 HB.out hb)
    have HT_ := Lib.hid (HT.out.below hb)
    have HO_ := Lib.hid (HO.out.below hb)
    have HA_ := Lib.hid (HA.out.below hb)
    have HC_ := Lib.hid (HC.out.below hb)
    clear HB HT HO HA HC
    have HB := HB_
    have HT := HT_
    have HO := HO_
    have HA := HA_
    have HC := HC_
    clear HB_ HT_ HO_ HA_ HC_
    clear hb
    have hn9 := HN9.out
    by_cases h2 : k < 2
    case pos =>
      have h2i : (k : Int) < 2 := by omega
      obtain rfl : E = 0 := by rw [← HE.out]; unfold endN; rw [if_pos h2]
      obtain rfl : H = k := by have := HH.out; omega
      have hmk := RI.make1 w4 33 4 (.bool false) 1 rfl Try.underlying33 infoBool H (by omega) (by decide)
      obtain ⟨x5, hx5⟩ := named (w4.alloc (.cells (List.replicate H (.bool false)).toArray 4))
      obtain ⟨g5, hg5⟩ : ∃ g, w4.heap.size = g := ⟨_, rfl⟩
      have b5 : Below w4.heap.size w4 x5 := by rw [hx5]; exact below_alloc1 _
      have k5 : Blk x5 g5 (bolB (List.replicate H false)) 4 := by rw [hx5, bolB_rep]; exact Blk.new _ _ _ _ hg5
      rw [← hx5, hg5] at hmk
      have HB5 := Lib.hid (bOn6 HB.out b5)
      have K5 : Hid (Bools x5 (.slice (some ⟨g5, 0, none⟩) H H) (List.replicate H false)) := Lib.hid (bools_of_blk k5 (by simp) (by omega))
      have HU := Lib.hid (unfair_small (S := List.replicate H false) h2 (by simp))
      clear b5 k5 hx5
      go_wp2_with fail
      refine (fair_is K5.out (by simp; omega) HU.out).mono ?_
      rintro e w6 ⟨rfl, rfl⟩
      clear hmk hg5
      go_wp2_with fail
      go_ret
      exact ⟨rfl, HB5.out⟩
    have h2i : decide ((k : Int) < 2) = false := decide_eq_false (by omega)
    have h2n : ¬ k < 2 := h2
    have wE : IntKind.i64.wrap (4 * (E : Int)) = 4 * (E : Int) := IntWalk.i64_in _ (by have := HE2.out; omega)
    have wK3 : IntKind.i64.wrap ((k : Int) + 3) = (k : Int) + 3 := IntWalk.i64_in _ (by omega)
    have wK1 : IntKind.i64.wrap ((k : Int) + 1) = (k : Int) + 1 := IntWalk.i64_in _ (by omega)
    have hEv : (k + 3) / 4 = E := by have := HE.out; unfold endN at this; rwa [if_neg h2] at this
    have g1 : decide (4 * (E : Int) < (k : Int)) = false := decide_eq_false (by omega)
    have g2 : decide ((k : Int) + 3 < 4 * (E : Int)) = false := decide_eq_false (by omega)
    have t1 : ((k : Int) + 1).tdiv 2 = (H : Int) := by
      rw [Int.tdiv_eq_ediv_of_nonneg (by omega)]
      have := HH.out
      omega
    have t2 : IntKind.i64.wrap (((k : Int) + 1).tdiv 2) = (H : Int) := by rw [t1]; exact IntWalk.i64_in _ (by have := HHk.out; omega)
    have t3 : ((k : Int) + 1) / 2 = (H : Int) := by have := HH.out; omega
    have t4 : IntKind.i64.wrap (H : Int) = (H : Int) := IntWalk.i64_in _ (by have := HHk.out; omega)
    obtain ⟨gs, hgs⟩ : ∃ g, w4.heap.size = g := ⟨_, rfl⟩
    obtain ⟨x5, hx5⟩ := named (w4.alloc (.cells (List.replicate k (.bool false)).toArray 4))
    obtain ⟨gh, hgh⟩ : ∃ g, x5.heap.size = g := ⟨_, rfl⟩
    obtain ⟨x6, hx6⟩ := named (x5.alloc (.cells (List.replicate k (.bool false)).toArray 4))
    have hmk1 := RI.make1 w4 33 4 (.bool false) 1 rfl Try.underlying33 infoBool k (by omega) (by decide)
    have hmk2 := RI.make1 x5 33 4 (.bool false) 1 rfl Try.underlying33 infoBool k (by omega) (by decide)
    rw [← hx5, hgs] at hmk1
    rw [← hx6, hgh] at hmk2
    have b5 : Below w4.heap.size w4 x5 := by rw [hx5]; exact below_alloc1 _
    have b6 : Below x5.heap.size x5 x6 := by rw [hx6]; exact below_alloc1 _
    have k5 : Blk x5 gs (bolB (List.replicate k false)) 4 := by rw [hx5, bolB_rep]; exact Blk.new _ _ _ _ hgs
    have k6 : Blk x6 gh (bolB (List.replicate k false)) 4 := by rw [hx6, bolB_rep]; exact Blk.new _ _ _ _ hgh
    have HT2 : Hid (TwoB x6 gs gh (List.replicate k false) (List.replicate k false) x6) := Lib.hid ⟨k5.keep b6, k6, by have := k5.lt; omega, Keep.refl _ _, by have := k5.lt; omega⟩
    have b46 := bOn6 b5 b6
    have HLB : Hid (Below w.heap.size w x6 ∧ w.heap.size ≤ gs) := Lib.hid ⟨bOn6 HB.out b46, by have := HB.out.size; omega⟩
    have av : ∀ {v : Value}, Av (fun b => b < w4.heap.size) v → Av (fun b => b < gs) v := fun h => h.mono fun b hb => by omega
    have RT : Hid (Bools x6 (.slice bq0 M0.length bc0) M0 ∧ Av (fun b => b < gs) (.slice bq0 M0.length bc0)) := Lib.hid ⟨HT.out.below b46, av HT.out.av⟩
    have RO : Hid (I64s x6 (.slice oq k oc) (zN (dn k k)) ∧ Av (fun b => b < gs) (.slice oq k oc)) := Lib.hid ⟨HO.out.below b46, av HO.out.av⟩
    have RA : Hid (I64s x6 (.slice aq E ac) (zN (dn k E)) ∧ Av (fun b => b < gs) (.slice aq E ac)) := Lib.hid ⟨HA.out.below b46, av HA.out.av⟩
    have RC : Hid (I64s x6 (.slice bq E bc) (zN (dn E E)) ∧ Av (fun b => b < gs) (.slice bq E bc)) := Lib.hid ⟨HC.out.below b46, av HC.out.av⟩
    have RH : Hid (I64s x6 (.slice hq H hc) (zN (dn k H)) ∧ Av (fun b => b < gs) (.slice hq H hc)) := Lib.hid ⟨HHR.out.below b46, av HHR.out.av⟩
    clear b5 b6 k5 k6 b46 av hx5 hx6 HT HO HA HC HHR HB h2 hEv
    go_wp2_with fail
    clear hmk1 hmk2 hgs hgh g1 g2 t1 t2 t3 t4 wE wK3 wK1 wn64
    go_loopw [12] (fun iv wr => Rel2 x6 gs gh k iv wr) (fun iv _ => k - (intOf iv).toNat)
    case atStart => exact ⟨0, _, Nat.zero_le _, rfl, by simp, HT2.out⟩
    case round =>
      clear HT2
      obtain ⟨j, S, hj, rfl, hsl, htw⟩ := hrel
      have HSL := Lib.hid hsl
      have HTW := Lib.hid htw
      have hn9' := HN9.out
      by_cases c1 : j < k
      case neg =>
        have hc1 : ¬ j < k := c1
        obtain rfl : j = k := by omega
        clear hsl htw hj c1
        obtain ⟨x7, rfl⟩ : ∃ x, x = wr := ⟨_, rfl⟩
        go_wp2_with fail
        go_loopw [13] (fun iv wr => Rel3 x6 gs gh j H S iv wr) (fun iv _ => H - (intOf iv).toNat)
        case atStart => exact ⟨0, _, Nat.zero_le _, rfl, HalfL.start j, HTW.out⟩
        case round =>
          clear HTW
          obtain ⟨p, L, hj, rfl, hhl, htw⟩ := hrel
          have HHL := Lib.hid hhl
          have HTW := Lib.hid htw
          by_cases c3 : p < H
          case pos =>
            have hji : (p : Int) < (H : Int) := by omega
            have hhk := HHk.out
            have hji2 : (p : Int) < (j : Int) := by omega
            have hjk : p < j := by omega
            obtain ⟨J, hJ⟩ : ∃ J, j - 1 - p = J := ⟨_, rfl⟩
            have hJk : J < j := by omega
            have hJi : (J : Int) < (j : Int) := by omega
            obtain ⟨b1, s1, h1, pc, pl⟩ := (RH.out.1.keep RH.out.2 htw.k).atZ (dn_at c3)
            obtain ⟨b2, s2, h2, qc, ql⟩ := (RO.out.1.keep RO.out.2 htw.k).atZ (dn_at hjk)
            rw [hJ] at pc qc
            subst h1 h2
            have PC := Lib.hid pc
            have QC := Lib.hid qc
            have HST := Lib.hid (hhl.step hjk)
            rw [hJ] at HST
            have wj1 : IntKind.i64.wrap ((p : Int) + 1) = (p : Int) + 1 := IntWalk.i64_in _ (by omega)
            have hhl9 := hhl.len
            have HHLEN := Lib.hid hhl9
            have DS0 : Hid (GG.BelL wr (fun _ => false) () wr.drew) := Lib.hid ⟨(Below.refl _ _).drew⟩
            clear pc pl qc ql hhl htw hhl9
            go_wp2_with fail
            refine' GG.wp_growL _ (GG.BelL wr) [[], [], [0, 1], [0, 1, 2], [], [], [4, 5], [4, 5, 6], [0, 1, 2, 3, 4, 5, 6, 7]] (GG.Fact.lit (Rl := GG.RlL) _ :: GG.Fact.lit (Rl := GG.RlL) _ :: GG.Fact.lit (Rl := GG.RlL) _ :: GG.Fact.lit (Rl := GG.RlL) _ :: GG.Fact.lit (Rl := GG.RlL) _ :: GG.Fact.lit (Rl := GG.RlL) _ :: GG.Fact.lit (Rl := GG.RlL) _ :: GG.Fact.lit (Rl := GG.RlL) _ :: GG.Fact.lit (Rl := GG.RlL) _ :: []) (by kernel_rfl) rfl (by kernel_rfl) (()) (DS0.out) ?seqsaa
            case' seqsaa => skip
            (refine' GG.grow_lit (GG.BelL.still) rfl ?wtsaa0 ?runsaa0 ?putsaa0 ?nextsaa0; (case wtsaa0 => rfl); (case runsaa0 => (intro w' hS; (obtain ⟨dn, s, hS⟩ := hS); (have pc := keep hS.b PC.out); (have pl := World.block_lt_of_cell? _ _ pc); (have qc := keep hS.b QC.out); (have ql := World.block_lt_of_cell? _ _ qc); clear hS; go_simp; first | done | exact rfl)); (case putsaa0 => (first | (simp only [Act.put, List.setIfInBounds_toArray, List.set_cons_zero, List.set_cons_succ]; first | done | exact rfl) | rfl)); (case' nextsaa0 => skip))
            (refine' GG.grow_lit (GG.BelL.still) rfl ?wtsaa1 ?runsaa1 ?putsaa1 ?nextsaa1; (case wtsaa1 => rfl); (case runsaa1 => (intro w' hS; (obtain ⟨dn, s, hS⟩ := hS); (have pc := keep hS.b PC.out); (have pl := World.block_lt_of_cell? _ _ pc); (have qc := keep hS.b QC.out); (have ql := World.block_lt_of_cell? _ _ qc); clear hS; go_simp; first | done | exact rfl)); (case putsaa1 => (first | (simp only [Act.put, List.setIfInBounds_toArray, List.set_cons_zero, List.set_cons_succ]; first | done | exact rfl) | rfl)); (case' nextsaa1 => skip))
            (refine' GG.grow_lit (GG.BelL.still) rfl ?wtsaa2 ?runsaa2 ?putsaa2 ?nextsaa2; (case wtsaa2 => rfl); (case runsaa2 => (intro w' hS; (obtain ⟨dn, s, hS⟩ := hS); (have pc := keep hS.b PC.out); (have pl := World.block_lt_of_cell? _ _ pc); (have qc := keep hS.b QC.out); (have ql := World.block_lt_of_cell? _ _ qc); clear hS; go_simp; first | done | exact rfl)); (case putsaa2 => (first | (simp only [Act.put, List.setIfInBounds_toArray, List.set_cons_zero, List.set_cons_succ]; first | done | exact rfl) | rfl)); (case' nextsaa2 => skip))
            (refine' GG.grow_lit (GG.BelL.still) rfl ?wtsaa3 ?runsaa3 ?putsaa3 ?nextsaa3; (case wtsaa3 => rfl); (case runsaa3 => (intro w' hS; (obtain ⟨dn, s, hS⟩ := hS); (have pc := keep hS.b PC.out); (have pl := World.block_lt_of_cell? _ _ pc); (have qc := keep hS.b QC.out); (have ql := World.block_lt_of_cell? _ _ qc); clear hS; go_simp; first | done | exact rfl)); (case putsaa3 => (first | (simp only [Act.put, List.setIfInBounds_toArray, List.set_cons_zero, List.set_cons_succ]; first | done | exact rfl) | rfl)); (case' nextsaa3 => skip))
            (refine' GG.grow_lit (GG.BelL.still) rfl ?wtsaa4 ?runsaa4 ?putsaa4 ?nextsaa4; (case wtsaa4 => rfl); (case runsaa4 => (intro w' hS; (obtain ⟨dn, s, hS⟩ := hS); (have pc := keep hS.b PC.out); (have pl := World.block_lt_of_cell? _ _ pc); (have qc := keep hS.b QC.out); (have ql := World.block_lt_of_cell? _ _ qc); clear hS; go_simp; first | done | exact rfl)); (case putsaa4 => (first | (simp only [Act.put, List.setIfInBounds_toArray, List.set_cons_zero, List.set_cons_succ]; first | done | exact rfl) | rfl)); (case' nextsaa4 => skip))
            (refine' GG.grow_lit (GG.BelL.still) rfl ?wtsaa5 ?runsaa5 ?putsaa5 ?nextsaa5; (case wtsaa5 => rfl); (case runsaa5 => (intro w' hS; (obtain ⟨dn, s, hS⟩ := hS); (have pc := keep hS.b PC.out); (have pl := World.block_lt_of_cell? _ _ pc); (have qc := keep hS.b QC.out); (have ql := World.block_lt_of_cell? _ _ qc); clear hS; go_simp; first | done | exact rfl)); (case putsaa5 => (first | (simp only [Act.put, List.setIfInBounds_toArray, List.set_cons_zero, List.set_cons_succ]; first | done | exact rfl) | rfl)); (case' nextsaa5 => skip))
            (refine' GG.grow_lit (GG.BelL.still) rfl ?wtsaa6 ?runsaa6 ?putsaa6 ?nextsaa6; (case wtsaa6 => rfl); (case runsaa6 => (intro w' hS; (obtain ⟨dn, s, hS⟩ := hS); (have pc := keep hS.b PC.out); (have pl := World.block_lt_of_cell? _ _ pc); (have qc := keep hS.b QC.out); (have ql := World.block_lt_of_cell? _ _ qc); clear hS; go_simp; first | done | exact rfl)); (case putsaa6 => (first | (simp only [Act.put, List.setIfInBounds_toArray, List.set_cons_zero, List.set_cons_succ]; first | done | exact rfl) | rfl)); (case' nextsaa6 => skip))
            (refine' GG.grow_lit (GG.BelL.still) rfl ?wtsaa7 ?runsaa7 ?putsaa7 ?nextsaa7; (case wtsaa7 => rfl); (case runsaa7 => (intro w' hS; (obtain ⟨dn, s, hS⟩ := hS); (have pc := keep hS.b PC.out); (have pl := World.block_lt_of_cell? _ _ pc); (have qc := keep hS.b QC.out); (have ql := World.block_lt_of_cell? _ _ qc); clear hS; go_simp; first | done | exact rfl)); (case putsaa7 => (first | (simp only [Act.put, List.setIfInBounds_toArray, List.set_cons_zero, List.set_cons_succ]; first | done | exact rfl) | rfl)); (case' nextsaa7 => skip))
            (refine' GG.grow_lit (GG.BelL.still) rfl ?wtsaa8 ?runsaa8 ?putsaa8 ?nextsaa8; (case wtsaa8 => rfl); (case runsaa8 => (intro w' hS; (obtain ⟨dn, s, hS⟩ := hS); (have pc := keep hS.b PC.out); (have pl := World.block_lt_of_cell? _ _ pc); (have qc := keep hS.b QC.out); (have ql := World.block_lt_of_cell? _ _ qc); clear hS; go_simp; first | done | exact rfl)); (case putsaa8 => (first | (simp only [Act.put, List.setIfInBounds_toArray, List.set_cons_zero, List.set_cons_succ]; first | done | exact rfl) | rfl)); (case' nextsaa8 => skip))
            intro dn s w8 hS _ _
            have pc := keep hS.b PC.out
            have pl := World.block_lt_of_cell? _ _ pc
            have ht8 := HTW.out.old hS.b
            obtain ⟨⟨u9, xc⟩, xf, xl⟩ := ht8.cellH (i := J) (by rw [HHLEN.out]; exact hJk)
            have HR := Lib.hid (ht8.setH J true)
            clear hS DS0 ht8 PC QC HTW HHL
            go_wp2_with fail
            go_roundw
            case rel => exact ⟨p + 1, L.set J true, c3, by go_num, HST.out, HR.out⟩
            case measure => simp [intOf]; omega
          obtain rfl : p = H := by omega
          have HFH := Lib.hid (hhl.fair (by omega) HH.out)
          have HLL := Lib.hid hhl.len
          clear HHL hhl htw c3 hj
          obtain ⟨x8, rfl⟩ : ∃ x, x = wr := ⟨_, rfl⟩
          go_wp2_with fail
          go_loopw [14] (fun iv wr => Rel4 x6 gs gh j E L iv wr) (fun iv _ => E - (intOf iv).toNat)
          case atStart => exact ⟨0, S, Nat.zero_le _, rfl, SideL.start HSL.out, HTW.out⟩
          case round =>
            clear HTW
            obtain ⟨i, S2, hi, rfl, hsd, htw⟩ := hrel
            have HTW := Lib.hid htw
            by_cases c4 : i < E
            case neg =>
              obtain rfl : i = E := by omega
              have HFS := Lib.hid (hsd.fair (by omega) HE.out)
              have K1 : Hid (Bools wr (.slice (some ⟨gs, 0, none⟩) j j) S2) := Lib.hid (bools_of_blk htw.s hsd.len (by omega))
              have K2 : Hid (Bools wr (.slice (some ⟨gh, 0, none⟩) j j) L) := Lib.hid (bools_of_blk htw.h HLL.out (by omega))
              have HLS := Lib.hid hsd.len
              have HBE : Hid (Below w.heap.size w wr) := Lib.hid (HLB.out.1.trans (htw.k.below (B := w.heap.size) (fun b hb => by have := HLB.out.2; omega) HLB.out.1.size))
              clear htw hsd c4 hi HTW
              go_wp2_with fail
              refine (fair_is K1.out (by rw [HLS.out]; omega) HFS.out).mono ?_
              rintro e w9 ⟨rfl, rfl⟩
              go_wp2_with fail
              refine (fair_is K2.out (by rw [HLL.out]; omega) HFH.out).mono ?_
              rintro e w9 ⟨rfl, rfl⟩
              go_wp2_with fail
              go_ret
              exact ⟨rfl, HBE.out⟩
            have hii : (i : Int) < (E : Int) := by omega
            have hee := HE2.out
            have hii2 : (i : Int) < (j : Int) := by omega
            have hik : i < j := by omega
            obtain ⟨J, hJ⟩ : ∃ J, j - 1 - i = J := ⟨_, rfl⟩
            obtain ⟨I, hI⟩ : ∃ I, E - 1 - i = I := ⟨_, rfl⟩
            obtain ⟨Q, hQ⟩ : ∃ Q, j - E + i = Q := ⟨_, rfl⟩
            have hJk : J < j := by omega
            have hIk : I < j := by omega
            have hQk : Q < j := by omega
            have hJi : (J : Int) < (j : Int) := by omega
            have hIi : (I : Int) < (j : Int) := by omega
            have hQi : (Q : Int) < (j : Int) := by omega
            have wq1 : IntKind.i64.wrap ((j : Int) - (E : Int)) = (j : Int) - (E : Int) := IntWalk.i64_in _ (by omega)
            have wq2 : IntKind.i64.wrap ((j : Int) - (E : Int) + (i : Int)) = (Q : Int) := by
              rw [show (j : Int) - (E : Int) + (i : Int) = (Q : Int) from by omega]
              exact IntWalk.i64_in _ (by omega)
            have wi1 : IntKind.i64.wrap ((i : Int) + 1) = (i : Int) + 1 := IntWalk.i64_in _ (by omega)
            obtain ⟨P, hP⟩ : ∃ P, placeL (zN (dn E E)) ((j - 1 - i : Nat) : Int) = P := ⟨_, rfl⟩
            have hPn := ends_apart (N := j) hee.2 c4
            rw [hP] at hPn
            rw [hJ] at hP
            have HPL := Lib.hid hP
            have HPN : Hid (decide (0 ≤ P) = false) := Lib.hid (decide_eq_false (by omega))
            have HCR := Lib.hid (RC.out.1.keep RC.out.2 htw.k)
            obtain ⟨b1, s1, h1, pc, pl⟩ := (RA.out.1.keep RA.out.2 htw.k).atZ (dn_at c4)
            obtain ⟨b2, s2, h2, qc, ql⟩ := HCR.out.atZ (dn_at c4)
            obtain ⟨b3, s3, h3, oc1, ol⟩ := (RO.out.1.keep RO.out.2 htw.k).atZ (dn_at hik)
            obtain ⟨b4, s4, h4, oc2, -⟩ := (RO.out.1.keep RO.out.2 htw.k).atZ (dn_at hQk)
            subst h1 h2 h3
            injection h4 with h4
            injection h4 with h4 h5
            subst h4 h5
            rw [hJ] at pc oc1
            rw [hI] at qc
            rw [show j - 1 - Q = I from by omega] at oc2
            have PC := Lib.hid pc
            have QC := Lib.hid qc
            have OC1 := Lib.hid oc1
            have OC2 := Lib.hid oc2
            have HST := Lib.hid (hsd.step c4 hee.2)
            rw [hJ, hI] at HST
            have HSE := Lib.hid hsd.len
            have hbg := (RC.out.2 _ _ _ _ _ rfl (by omega) : b2 < gs)
            have HBG := Lib.hid hbg
            have DS0 : Hid (GG.BelL wr (fun _ => false) () wr.drew) := Lib.hid ⟨(Below.refl _ _).drew⟩
            clear pc pl qc ql oc1 oc2 ol hP hPn hsd htw hbg
            go_wp2_with fail
            refine' GG.wp_growL _ (GG.BelL wr) [[], [], [], [1, 2], [1, 2, 3], [0, 1, 2, 3, 4], [0, 1, 2, 3, 4, 5], [0, 1, 2, 3, 4, 5, 6], [0, 1, 2, 3, 4, 5, 6, 7], [0, 1, 2, 3, 4, 5, 6, 7], [0, 1, 2, 3, 4, 5, 6, 7, 8, 9], [0, 1, 2, 3, 4, 5, 6, 7, 8, 9, 10], [0, 1, 2, 3, 4, 5, 6, 7], [0, 1, 2, 3, 4, 5, 6, 7], [0, 1, 2, 3, 4, 5, 6, 7, 12, 13], [0, 1, 2, 3, 4, 5, 6, 7, 12, 13, 14], [0, 1, 2, 3, 4, 5, 6, 7, 8, 9, 10, 11, 12, 13, 14, 15], [0, 1, 2, 3, 4, 5, 6, 7, 8, 9, 10, 11, 12, 13, 14, 15, 16], [0, 1, 2, 3, 4, 5, 6, 7, 8, 9, 10, 11, 12, 13, 14, 15, 16, 17], [0, 1, 2, 3, 4, 5, 6, 7, 8, 9, 10, 11, 12, 13, 14, 15, 16, 17, 18], [0, 1, 2, 3, 4, 5, 6, 7, 8, 9, 10, 11, 12, 13, 14, 15, 16, 17, 18], [0, 1, 2, 3, 4, 5, 6, 7, 8, 9, 10, 11, 12, 13, 14, 15, 16, 17, 18, 19, 20], [0, 1, 2, 3, 4, 5, 6, 7, 8, 9, 10, 11, 12, 13, 14, 15, 16, 17, 18, 19, 20, 21], [0, 1, 2, 3, 4, 5, 6, 7, 8, 9, 10, 11, 12, 13, 14, 15, 16, 17, 18], [0, 1, 2, 3, 4, 5, 6, 7, 8, 9, 10, 11, 12, 13, 14, 15, 16, 17, 18], [0, 1, 2, 3, 4, 5, 6, 7, 8, 9, 10, 11, 12, 13, 14, 15, 16, 17, 18, 24], [0, 1, 2, 3, 4, 5, 6, 7, 8, 9, 10, 11, 12, 13, 14, 15, 16, 17, 18], [0, 1, 2, 3, 4, 5, 6, 7, 8, 9, 10, 11, 12, 13, 14, 15, 16, 17, 18, 26], [0, 1, 2, 3, 4, 5, 6, 7, 8, 9, 10, 11, 12, 13, 14, 15, 16, 17, 18, 24, 25, 26, 27], [0, 1, 2, 3, 4, 5, 6, 7, 8, 9, 10, 11, 12, 13, 14, 15, 16, 17, 18], [0, 1, 2, 3, 4, 5, 6, 7, 8, 9, 10, 11, 12, 13, 14, 15, 16, 17, 18, 24, 25, 26, 27, 28, 29], [0, 1, 2, 3, 4, 5, 6, 7, 8, 9, 10, 11, 12, 13, 14, 15, 16, 17, 18, 23, 24, 25, 26, 27, 28, 29, 30], [0, 1, 2, 3, 4, 5, 6, 7, 8, 9, 10, 11, 12, 13, 14, 15, 16, 17, 18, 23, 24, 25, 26, 27, 28, 29, 30, 31], [0, 1, 2, 3, 4, 5, 6, 7, 8, 9, 10, 11, 12, 13, 14, 15, 16, 17, 18, 19, 20, 21, 22, 23, 24, 25, 26, 27, 28, 29, 30, 31, 32], [0, 1, 2, 3, 4, 5, 6, 7, 8, 9, 10, 11, 12, 13, 14, 15, 16, 17, 18, 19, 20, 21, 22, 23, 24, 25, 26, 27, 28, 29, 30, 31, 32, 33]] (GG.Fact.lit (Rl := GG.RlL) _ :: GG.Fact.lit (Rl := GG.RlL) _ :: GG.Fact.lit (Rl := GG.RlL) _ :: GG.Fact.lit (Rl := GG.RlL) _ :: GG.Fact.lit (Rl := GG.RlL) _ :: GG.Fact.lit (Rl := GG.RlL) _ :: GG.Fact.lit (Rl := GG.RlL) _ :: GG.Fact.lit (Rl := GG.RlL) _ :: GG.Fact.lit (Rl := GG.RlL) _ :: GG.Fact.lit (Rl := GG.RlL) _ :: GG.Fact.lit (Rl := GG.RlL) _ :: GG.Fact.lit (Rl := GG.RlL) _ :: GG.Fact.lit (Rl := GG.RlL) _ :: GG.Fact.lit (Rl := GG.RlL) _ :: GG.Fact.lit (Rl := GG.RlL) _ :: GG.Fact.lit (Rl := GG.RlL) _ :: GG.Fact.lit (Rl := GG.RlL) _ :: GG.Fact.lit (Rl := GG.RlL) _ :: GG.Fact.lit (Rl := GG.RlL) _ :: GG.Fact.lit (Rl := GG.RlL) _ :: GG.Fact.lit (Rl := GG.RlL) _ :: GG.Fact.lit (Rl := GG.RlL) _ :: GG.Fact.lit (Rl := GG.RlL) _ :: GG.Fact.lit (Rl := GG.RlL) _ :: GG.Fact.lit (Rl := GG.RlL) _ :: GG.Fact.lit (Rl := GG.RlL) _ :: GG.Fact.lit (Rl := GG.RlL) _ :: GG.Fact.lit (Rl := GG.RlL) _ :: GG.Fact.lit (Rl := GG.RlL) _ :: GG.Fact.lit (Rl := GG.RlL) _ :: GG.Fact.lit (Rl := GG.RlL) _ :: GG.Fact.lit (Rl := GG.RlL) _ :: GG.Fact.lit (Rl := GG.RlL) _ :: GG.Fact.lit (Rl := GG.RlL) _ :: GG.Fact.lit (Rl := GG.RlL) _ :: []) (by kernel_rfl) rfl (by kernel_rfl) (()) (DS0.out) ?seqsab
            case' seqsab => skip
            (refine' GG.grow_lit (GG.BelL.still) rfl ?wtsab0 ?runsab0 ?putsab0 ?nextsab0; (case wtsab0 => rfl); (case runsab0 => (intro w' hS; (obtain ⟨dn, s, hS⟩ := hS); (have pc := keep hS.b PC.out); (have pl := World.block_lt_of_cell? _ _ pc); (have qc := keep hS.b QC.out); (have ql := World.block_lt_of_cell? _ _ qc); (have oc1 := keep hS.b OC1.out); (have ol := World.block_lt_of_cell? _ _ oc1); (have oc2 := keep hS.b OC2.out); (have hpn := HPN.out); clear hS; go_simp; first | done | exact rfl)); (case putsab0 => (first | (simp only [Act.put, List.setIfInBounds_toArray, List.set_cons_zero, List.set_cons_succ]; first | done | exact rfl) | rfl)); (case' nextsab0 => skip))
            (refine' GG.grow_lit (GG.BelL.still) rfl ?wtsab1 ?runsab1 ?putsab1 ?nextsab1; (case wtsab1 => rfl); (case runsab1 => (intro w' hS; (obtain ⟨dn, s, hS⟩ := hS); (have pc := keep hS.b PC.out); (have pl := World.block_lt_of_cell? _ _ pc); (have qc := keep hS.b QC.out); (have ql := World.block_lt_of_cell? _ _ qc); (have oc1 := keep hS.b OC1.out); (have ol := World.block_lt_of_cell? _ _ oc1); (have oc2 := keep hS.b OC2.out); (have hpn := HPN.out); clear hS; go_simp; first | done | exact rfl)); (case putsab1 => (first | (simp only [Act.put, List.setIfInBounds_toArray, List.set_cons_zero, List.set_cons_succ]; first | done | exact rfl) | rfl)); (case' nextsab1 => skip))
            (refine' GG.grow_lit (GG.BelL.still) rfl ?wtsab2 ?runsab2 ?putsab2 ?nextsab2; (case wtsab2 => rfl); (case runsab2 => (intro w' hS; (obtain ⟨dn, s, hS⟩ := hS); (have pc := keep hS.b PC.out); (have pl := World.block_lt_of_cell? _ _ pc); (have qc := keep hS.b QC.out); (have ql := World.block_lt_of_cell? _ _ qc); (have oc1 := keep hS.b OC1.out); (have ol := World.block_lt_of_cell? _ _ oc1); (have oc2 := keep hS.b OC2.out); (have hpn := HPN.out); clear hS; go_simp; first | done | exact rfl)); (case putsab2 => (first | (simp only [Act.put, List.setIfInBounds_toArray, List.set_cons_zero, List.set_cons_succ]; first | done | exact rfl) | rfl)); (case' nextsab2 => skip))
            (refine' GG.grow_lit (GG.BelL.still) rfl ?wtsab3 ?runsab3 ?putsab3 ?nextsab3; (case wtsab3 => rfl); (case runsab3 => (intro w' hS; (obtain ⟨dn, s, hS⟩ := hS); (have pc := keep hS.b PC.out); (have pl := World.block_lt_of_cell? _ _ pc); (have qc := keep hS.b QC.out); (have ql := World.block_lt_of_cell? _ _ qc); (have oc1 := keep hS.b OC1.out); (have ol := World.block_lt_of_cell? _ _ oc1); (have oc2 := keep hS.b OC2.out); (have hpn := HPN.out); clear hS; go_simp; first | done | exact rfl)); (case putsab3 => (first | (simp only [Act.put, List.setIfInBounds_toArray, List.set_cons_zero, List.set_cons_succ]; first | done | exact rfl) | rfl)); (case' nextsab3 => skip))
            (refine' GG.grow_lit (GG.BelL.still) rfl ?wtsab4 ?runsab4 ?putsab4 ?nextsab4; (case wtsab4 => rfl); (case runsab4 => (intro w' hS; (obtain ⟨dn, s, hS⟩ := hS); (have pc := keep hS.b PC.out); (have pl := World.block_lt_of_cell? _ _ pc); (have qc := keep hS.b QC.out); (have ql := World.block_lt_of_cell? _ _ qc); (have oc1 := keep hS.b OC1.out); (have ol := World.block_lt_of_cell? _ _ oc1); (have oc2 := keep hS.b OC2.out); (have hpn := HPN.out); clear hS; go_simp; first | done | exact rfl)); (case putsab4 => (first | (simp only [Act.put, List.setIfInBounds_toArray, List.set_cons_zero, List.set_cons_succ]; first | done | exact rfl) | rfl)); (case' nextsab4 => skip))
            (refine' GG.grow_lit_call (u := .int .i64 P) rfl Try.func9 (by kernel_rfl) rfl rfl ?wtsab5 ?runsab5 ?putsab5 ?nextsab5; (case wtsab5 => rfl); (case runsab5 => (intro dn s w' hS hd H; exact (rplace_any _ _ _ _ (HCR.out.below hS.b)).mono (fun e w2 h => by rw [HPL.out] at h; exact ⟨(), h.1, h.2 ▸ ⟨hS.b⟩, h.2 ▸ Below.refl _ _, h.2 ▸ Nat.le_refl _⟩))); (case putsab5 => (first | (simp only [Act.put, List.setIfInBounds_toArray, List.set_cons_zero, List.set_cons_succ]; first | done | exact rfl) | rfl)); (case' nextsab5 => skip))
            (refine' GG.grow_lit (GG.BelL.still) rfl ?wtsab6 ?runsab6 ?putsab6 ?nextsab6; (case wtsab6 => rfl); (case runsab6 => (intro w' hS; (obtain ⟨dn, s, hS⟩ := hS); (have pc := keep hS.b PC.out); (have pl := World.block_lt_of_cell? _ _ pc); (have qc := keep hS.b QC.out); (have ql := World.block_lt_of_cell? _ _ qc); (have oc1 := keep hS.b OC1.out); (have ol := World.block_lt_of_cell? _ _ oc1); (have oc2 := keep hS.b OC2.out); (have hpn := HPN.out); clear hS; go_simp; first | done | exact rfl)); (case putsab6 => (first | (simp only [Act.put, List.setIfInBounds_toArray, List.set_cons_zero, List.set_cons_succ]; first | done | exact rfl) | rfl)); (case' nextsab6 => skip))
            (refine' GG.grow_lit (GG.BelL.still) rfl ?wtsab7 ?runsab7 ?putsab7 ?nextsab7; (case wtsab7 => rfl); (case runsab7 => (intro w' hS; (obtain ⟨dn, s, hS⟩ := hS); (have pc := keep hS.b PC.out); (have pl := World.block_lt_of_cell? _ _ pc); (have qc := keep hS.b QC.out); (have ql := World.block_lt_of_cell? _ _ qc); (have oc1 := keep hS.b OC1.out); (have ol := World.block_lt_of_cell? _ _ oc1); (have oc2 := keep hS.b OC2.out); (have hpn := HPN.out); clear hS; go_simp; first | done | exact rfl)); (case putsab7 => (first | (simp only [Act.put, List.setIfInBounds_toArray, List.set_cons_zero, List.set_cons_succ]; first | done | exact rfl) | rfl)); (case' nextsab7 => skip))
            (refine' GG.grow_lit (GG.BelL.still) rfl ?wtsab8 ?runsab8 ?putsab8 ?nextsab8; (case wtsab8 => rfl); (case runsab8 => (intro w' hS; (obtain ⟨dn, s, hS⟩ := hS); (have pc := keep hS.b PC.out); (have pl := World.block_lt_of_cell? _ _ pc); (have qc := keep hS.b QC.out); (have ql := World.block_lt_of_cell? _ _ qc); (have oc1 := keep hS.b OC1.out); (have ol := World.block_lt_of_cell? _ _ oc1); (have oc2 := keep hS.b OC2.out); (have hpn := HPN.out); clear hS; go_simp; first | done | exact rfl)); (case putsab8 => (first | (simp only [Act.put, List.setIfInBounds_toArray, List.set_cons_zero, List.set_cons_succ]; first | done | exact rfl) | rfl)); (case' nextsab8 => skip))
            (refine' GG.grow_lit (GG.BelL.still) rfl ?wtsab9 ?runsab9 ?putsab9 ?nextsab9; (case wtsab9 => rfl); (case runsab9 => (intro w' hS; (obtain ⟨dn, s, hS⟩ := hS); (have pc := keep hS.b PC.out); (have pl := World.block_lt_of_cell? _ _ pc); (have qc := keep hS.b QC.out); (have ql := World.block_lt_of_cell? _ _ qc); (have oc1 := keep hS.b OC1.out); (have ol := World.block_lt_of_cell? _ _ oc1); (have oc2 := keep hS.b OC2.out); (have hpn := HPN.out); clear hS; go_simp; first | done | exact rfl)); (case putsab9 => (first | (simp only [Act.put, List.setIfInBounds_toArray, List.set_cons_zero, List.set_cons_succ]; first | done | exact rfl) | rfl)); (case' nextsab9 => skip))
            (refine' GG.grow_lit (GG.BelL.still) rfl ?wtsab10 ?runsab10 ?putsab10 ?nextsab10; (case wtsab10 => rfl); (case runsab10 => (intro w' hS; (obtain ⟨dn, s, hS⟩ := hS); (have pc := keep hS.b PC.out); (have pl := World.block_lt_of_cell? _ _ pc); (have qc := keep hS.b QC.out); (have ql := World.block_lt_of_cell? _ _ qc); (have oc1 := keep hS.b OC1.out); (have ol := World.block_lt_of_cell? _ _ oc1); (have oc2 := keep hS.b OC2.out); (have hpn := HPN.out); clear hS; go_simp; first | done | exact rfl)); (case putsab10 => (first | (simp only [Act.put, List.setIfInBounds_toArray, List.set_cons_zero, List.set_cons_succ]; first | done | exact rfl) | rfl)); (case' nextsab10 => skip))
            (refine' GG.grow_lit (GG.BelL.still) rfl ?wtsab11 ?runsab11 ?putsab11 ?nextsab11; (case wtsab11 => rfl); (case runsab11 => (intro w' hS; (obtain ⟨dn, s, hS⟩ := hS); (have pc := keep hS.b PC.out); (have pl := World.block_lt_of_cell? _ _ pc); (have qc := keep hS.b QC.out); (have ql := World.block_lt_of_cell? _ _ qc); (have oc1 := keep hS.b OC1.out); (have ol := World.block_lt_of_cell? _ _ oc1); (have oc2 := keep hS.b OC2.out); (have hpn := HPN.out); clear hS; go_simp; first | done | exact rfl)); (case putsab11 => (first | (simp only [Act.put, List.setIfInBounds_toArray, List.set_cons_zero, List.set_cons_succ]; first | done | exact rfl) | rfl)); (case' nextsab11 => skip))
            (refine' GG.grow_lit (GG.BelL.still) rfl ?wtsab12 ?runsab12 ?putsab12 ?nextsab12; (case wtsab12 => rfl); (case runsab12 => (intro w' hS; (obtain ⟨dn, s, hS⟩ := hS); (have pc := keep hS.b PC.out); (have pl := World.block_lt_of_cell? _ _ pc); (have qc := keep hS.b QC.out); (have ql := World.block_lt_of_cell? _ _ qc); (have oc1 := keep hS.b OC1.out); (have ol := World.block_lt_of_cell? _ _ oc1); (have oc2 := keep hS.b OC2.out); (have hpn := HPN.out); clear hS; go_simp; first | done | exact rfl)); (case putsab12 => (first | (simp only [Act.put, List.setIfInBounds_toArray, List.set_cons_zero, List.set_cons_succ]; first | done | exact rfl) | rfl)); (case' nextsab12 => skip))
            (refine' GG.grow_lit (GG.BelL.still) rfl ?wtsab13 ?runsab13 ?putsab13 ?nextsab13; (case wtsab13 => rfl); (case runsab13 => (intro w' hS; (obtain ⟨dn, s, hS⟩ := hS); (have pc := keep hS.b PC.out); (have pl := World.block_lt_of_cell? _ _ pc); (have qc := keep hS.b QC.out); (have ql := World.block_lt_of_cell? _ _ qc); (have oc1 := keep hS.b OC1.out); (have ol := World.block_lt_of_cell? _ _ oc1); (have oc2 := keep hS.b OC2.out); (have hpn := HPN.out); clear hS; go_simp; first | done | exact rfl)); (case putsab13 => (first | (simp only [Act.put, List.setIfInBounds_toArray, List.set_cons_zero, List.set_cons_succ]; first | done | exact rfl) | rfl)); (case' nextsab13 => skip))
            (refine' GG.grow_lit (GG.BelL.still) rfl ?wtsab14 ?runsab14 ?putsab14 ?nextsab14; (case wtsab14 => rfl); (case runsab14 => (intro w' hS; (obtain ⟨dn, s, hS⟩ := hS); (have pc := keep hS.b PC.out); (have pl := World.block_lt_of_cell? _ _ pc); (have qc := keep hS.b QC.out); (have ql := World.block_lt_of_cell? _ _ qc); (have oc1 := keep hS.b OC1.out); (have ol := World.block_lt_of_cell? _ _ oc1); (have oc2 := keep hS.b OC2.out); (have hpn := HPN.out); clear hS; go_simp; first | done | exact rfl)); (case putsab14 => (first | (simp only [Act.put, List.setIfInBounds_toArray, List.set_cons_zero, List.set_cons_succ]; first | done | exact rfl) | rfl)); (case' nextsab14 => skip))
            (refine' GG.grow_lit (GG.BelL.still) rfl ?wtsab15 ?runsab15 ?putsab15 ?nextsab15; (case wtsab15 => rfl); (case runsab15 => (intro w' hS; (obtain ⟨dn, s, hS⟩ := hS); (have pc := keep hS.b PC.out); (have pl := World.block_lt_of_cell? _ _ pc); (have qc := keep hS.b QC.out); (have ql := World.block_lt_of_cell? _ _ qc); (have oc1 := keep hS.b OC1.out); (have ol := World.block_lt_of_cell? _ _ oc1); (have oc2 := keep hS.b OC2.out); (have hpn := HPN.out); clear hS; go_simp; first | done | exact rfl)); (case putsab15 => (first | (simp only [Act.put, List.setIfInBounds_toArray, List.set_cons_zero, List.set_cons_succ]; first | done | exact rfl) | rfl)); (case' nextsab15 => skip))
            (refine' GG.grow_lit (GG.BelL.still) rfl ?wtsab16 ?runsab16 ?putsab16 ?nextsab16; (case wtsab16 => rfl); (case runsab16 => (intro w' hS; (obtain ⟨dn, s, hS⟩ := hS); (have pc := keep hS.b PC.out); (have pl := World.block_lt_of_cell? _ _ pc); (have qc := keep hS.b QC.out); (have ql := World.block_lt_of_cell? _ _ qc); (have oc1 := keep hS.b OC1.out); (have ol := World.block_lt_of_cell? _ _ oc1); (have oc2 := keep hS.b OC2.out); (have hpn := HPN.out); clear hS; go_simp; first | done | exact rfl)); (case putsab16 => (first | (simp only [Act.put, List.setIfInBounds_toArray, List.set_cons_zero, List.set_cons_succ]; first | done | exact rfl) | rfl)); (case' nextsab16 => skip))
            (refine' GG.grow_lit (GG.BelL.still) rfl ?wtsab17 ?runsab17 ?putsab17 ?nextsab17; (case wtsab17 => rfl); (case runsab17 => (intro w' hS; (obtain ⟨dn, s, hS⟩ := hS); (have pc := keep hS.b PC.out); (have pl := World.block_lt_of_cell? _ _ pc); (have qc := keep hS.b QC.out); (have ql := World.block_lt_of_cell? _ _ qc); (have oc1 := keep hS.b OC1.out); (have ol := World.block_lt_of_cell? _ _ oc1); (have oc2 := keep hS.b OC2.out); (have hpn := HPN.out); clear hS; go_simp; first | done | exact rfl)); (case putsab17 => (first | (simp only [Act.put, List.setIfInBounds_toArray, List.set_cons_zero, List.set_cons_succ]; first | done | exact rfl) | rfl)); (case' nextsab17 => skip))
            (refine' GG.grow_lit (GG.BelL.still) rfl ?wtsab18 ?runsab18 ?putsab18 ?nextsab18; (case wtsab18 => rfl); (case runsab18 => (intro w' hS; (obtain ⟨dn, s, hS⟩ := hS); (have pc := keep hS.b PC.out); (have pl := World.block_lt_of_cell? _ _ pc); (have qc := keep hS.b QC.out); (have ql := World.block_lt_of_cell? _ _ qc); (have oc1 := keep hS.b OC1.out); (have ol := World.block_lt_of_cell? _ _ oc1); (have oc2 := keep hS.b OC2.out); (have hpn := HPN.out); clear hS; go_simp; first | done | exact rfl)); (case putsab18 => (first | (simp only [Act.put, List.setIfInBounds_toArray, List.set_cons_zero, List.set_cons_succ]; first | done | exact rfl) | rfl)); (case' nextsab18 => skip))
            (refine' GG.grow_lit (GG.BelL.still) rfl ?wtsab19 ?runsab19 ?putsab19 ?nextsab19; (case wtsab19 => rfl); (case runsab19 => (intro w' hS; (obtain ⟨dn, s, hS⟩ := hS); (have pc := keep hS.b PC.out); (have pl := World.block_lt_of_cell? _ _ pc); (have qc := keep hS.b QC.out); (have ql := World.block_lt_of_cell? _ _ qc); (have oc1 := keep hS.b OC1.out); (have ol := World.block_lt_of_cell? _ _ oc1); (have oc2 := keep hS.b OC2.out); (have hpn := HPN.out); clear hS; go_simp; first | done | exact rfl)); (case putsab19 => (first | (simp only [Act.put, List.setIfInBounds_toArray, List.set_cons_zero, List.set_cons_succ]; first | done | exact rfl) | rfl)); (case' nextsab19 => skip))
            (refine' GG.grow_lit (GG.BelL.still) rfl ?wtsab20 ?runsab20 ?putsab20 ?nextsab20; (case wtsab20 => rfl); (case runsab20 => (intro w' hS; (obtain ⟨dn, s, hS⟩ := hS); (have pc := keep hS.b PC.out); (have pl := World.block_lt_of_cell? _ _ pc); (have qc := keep hS.b QC.out); (have ql := World.block_lt_of_cell? _ _ qc); (have oc1 := keep hS.b OC1.out); (have ol := World.block_lt_of_cell? _ _ oc1); (have oc2 := keep hS.b OC2.out); (have hpn := HPN.out); clear hS; go_simp; first | done | exact rfl)); (case putsab20 => (first | (simp only [Act.put, List.setIfInBounds_toArray, List.set_cons_zero, List.set_cons_succ]; first | done | exact rfl) | rfl)); (case' nextsab20 => skip))
            (refine' GG.grow_lit (GG.BelL.still) rfl ?wtsab21 ?runsab21 ?putsab21 ?nextsab21; (case wtsab21 => rfl); (case runsab21 => (intro w' hS; (obtain ⟨dn, s, hS⟩ := hS); (have pc := keep hS.b PC.out); (have pl := World.block_lt_of_cell? _ _ pc); (have qc := keep hS.b QC.out); (have ql := World.block_lt_of_cell? _ _ qc); (have oc1 := keep hS.b OC1.out); (have ol := World.block_lt_of_cell? _ _ oc1); (have oc2 := keep hS.b OC2.out); (have hpn := HPN.out); clear hS; go_simp; first | done | exact rfl)); (case putsab21 => (first | (simp only [Act.put, List.setIfInBounds_toArray, List.set_cons_zero, List.set_cons_succ]; first | done | exact rfl) | rfl)); (case' nextsab21 => skip))
            (refine' GG.grow_lit (GG.BelL.still) rfl ?wtsab22 ?runsab22 ?putsab22 ?nextsab22; (case wtsab22 => rfl); (case runsab22 => (intro w' hS; (obtain ⟨dn, s, hS⟩ := hS); (have pc := keep hS.b PC.out); (have pl := World.block_lt_of_cell? _ _ pc); (have qc := keep hS.b QC.out); (have ql := World.block_lt_of_cell? _ _ qc); (have oc1 := keep hS.b OC1.out); (have ol := World.block_lt_of_cell? _ _ oc1); (have oc2 := keep hS.b OC2.out); (have hpn := HPN.out); clear hS; go_simp; first | done | exact rfl)); (case putsab22 => (first | (simp only [Act.put, List.setIfInBounds_toArray, List.set_cons_zero, List.set_cons_succ]; first | done | exact rfl) | rfl)); (case' nextsab22 => skip))
            (refine' GG.grow_lit (GG.BelL.still) rfl ?wtsab23 ?runsab23 ?putsab23 ?nextsab23; (case wtsab23 => rfl); (case runsab23 => (intro w' hS; (obtain ⟨dn, s, hS⟩ := hS); (have pc := keep hS.b PC.out); (have pl := World.block_lt_of_cell? _ _ pc); (have qc := keep hS.b QC.out); (have ql := World.block_lt_of_cell? _ _ qc); (have oc1 := keep hS.b OC1.out); (have ol := World.block_lt_of_cell? _ _ oc1); (have oc2 := keep hS.b OC2.out); (have hpn := HPN.out); clear hS; go_simp; first | done | exact rfl)); (case putsab23 => (first | (simp only [Act.put, List.setIfInBounds_toArray, List.set_cons_zero, List.set_cons_succ]; first | done | exact rfl) | rfl)); (case' nextsab23 => skip))
            (refine' GG.grow_lit (GG.BelL.still) rfl ?wtsab24 ?runsab24 ?putsab24 ?nextsab24; (case wtsab24 => rfl); (case runsab24 => (intro w' hS; (obtain ⟨dn, s, hS⟩ := hS); (have pc := keep hS.b PC.out); (have pl := World.block_lt_of_cell? _ _ pc); (have qc := keep hS.b QC.out); (have ql := World.block_lt_of_cell? _ _ qc); (have oc1 := keep hS.b OC1.out); (have ol := World.block_lt_of_cell? _ _ oc1); (have oc2 := keep hS.b OC2.out); (have hpn := HPN.out); clear hS; go_simp; first | done | exact rfl)); (case putsab24 => (first | (simp only [Act.put, List.setIfInBounds_toArray, List.set_cons_zero, List.set_cons_succ]; first | done | exact rfl) | rfl)); (case' nextsab24 => skip))
            (refine' GG.grow_lit (GG.BelL.still) rfl ?wtsab25 ?runsab25 ?putsab25 ?nextsab25; (case wtsab25 => rfl); (case runsab25 => (intro w' hS; (obtain ⟨dn, s, hS⟩ := hS); (have pc := keep hS.b PC.out); (have pl := World.block_lt_of_cell? _ _ pc); (have qc := keep hS.b QC.out); (have ql := World.block_lt_of_cell? _ _ qc); (have oc1 := keep hS.b OC1.out); (have ol := World.block_lt_of_cell? _ _ oc1); (have oc2 := keep hS.b OC2.out); (have hpn := HPN.out); clear hS; go_simp; first | done | exact rfl)); (case putsab25 => (first | (simp only [Act.put, List.setIfInBounds_toArray, List.set_cons_zero, List.set_cons_succ]; first | done | exact rfl) | rfl)); (case' nextsab25 => skip))
            (refine' GG.grow_lit (GG.BelL.still) rfl ?wtsab26 ?runsab26 ?putsab26 ?nextsab26; (case wtsab26 => rfl); (case runsab26 => (intro w' hS; (obtain ⟨dn, s, hS⟩ := hS); (have pc := keep hS.b PC.out); (have pl := World.block_lt_of_cell? _ _ pc); (have qc := keep hS.b QC.out); (have ql := World.block_lt_of_cell? _ _ qc); (have oc1 := keep hS.b OC1.out); (have ol := World.block_lt_of_cell? _ _ oc1); (have oc2 := keep hS.b OC2.out); (have hpn := HPN.out); clear hS; go_simp; first | done | exact rfl)); (case putsab26 => (first | (simp only [Act.put, List.setIfInBounds_toArray, List.set_cons_zero, List.set_cons_succ]; first | done | exact rfl) | rfl)); (case' nextsab26 => skip))
            (refine' GG.grow_lit (GG.BelL.still) rfl ?wtsab27 ?runsab27 ?putsab27 ?nextsab27; (case wtsab27 => rfl); (case runsab27 => (intro w' hS; (obtain ⟨dn, s, hS⟩ := hS); (have pc := keep hS.b PC.out); (have pl := World.block_lt_of_cell? _ _ pc); (have qc := keep hS.b QC.out); (have ql := World.block_lt_of_cell? _ _ qc); (have oc1 := keep hS.b OC1.out); (have ol := World.block_lt_of_cell? _ _ oc1); (have oc2 := keep hS.b OC2.out); (have hpn := HPN.out); clear hS; go_simp; first | done | exact rfl)); (case putsab27 => (first | (simp only [Act.put, List.setIfInBounds_toArray, List.set_cons_zero, List.set_cons_succ]; first | done | exact rfl) | rfl)); (case' nextsab27 => skip))
            (refine' GG.grow_lit (GG.BelL.still) rfl ?wtsab28 ?runsab28 ?putsab28 ?nextsab28; (case wtsab28 => rfl); (case runsab28 => (intro w' hS; (obtain ⟨dn, s, hS⟩ := hS); (have pc := keep hS.b PC.out); (have pl := World.block_lt_of_cell? _ _ pc); (have qc := keep hS.b QC.out); (have ql := World.block_lt_of_cell? _ _ qc); (have oc1 := keep hS.b OC1.out); (have ol := World.block_lt_of_cell? _ _ oc1); (have oc2 := keep hS.b OC2.out); (have hpn := HPN.out); clear hS; go_simp; first | done | exact rfl)); (case putsab28 => (first | (simp only [Act.put, List.setIfInBounds_toArray, List.set_cons_zero, List.set_cons_succ]; first | done | exact rfl) | rfl)); (case' nextsab28 => skip))
            (refine' GG.grow_lit (GG.BelL.still) rfl ?wtsab29 ?runsab29 ?putsab29 ?nextsab29; (case wtsab29 => rfl); (case runsab29 => (intro w' hS; (obtain ⟨dn, s, hS⟩ := hS); (have pc := keep hS.b PC.out); (have pl := World.block_lt_of_cell? _ _ pc); (have qc := keep hS.b QC.out); (have ql := World.block_lt_of_cell? _ _ qc); (have oc1 := keep hS.b OC1.out); (have ol := World.block_lt_of_cell? _ _ oc1); (have oc2 := keep hS.b OC2.out); (have hpn := HPN.out); clear hS; go_simp; first | done | exact rfl)); (case putsab29 => (first | (simp only [Act.put, List.setIfInBounds_toArray, List.set_cons_zero, List.set_cons_succ]; first | done | exact rfl) | rfl)); (case' nextsab29 => skip))
            (refine' GG.grow_lit (GG.BelL.still) rfl ?wtsab30 ?runsab30 ?putsab30 ?nextsab30; (case wtsab30 => rfl); (case runsab30 => (intro w' hS; (obtain ⟨dn, s, hS⟩ := hS); (have pc := keep hS.b PC.out); (have pl := World.block_lt_of_cell? _ _ pc); (have qc := keep hS.b QC.out); (have ql := World.block_lt_of_cell? _ _ qc); (have oc1 := keep hS.b OC1.out); (have ol := World.block_lt_of_cell? _ _ oc1); (have oc2 := keep hS.b OC2.out); (have hpn := HPN.out); clear hS; go_simp; first | done | exact rfl)); (case putsab30 => (first | (simp only [Act.put, List.setIfInBounds_toArray, List.set_cons_zero, List.set_cons_succ]; first | done | exact rfl) | rfl)); (case' nextsab30 => skip))
            (refine' GG.grow_lit (GG.BelL.still) rfl ?wtsab31 ?runsab31 ?putsab31 ?nextsab31; (case wtsab31 => rfl); (case runsab31 => (intro w' hS; (obtain ⟨dn, s, hS⟩ := hS); (have pc := keep hS.b PC.out); (have pl := World.block_lt_of_cell? _ _ pc); (have qc := keep hS.b QC.out); (have ql := World.block_lt_of_cell? _ _ qc); (have oc1 := keep hS.b OC1.out); (have ol := World.block_lt_of_cell? _ _ oc1); (have oc2 := keep hS.b OC2.out); (have hpn := HPN.out); clear hS; go_simp; first | done | exact rfl)); (case putsab31 => (first | (simp only [Act.put, List.setIfInBounds_toArray, List.set_cons_zero, List.set_cons_succ]; first | done | exact rfl) | rfl)); (case' nextsab31 => skip))
            (refine' GG.grow_lit (GG.BelL.still) rfl ?wtsab32 ?runsab32 ?putsab32 ?nextsab32; (case wtsab32 => rfl); (case runsab32 => (intro w' hS; (obtain ⟨dn, s, hS⟩ := hS); (have pc := keep hS.b PC.out); (have pl := World.block_lt_of_cell? _ _ pc); (have qc := keep hS.b QC.out); (have ql := World.block_lt_of_cell? _ _ qc); (have oc1 := keep hS.b OC1.out); (have ol := World.block_lt_of_cell? _ _ oc1); (have oc2 := keep hS.b OC2.out); (have hpn := HPN.out); clear hS; go_simp; first | done | exact rfl)); (case putsab32 => (first | (simp only [Act.put, List.setIfInBounds_toArray, List.set_cons_zero, List.set_cons_succ]; first | done | exact rfl) | rfl)); (case' nextsab32 => skip))
            (refine' GG.grow_lit (GG.BelL.still) rfl ?wtsab33 ?runsab33 ?putsab33 ?nextsab33; (case wtsab33 => rfl); (case runsab33 => (intro w' hS; (obtain ⟨dn, s, hS⟩ := hS); (have pc := keep hS.b PC.out); (have pl := World.block_lt_of_cell? _ _ pc); (have qc := keep hS.b QC.out); (have ql := World.block_lt_of_cell? _ _ qc); (have oc1 := keep hS.b OC1.out); (have ol := World.block_lt_of_cell? _ _ oc1); (have oc2 := keep hS.b OC2.out); (have hpn := HPN.out); clear hS; go_simp; first | done | exact rfl)); (case putsab33 => (first | (simp only [Act.put, List.setIfInBounds_toArray, List.set_cons_zero, List.set_cons_succ]; first | done | exact rfl) | rfl)); (case' nextsab33 => skip))
            (refine' GG.grow_lit (GG.BelL.still) rfl ?wtsab34 ?runsab34 ?putsab34 ?nextsab34; (case wtsab34 => rfl); (case runsab34 => (intro w' hS; (obtain ⟨dn, s, hS⟩ := hS); (have pc := keep hS.b PC.out); (have pl := World.block_lt_of_cell? _ _ pc); (have qc := keep hS.b QC.out); (have ql := World.block_lt_of_cell? _ _ qc); (have oc1 := keep hS.b OC1.out); (have ol := World.block_lt_of_cell? _ _ oc1); (have oc2 := keep hS.b OC2.out); (have hpn := HPN.out); clear hS; go_simp; first | done | exact rfl)); (case putsab34 => (first | (simp only [Act.put, List.setIfInBounds_toArray, List.set_cons_zero, List.set_cons_succ]; first | done | exact rfl) | rfl)); (case' nextsab34 => skip))
            intro dn s w8 hS _ _
            have pc := keep hS.b PC.out
            have pl := World.block_lt_of_cell? _ _ pc
            have ht8 := HTW.out.old hS.b
            have qc0 := keep hS.b QC.out
            obtain ⟨⟨u9, xc⟩, xf, xl⟩ := ht8.cellS (i := J) (by rw [HSE.out]; exact hJk)
            obtain ⟨w9, hw9⟩ := named (w8.setCell ⟨gs, J, none⟩ (.bool true))
            have ht9 := ht8.setS J true
            have qc := ((Keep.refl (fun b => b ≠ gs) w8).setCell (fun h => h rfl) J (.bool true)).cell qc0 (by have := HBG.out; omega)
            rw [← hw9] at ht9 qc
            have ql := World.block_lt_of_cell? _ _ qc
            obtain ⟨⟨u10, yc⟩, yf, yl⟩ := ht9.cellS (i := I) (by rw [List.length_set, HSE.out]; exact hIk)
            have HR := Lib.hid (ht9.setS I false)
            have e9 := hw9.symm
            clear hS DS0 ht8 ht9 PC QC OC1 OC2 HTW HCR HPL HPN qc0 hw9
            go_wp2_with fail
            clear e9
            go_roundw
            case rel => exact ⟨i + 1, (S2.set J true).set I false, c4, by go_num, HST.out, HR.out⟩
            case measure => simp [intOf]; omega
      have hji : (j : Int) < (k : Int) := by omega
      by_cases c2 : j < M0.length
      case pos =>
        have hjm : (j : Int) < (M0.length : Int) := by omega
        obtain ⟨mb, mo, h1, mc⟩ := (RT.out.1.keep RT.out.2 htw.k).at (k := j) c2
        have ml := World.block_lt_of_cell? _ _ mc
        subst h1
        generalize M0[j] = mk at mc
        obtain ⟨⟨u9, xc⟩, xf, xl⟩ := htw.cellS (i := j) (by rw [hsl]; exact c1)
        have HR := Lib.hid (htw.setS j mk)
        have wj1 : IntKind.i64.wrap ((j : Int) + 1) = (j : Int) + 1 := IntWalk.i64_in _ (by omega)
        clear htw hsl HTW
        go_wp2_with fail
        go_roundw
        case rel => exact ⟨j + 1, S.set j mk, c1, by go_num, by rw [List.length_set]; exact HSL.out, HR.out⟩
        case measure => simp [intOf]; omega
      have hjm : decide ((j : Int) < (M0.length : Int)) = false := decide_eq_false (by omega)
      have hjn : ¬ j < M0.length := c2
      clear hsl htw hj
      obtain ⟨x7, rfl⟩ : ∃ x, x = wr := ⟨_, rfl⟩
      go_wp2_with fail
      go_loopw [13] (fun iv wr => Rel3 x6 gs gh k H S iv wr) (fun iv _ => H - (intOf iv).toNat)
      case atStart => exact ⟨0, _, Nat.zero_le _, rfl, HalfL.start k, HTW.out⟩
      case round =>
        clear HTW
        obtain ⟨p, L, hj, rfl, hhl, htw⟩ := hrel
        have HHL := Lib.hid hhl
        have HTW := Lib.hid htw
        by_cases c3 : p < H
        case pos =>
          have hji : (p : Int) < (H : Int) := by omega
          have hhk := HHk.out
          have hji2 : (p : Int) < (k : Int) := by omega
          have hjk : p < k := by omega
          obtain ⟨J, hJ⟩ : ∃ J, k - 1 - p = J := ⟨_, rfl⟩
          have hJk : J < k := by omega
          have hJi : (J : Int) < (k : Int) := by omega
          obtain ⟨b1, s1, h1, pc, pl⟩ := (RH.out.1.keep RH.out.2 htw.k).atZ (dn_at c3)
          obtain ⟨b2, s2, h2, qc, ql⟩ := (RO.out.1.keep RO.out.2 htw.k).atZ (dn_at hjk)
          rw [hJ] at pc qc
          subst h1 h2
          have PC := Lib.hid pc
          have QC := Lib.hid qc
          have HST := Lib.hid (hhl.step hjk)
          rw [hJ] at HST
          have wj1 : IntKind.i64.wrap ((p : Int) + 1) = (p : Int) + 1 := IntWalk.i64_in _ (by omega)
          have hhl9 := hhl.len
          have HHLEN := Lib.hid hhl9
          have DS0 : Hid (GG.BelL wr (fun _ => false) () wr.drew) := Lib.hid ⟨(Below.refl _ _).drew⟩
          clear pc pl qc ql hhl htw hhl9
          go_wp2_with fail
          refine' GG.wp_growL _ (GG.BelL wr) [[], [], [0, 1], [0, 1, 2], [], [], [4, 5], [4, 5, 6], [0, 1, 2, 3, 4, 5, 6, 7]] (GG.Fact.lit (Rl := GG.RlL) _ :: GG.Fact.lit (Rl := GG.RlL) _ :: GG.Fact.lit (Rl := GG.RlL) _ :: GG.Fact.lit (Rl := GG.RlL) _ :: GG.Fact.lit (Rl := GG.RlL) _ :: GG.Fact.lit (Rl := GG.RlL) _ :: GG.Fact.lit (Rl := GG.RlL) _ :: GG.Fact.lit (Rl := GG.RlL) _ :: GG.Fact.lit (Rl := GG.RlL) _ :: []) (by kernel_rfl) rfl (by kernel_rfl) (()) (DS0.out) ?seqsba
          case' seqsba => skip
          (refine' GG.grow_lit (GG.BelL.still) rfl ?wtsba0 ?runsba0 ?putsba0 ?nextsba0; (case wtsba0 => rfl); (case runsba0 => (intro w' hS; (obtain ⟨dn, s, hS⟩ := hS); (have pc := keep hS.b PC.out); (have pl := World.block_lt_of_cell? _ _ pc); (have qc := keep hS.b QC.out); (have ql := World.block_lt_of_cell? _ _ qc); clear hS; go_simp; first | done | exact rfl)); (case putsba0 => (first | (simp only [Act.put, List.setIfInBounds_toArray, List.set_cons_zero, List.set_cons_succ]; first | done | exact rfl) | rfl)); (case' nextsba0 => skip))
          (refine' GG.grow_lit (GG.BelL.still) rfl ?wtsba1 ?runsba1 ?putsba1 ?nextsba1; (case wtsba1 => rfl); (case runsba1 => (intro w' hS; (obtain ⟨dn, s, hS⟩ := hS); (have pc := keep hS.b PC.out); (have pl := World.block_lt_of_cell? _ _ pc); (have qc := keep hS.b QC.out); (have ql := World.block_lt_of_cell? _ _ qc); clear hS; go_simp; first | done | exact rfl)); (case putsba1 => (first | (simp only [Act.put, List.setIfInBounds_toArray, List.set_cons_zero, List.set_cons_succ]; first | done | exact rfl) | rfl)); (case' nextsba1 => skip))
          (refine' GG.grow_lit (GG.BelL.still) rfl ?wtsba2 ?runsba2 ?putsba2 ?nextsba2; (case wtsba2 => rfl); (case runsba2 => (intro w' hS; (obtain ⟨dn, s, hS⟩ := hS); (have pc := keep hS.b PC.out); (have pl := World.block_lt_of_cell? _ _ pc); (have qc := keep hS.b QC.out); (have ql := World.block_lt_of_cell? _ _ qc); clear hS; go_simp; first | done | exact rfl)); (case putsba2 => (first | (simp only [Act.put, List.setIfInBounds_toArray, List.set_cons_zero, List.set_cons_succ]; first | done | exact rfl) | rfl)); (case' nextsba2 => skip))
          (refine' GG.grow_lit (GG.BelL.still) rfl ?wtsba3 ?runsba3 ?putsba3 ?nextsba3; (case wtsba3 => rfl); (case runsba3 => (intro w' hS; (obtain ⟨dn, s, hS⟩ := hS); (have pc := keep hS.b PC.out); (have pl := World.block_lt_of_cell? _ _ pc); (have qc := keep hS.b QC.out); (have ql := World.block_lt_of_cell? _ _ qc); clear hS; go_simp; first | done | exact rfl)); (case putsba3 => (first | (simp only [Act.put, List.setIfInBounds_toArray, List.set_cons_zero, List.set_cons_succ]; first | done | exact rfl) | rfl)); (case' nextsba3 => skip))
          (refine' GG.grow_lit (GG.BelL.still) rfl ?wtsba4 ?runsba4 ?putsba4 ?nextsba4; (case wtsba4 => rfl); (case runsba4 => (intro w' hS; (obtain ⟨dn, s, hS⟩ := hS); (have pc := keep hS.b PC.out); (have pl := World.block_lt_of_cell? _ _ pc); (have qc := keep hS.b QC.out); (have ql := World.block_lt_of_cell? _ _ qc); clear hS; go_simp; first | done | exact rfl)); (case putsba4 => (first | (simp only [Act.put, List.setIfInBounds_toArray, List.set_cons_zero, List.set_cons_succ]; first | done | exact rfl) | rfl)); (case' nextsba4 => skip))
          (refine' GG.grow_lit (GG.BelL.still) rfl ?wtsba5 ?runsba5 ?putsba5 ?nextsba5; (case wtsba5 => rfl); (case runsba5 => (intro w' hS; (obtain ⟨dn, s, hS⟩ := hS); (have pc := keep hS.b PC.out); (have pl := World.block_lt_of_cell? _ _ pc); (have qc := keep hS.b QC.out); (have ql := World.block_lt_of_cell? _ _ qc); clear hS; go_simp; first | done | exact rfl)); (case putsba5 => (first | (simp only [Act.put, List.setIfInBounds_toArray, List.set_cons_zero, List.set_cons_succ]; first | done | exact rfl) | rfl)); (case' nextsba5 => skip))
          (refine' GG.grow_lit (GG.BelL.still) rfl ?wtsba6 ?runsba6 ?putsba6 ?nextsba6; (case wtsba6 => rfl); (case runsba6 => (intro w' hS; (obtain ⟨dn, s, hS⟩ := hS); (have pc := keep hS.b PC.out); (have pl := World.block_lt_of_cell? _ _ pc); (have qc := keep hS.b QC.out); (have ql := World.block_lt_of_cell? _ _ qc); clear hS; go_simp; first | done | exact rfl)); (case putsba6 => (first | (simp only [Act.put, List.setIfInBounds_toArray, List.set_cons_zero, List.set_cons_succ]; first | done | exact rfl) | rfl)); (case' nextsba6 => skip))
          (refine' GG.grow_lit (GG.BelL.still) rfl ?wtsba7 ?runsba7 ?putsba7 ?nextsba7; (case wtsba7 => rfl); (case runsba7 => (intro w' hS; (obtain ⟨dn, s, hS⟩ := hS); (have pc := keep hS.b PC.out); (have pl := World.block_lt_of_cell? _ _ pc); (have qc := keep hS.b QC.out); (have ql := World.block_lt_of_cell? _ _ qc); clear hS; go_simp; first | done | exact rfl)); (case putsba7 => (first | (simp only [Act.put, List.setIfInBounds_toArray, List.set_cons_zero, List.set_cons_succ]; first | done | exact rfl) | rfl)); (case' nextsba7 => skip))
          (refine' GG.grow_lit (GG.BelL.still) rfl ?wtsba8 ?runsba8 ?putsba8 ?nextsba8; (case wtsba8 => rfl); (case runsba8 => (intro w' hS; (obtain ⟨dn, s, hS⟩ := hS); (have pc := keep hS.b PC.out); (have pl := World.block_lt_of_cell? _ _ pc); (have qc := keep hS.b QC.out); (have ql := World.block_lt_of_cell? _ _ qc); clear hS; go_simp; first | done | exact rfl)); (case putsba8 => (first | (simp only [Act.put, List.setIfInBounds_toArray, List.set_cons_zero, List.set_cons_succ]; first | done | exact rfl) | rfl)); (case' nextsba8 => skip))
          intro dn s w8 hS _ _
          have pc := keep hS.b PC.out
          have pl := World.block_lt_of_cell? _ _ pc
          have ht8 := HTW.out.old hS.b
          obtain ⟨⟨u9, xc⟩, xf, xl⟩ := ht8.cellH (i := J) (by rw [HHLEN.out]; exact hJk)
          have HR := Lib.hid (ht8.setH J true)
          clear hS DS0 ht8 PC QC HTW HHL
          go_wp2_with fail
          go_roundw
          case rel => exact ⟨p + 1, L.set J true, c3, by go_num, HST.out, HR.out⟩
          case measure => simp [intOf]; omega
        obtain rfl : p = H := by omega
        have HFH := Lib.hid (hhl.fair (by omega) HH.out)
        have HLL := Lib.hid hhl.len
        clear HHL hhl htw c3 hj
        obtain ⟨x8, rfl⟩ : ∃ x, x = wr := ⟨_, rfl⟩
        go_wp2_with fail
        go_loopw [14] (fun iv wr => Rel4 x6 gs gh k E L iv wr) (fun iv _ => E - (intOf iv).toNat)
        case atStart => exact ⟨0, S, Nat.zero_le _, rfl, SideL.start HSL.out, HTW.out⟩
        case round =>
          clear HTW
          obtain ⟨i, S2, hi, rfl, hsd, htw⟩ := hrel
          have HTW := Lib.hid htw
          by_cases c4 : i < E
          case neg =>
            obtain rfl : i = E := by omega
            have HFS := Lib.hid (hsd.fair (by omega) HE.out)
            have K1 : Hid (Bools wr (.slice (some ⟨gs, 0, none⟩) k k) S2) := Lib.hid (bools_of_blk htw.s hsd.len (by omega))
            have K2 : Hid (Bools wr (.slice (some ⟨gh, 0, none⟩) k k) L) := Lib.hid (bools_of_blk htw.h HLL.out (by omega))
            have HLS := Lib.hid hsd.len
            have HBE : Hid (Below w.heap.size w wr) := Lib.hid (HLB.out.1.trans (htw.k.below (B := w.heap.size) (fun b hb => by have := HLB.out.2; omega) HLB.out.1.size))
            clear htw hsd c4 hi HTW
            go_wp2_with fail
            refine (fair_is K1.out (by rw [HLS.out]; omega) HFS.out).mono ?_
            rintro e w9 ⟨rfl, rfl⟩
            go_wp2_with fail
            refine (fair_is K2.out (by rw [HLL.out]; omega) HFH.out).mono ?_
            rintro e w9 ⟨rfl, rfl⟩
            go_wp2_with fail
            go_ret
            exact ⟨rfl, HBE.out⟩
          have hii : (i : Int) < (E : Int) := by omega
          have hee := HE2.out
          have hii2 : (i : Int) < (k : Int) := by omega
          have hik : i < k := by omega
          obtain ⟨J, hJ⟩ : ∃ J, k - 1 - i = J := ⟨_, rfl⟩
          obtain ⟨I, hI⟩ : ∃ I, E - 1 - i = I := ⟨_, rfl⟩
          obtain ⟨Q, hQ⟩ : ∃ Q, k - E + i = Q := ⟨_, rfl⟩
          have hJk : J < k := by omega
          have hIk : I < k := by omega
          have hQk : Q < k := by omega
          have hJi : (J : Int) < (k : Int) := by omega
          have hIi : (I : Int) < (k : Int) := by omega
          have hQi : (Q : Int) < (k : Int) := by omega
          have wq1 : IntKind.i64.wrap ((k : Int) - (E : Int)) = (k : Int) - (E : Int) := IntWalk.i64_in _ (by omega)
          have wq2 : IntKind.i64.wrap ((k : Int) - (E : Int) + (i : Int)) = (Q : Int) := by
            rw [show (k : Int) - (E : Int) + (i : Int) = (Q : Int) from by omega]
            exact IntWalk.i64_in _ (by omega)
          have wi1 : IntKind.i64.wrap ((i : Int) + 1) = (i : Int) + 1 := IntWalk.i64_in _ (by omega)
          obtain ⟨P, hP⟩ : ∃ P, placeL (zN (dn E E)) ((k - 1 - i : Nat) : Int) = P := ⟨_, rfl⟩
          have hPn := ends_apart (N := k) hee.2 c4
          rw [hP] at hPn
          rw [hJ] at hP
          have HPL := Lib.hid hP
          have HPN : Hid (decide (0 ≤ P) = false) := Lib.hid (decide_eq_false (by omega))
          have HCR := Lib.hid (RC.out.1.keep RC.out.2 htw.k)
          obtain ⟨b1, s1, h1, pc, pl⟩ := (RA.out.1.keep RA.out.2 htw.k).atZ (dn_at c4)
          obtain ⟨b2, s2, h2, qc, ql⟩ := HCR.out.atZ (dn_at c4)
          obtain ⟨b3, s3, h3, oc1, ol⟩ := (RO.out.1.keep RO.out.2 htw.k).atZ (dn_at hik)
          obtain ⟨b4, s4, h4, oc2, -⟩ := (RO.out.1.keep RO.out.2 htw.k).atZ (dn_at hQk)
          subst h1 h2 h3
          injection h4 with h4
          injection h4 with h4 h5
          subst h4 h5
          rw [hJ] at pc oc1
          rw [hI] at qc
          rw [show k - 1 - Q = I from by omega] at oc2
          have PC := Lib.hid pc
          have QC := Lib.hid qc
          have OC1 := Lib.hid oc1
          have OC2 := Lib.hid oc2
          have HST := Lib.hid (hsd.step c4 hee.2)
          rw [hJ, hI] at HST
          have HSE := Lib.hid hsd.len
          have hbg := (RC.out.2 _ _ _ _ _ rfl (by omega) : b2 < gs)
          have HBG := Lib.hid hbg
          have DS0 : Hid (GG.BelL wr (fun _ => false) () wr.drew) := Lib.hid ⟨(Below.refl _ _).drew⟩
          clear pc pl qc ql oc1 oc2 ol hP hPn hsd htw hbg
          go_wp2_with fail
          refine' GG.wp_growL _ (GG.BelL wr) [[], [], [], [1, 2], [1, 2, 3], [0, 1, 2, 3, 4], [0, 1, 2, 3, 4, 5], [0, 1, 2, 3, 4, 5, 6], [0, 1, 2, 3, 4, 5, 6, 7], [0, 1, 2, 3, 4, 5, 6, 7], [0, 1, 2, 3, 4, 5, 6, 7, 8, 9], [0, 1, 2, 3, 4, 5, 6, 7, 8, 9, 10], [0, 1, 2, 3, 4, 5, 6, 7], [0, 1, 2, 3, 4, 5, 6, 7], [0, 1, 2, 3, 4, 5, 6, 7, 12, 13], [0, 1, 2, 3, 4, 5, 6, 7, 12, 13, 14], [0, 1, 2, 3, 4, 5, 6, 7, 8, 9, 10, 11, 12, 13, 14, 15], [0, 1, 2, 3, 4, 5, 6, 7, 8, 9, 10, 11, 12, 13, 14, 15, 16], [0, 1, 2, 3, 4, 5, 6, 7, 8, 9, 10, 11, 12, 13, 14, 15, 16, 17], [0, 1, 2, 3, 4, 5, 6, 7, 8, 9, 10, 11, 12, 13, 14, 15, 16, 17, 18], [0, 1, 2, 3, 4, 5, 6, 7, 8, 9, 10, 11, 12, 13, 14, 15, 16, 17, 18], [0, 1, 2, 3, 4, 5, 6, 7, 8, 9, 10, 11, 12, 13, 14, 15, 16, 17, 18, 19, 20], [0, 1, 2, 3, 4, 5, 6, 7, 8, 9, 10, 11, 12, 13, 14, 15, 16, 17, 18, 19, 20, 21], [0, 1, 2, 3, 4, 5, 6, 7, 8, 9, 10, 11, 12, 13, 14, 15, 16, 17, 18], [0, 1, 2, 3, 4, 5, 6, 7, 8, 9, 10, 11, 12, 13, 14, 15, 16, 17, 18], [0, 1, 2, 3, 4, 5, 6, 7, 8, 9, 10, 11, 12, 13, 14, 15, 16, 17, 18, 24], [0, 1, 2, 3, 4, 5, 6, 7, 8, 9, 10, 11, 12, 13, 14, 15, 16, 17, 18], [0, 1, 2, 3, 4, 5, 6, 7, 8, 9, 10, 11, 12, 13, 14, 15, 16, 17, 18, 26], [0, 1, 2, 3, 4, 5, 6, 7, 8, 9, 10, 11, 12, 13, 14, 15, 16, 17, 18, 24, 25, 26, 27], [0, 1, 2, 3, 4, 5, 6, 7, 8, 9, 10, 11, 12, 13, 14, 15, 16, 17, 18], [0, 1, 2, 3, 4, 5, 6, 7, 8, 9, 10, 11, 12, 13, 14, 15, 16, 17, 18, 24, 25, 26, 27, 28, 29], [0, 1, 2, 3, 4, 5, 6, 7, 8, 9, 10, 11, 12, 13, 14, 15, 16, 17, 18, 23, 24, 25, 26, 27, 28, 29, 30], [0, 1, 2, 3, 4, 5, 6, 7, 8, 9, 10, 11, 12, 13, 14, 15, 16, 17, 18, 23, 24, 25, 26, 27, 28, 29, 30, 31], [0, 1, 2, 3, 4, 5, 6, 7, 8, 9, 10, 11, 12, 13, 14, 15, 16, 17, 18, 19, 20, 21, 22, 23, 24, 25, 26, 27, 28, 29, 30, 31, 32], [0, 1, 2, 3, 4, 5, 6, 7, 8, 9, 10, 11, 12, 13, 14, 15, 16, 17, 18, 19, 20, 21, 22, 23, 24, 25, 26, 27, 28, 29, 30, 31, 32, 33]] (GG.Fact.lit (Rl := GG.RlL) _ :: GG.Fact.lit (Rl := GG.RlL) _ :: GG.Fact.lit (Rl := GG.RlL) _ :: GG.Fact.lit (Rl := GG.RlL) _ :: GG.Fact.lit (Rl := GG.RlL) _ :: GG.Fact.lit (Rl := GG.RlL) _ :: GG.Fact.lit (Rl := GG.RlL) _ :: GG.Fact.lit (Rl := GG.RlL) _ :: GG.Fact.lit (Rl := GG.RlL) _ :: GG.Fact.lit (Rl := GG.RlL) _ :: GG.Fact.lit (Rl := GG.RlL) _ :: GG.Fact.lit (Rl := GG.RlL) _ :: GG.Fact.lit (Rl := GG.RlL) _ :: GG.Fact.lit (Rl := GG.RlL) _ :: GG.Fact.lit (Rl := GG.RlL) _ :: GG.Fact.lit (Rl := GG.RlL) _ :: GG.Fact.lit (Rl := GG.RlL) _ :: GG.Fact.lit (Rl := GG.RlL) _ :: GG.Fact.lit (Rl := GG.RlL) _ :: GG.Fact.lit (Rl := GG.RlL) _ :: GG.Fact.lit (Rl := GG.RlL) _ :: GG.Fact.lit (Rl := GG.RlL) _ :: GG.Fact.lit (Rl := GG.RlL) _ :: GG.Fact.lit (Rl := GG.RlL) _ :: GG.Fact.lit (Rl := GG.RlL) _ :: GG.Fact.lit (Rl := GG.RlL) _ :: GG.Fact.lit (Rl := GG.RlL) _ :: GG.Fact.lit (Rl := GG.RlL) _ :: GG.Fact.lit (Rl := GG.RlL) _ :: GG.Fact.lit (Rl := GG.RlL) _ :: GG.Fact.lit (Rl := GG.RlL) _ :: GG.Fact.lit (Rl := GG.RlL) _ :: GG.Fact.lit (Rl := GG.RlL) _ :: GG.Fact.lit (Rl := GG.RlL) _ :: GG.Fact.lit (Rl := GG.RlL) _ :: []) (by kernel_rfl) rfl (by kernel_rfl) (()) (DS0.out) ?seqsbb
          case' seqsbb => skip
          (refine' GG.grow_lit (GG.BelL.still) rfl ?wtsbb0 ?runsbb0 ?putsbb0 ?nextsbb0; (case wtsbb0 => rfl); (case runsbb0 => (intro w' hS; (obtain ⟨dn, s, hS⟩ := hS); (have pc := keep hS.b PC.out); (have pl := World.block_lt_of_cell? _ _ pc); (have qc := keep hS.b QC.out); (have ql := World.block_lt_of_cell? _ _ qc); (have oc1 := keep hS.b OC1.out); (have ol := World.block_lt_of_cell? _ _ oc1); (have oc2 := keep hS.b OC2.out); (have hpn := HPN.out); clear hS; go_simp; first | done | exact rfl)); (case putsbb0 => (first | (simp only [Act.put, List.setIfInBounds_toArray, List.set_cons_zero, List.set_cons_succ]; first | done | exact rfl) | rfl)); (case' nextsbb0 => skip))
          (refine' GG.grow_lit (GG.BelL.still) rfl ?wtsbb1 ?runsbb1 ?putsbb1 ?nextsbb1; (case wtsbb1 => rfl); (case runsbb1 => (intro w' hS; (obtain ⟨dn, s, hS⟩ := hS); (have pc := keep hS.b PC.out); (have pl := World.block_lt_of_cell? _ _ pc); (have qc := keep hS.b QC.out); (have ql := World.block_lt_of_cell? _ _ qc); (have oc1 := keep hS.b OC1.out); (have ol := World.block_lt_of_cell? _ _ oc1); (have oc2 := keep hS.b OC2.out); (have hpn := HPN.out); clear hS; go_simp; first | done | exact rfl)); (case putsbb1 => (first | (simp only [Act.put, List.setIfInBounds_toArray, List.set_cons_zero, List.set_cons_succ]; first | done | exact rfl) | rfl)); (case' nextsbb1 => skip))
          (refine' GG.grow_lit (GG.BelL.still) rfl ?wtsbb2 ?runsbb2 ?putsbb2 ?nextsbb2; (case wtsbb2 => rfl); (case runsbb2 => (intro w' hS; (obtain ⟨dn, s, hS⟩ := hS); (have pc := keep hS.b PC.out); (have pl := World.block_lt_of_cell? _ _ pc); (have qc := keep hS.b QC.out); (have ql := World.block_lt_of_cell? _ _ qc); (have oc1 := keep hS.b OC1.out); (have ol := World.block_lt_of_cell? _ _ oc1); (have oc2 := keep hS.b OC2.out); (have hpn := HPN.out); clear hS; go_simp; first | done | exact rfl)); (case putsbb2 => (first | (simp only [Act.put, List.setIfInBounds_toArray, List.set_cons_zero, List.set_cons_succ]; first | done | exact rfl) | rfl)); (case' nextsbb2 => skip))
          (refine' GG.grow_lit (GG.BelL.still) rfl ?wtsbb3 ?runsbb3 ?putsbb3 ?nextsbb3; (case wtsbb3 => rfl); (case runsbb3 => (intro w' hS; (obtain ⟨dn, s, hS⟩ := hS); (have pc := keep hS.b PC.out); (have pl := World.block_lt_of_cell? _ _ pc); (have qc := keep hS.b QC.out); (have ql := World.block_lt_of_cell? _ _ qc); (have oc1 := keep hS.b OC1.out); (have ol := World.block_lt_of_cell? _ _ oc1); (have oc2 := keep hS.b OC2.out); (have hpn := HPN.out); clear hS; go_simp; first | done | exact rfl)); (case putsbb3 => (first | (simp only [Act.put, List.setIfInBounds_toArray, List.set_cons_zero, List.set_cons_succ]; first | done | exact rfl) | rfl)); (case' nextsbb3 => skip))
          (refine' GG.grow_lit (GG.BelL.still) rfl ?wtsbb4 ?runsbb4 ?putsbb4 ?nextsbb4; (case wtsbb4 => rfl); (case runsbb4 => (intro w' hS; (obtain ⟨dn, s, hS⟩ := hS); (have pc := keep hS.b PC.out); (have pl := World.block_lt_of_cell? _ _ pc); (have qc := keep hS.b QC.out); (have ql := World.block_lt_of_cell? _ _ qc); (have oc1 := keep hS.b OC1.out); (have ol := World.block_lt_of_cell? _ _ oc1); (have oc2 := keep hS.b OC2.out); (have hpn := HPN.out); clear hS; go_simp; first | done | exact rfl)); (case putsbb4 => (first | (simp only [Act.put, List.setIfInBounds_toArray, List.set_cons_zero, List.set_cons_succ]; first | done | exact rfl) | rfl)); (case' nextsbb4 => skip))
          (refine' GG.grow_lit_call (u := .int .i64 P) rfl Try.func9 (by kernel_rfl) rfl rfl ?wtsbb5 ?runsbb5 ?putsbb5 ?nextsbb5; (case wtsbb5 => rfl); (case runsbb5 => (intro dn s w' hS hd H; exact (rplace_any _ _ _ _ (HCR.out.below hS.b)).mono (fun e w2 h => by rw [HPL.out] at h; exact ⟨(), h.1, h.2 ▸ ⟨hS.b⟩, h.2 ▸ Below.refl _ _, h.2 ▸ Nat.le_refl _⟩))); (case putsbb5 => (first | (simp only [Act.put, List.setIfInBounds_toArray, List.set_cons_zero, List.set_cons_succ]; first | done | exact rfl) | rfl)); (case' nextsbb5 => skip))
          (refine' GG.grow_lit (GG.BelL.still) rfl ?wtsbb6 ?runsbb6 ?putsbb6 ?nextsbb6; (case wtsbb6 => rfl); (case runsbb6 => (intro w' hS; (obtain ⟨dn, s, hS⟩ := hS); (have pc := keep hS.b PC.out); (have pl := World.block_lt_of_cell? _ _ pc); (have qc := keep hS.b QC.out); (have ql := World.block_lt_of_cell? _ _ qc); (have oc1 := keep hS.b OC1.out); (have ol := World.block_lt_of_cell? _ _ oc1); (have oc2 := keep hS.b OC2.out); (have hpn := HPN.out); clear hS; go_simp; first | done | exact rfl)); (case putsbb6 => (first | (simp only [Act.put, List.setIfInBounds_toArray, List.set_cons_zero, List.set_cons_succ]; first | done | exact rfl) | rfl)); (case' nextsbb6 => skip))
          (refine' GG.grow_lit (GG.BelL.still) rfl ?wtsbb7 ?runsbb7 ?putsbb7 ?nextsbb7; (case wtsbb7 => rfl); (case runsbb7 => (intro w' hS; (obtain ⟨dn, s, hS⟩ := hS); (have pc := keep hS.b PC.out); (have pl := World.block_lt_of_cell? _ _ pc); (have qc := keep hS.b QC.out); (have ql := World.block_lt_of_cell? _ _ qc); (have oc1 := keep hS.b OC1.out); (have ol := World.block_lt_of_cell? _ _ oc1); (have oc2 := keep hS.b OC2.out); (have hpn := HPN.out); clear hS; go_simp; first | done | exact rfl)); (case putsbb7 => (first | (simp only [Act.put, List.setIfInBounds_toArray, List.set_cons_zero, List.set_cons_succ]; first | done | exact rfl) | rfl)); (case' nextsbb7 => skip))
          (refine' GG.grow_lit (GG.BelL.still) rfl ?wtsbb8 ?runsbb8 ?putsbb8 ?nextsbb8; (case wtsbb8 => rfl); (case runsbb8 => (intro w' hS; (obtain ⟨dn, s, hS⟩ := hS); (have pc := keep hS.b PC.out); (have pl := World.block_lt_of_cell? _ _ pc); (have qc := keep hS.b QC.out); (have ql := World.block_lt_of_cell? _ _ qc); (have oc1 := keep hS.b OC1.out); (have ol := World.block_lt_of_cell? _ _ oc1); (have oc2 := keep hS.b OC2.out); (have hpn := HPN.out); clear hS; go_simp; first | done | exact rfl)); (case putsbb8 => (first | (simp only [Act.put, List.setIfInBounds_toArray, List.set_cons_zero, List.set_cons_succ]; first | done | exact rfl) | rfl)); (case' nextsbb8 => skip))
          (refine' GG.grow_lit (GG.BelL.still) rfl ?wtsbb9 ?runsbb9 ?putsbb9 ?nextsbb9; (case wtsbb9 => rfl); (case runsbb9 => (intro w' hS; (obtain ⟨dn, s, hS⟩ := hS); (have pc := keep hS.b PC.out); (have pl := World.block_lt_of_cell? _ _ pc); (have qc := keep hS.b QC.out); (have ql := World.block_lt_of_cell? _ _ qc); (have oc1 := keep hS.b OC1.out); (have ol := World.block_lt_of_cell? _ _ oc1); (have oc2 := keep hS.b OC2.out); (have hpn := HPN.out); clear hS; go_simp; first | done | exact rfl)); (case putsbb9 => (first | (simp only [Act.put, List.setIfInBounds_toArray, List.set_cons_zero, List.set_cons_succ]; first | done | exact rfl) | rfl)); (case' nextsbb9 => skip))
          (refine' GG.grow_lit (GG.BelL.still) rfl ?wtsbb10 ?runsbb10 ?putsbb10 ?nextsbb10; (case wtsbb10 => rfl); (case runsbb10 => (intro w' hS; (obtain ⟨dn, s, hS⟩ := hS); (have pc := keep hS.b PC.out); (have pl := World.block_lt_of_cell? _ _ pc); (have qc := keep hS.b QC.out); (have ql := World.block_lt_of_cell? _ _ qc); (have oc1 := keep hS.b OC1.out); (have ol := World.block_lt_of_cell? _ _ oc1); (have oc2 := keep hS.b OC2.out); (have hpn := HPN.out); clear hS; go_simp; first | done | exact rfl)); (case putsbb10 => (first | (simp only [Act.put, List.setIfInBounds_toArray, List.set_cons_zero, List.set_cons_succ]; first | done | exact rfl) | rfl)); (case' nextsbb10 => skip))
          (refine' GG.grow_lit (GG.BelL.still) rfl ?wtsbb11 ?runsbb11 ?putsbb11 ?nextsbb11; (case wtsbb11 => rfl); (case runsbb11 => (intro w' hS; (obtain ⟨dn, s, hS⟩ := hS); (have pc := keep hS.b PC.out); (have pl := World.block_lt_of_cell? _ _ pc); (have qc := keep hS.b QC.out); (have ql := World.block_lt_of_cell? _ _ qc); (have oc1 := keep hS.b OC1.out); (have ol := World.block_lt_of_cell? _ _ oc1); (have oc2 := keep hS.b OC2.out); (have hpn := HPN.out); clear hS; go_simp; first | done | exact rfl)); (case putsbb11 => (first | (simp only [Act.put, List.setIfInBounds_toArray, List.set_cons_zero, List.set_cons_succ]; first | done | exact rfl) | rfl)); (case' nextsbb11 => skip))
          (refine' GG.grow_lit (GG.BelL.still) rfl ?wtsbb12 ?runsbb12 ?putsbb12 ?nextsbb12; (case wtsbb12 => rfl); (case runsbb12 => (intro w' hS; (obtain ⟨dn, s, hS⟩ := hS); (have pc := keep hS.b PC.out); (have pl := World.block_lt_of_cell? _ _ pc); (have qc := keep hS.b QC.out); (have ql := World.block_lt_of_cell? _ _ qc); (have oc1 := keep hS.b OC1.out); (have ol := World.block_lt_of_cell? _ _ oc1); (have oc2 := keep hS.b OC2.out); (have hpn := HPN.out); clear hS; go_simp; first | done | exact rfl)); (case putsbb12 => (first | (simp only [Act.put, List.setIfInBounds_toArray, List.set_cons_zero, List.set_cons_succ]; first | done | exact rfl) | rfl)); (case' nextsbb12 => skip))
          (refine' GG.grow_lit (GG.BelL.still) rfl ?wtsbb13 ?runsbb13 ?putsbb13 ?nextsbb13; (case wtsbb13 => rfl); (case runsbb13 => (intro w' hS; (obtain ⟨dn, s, hS⟩ := hS); (have pc := keep hS.b PC.out); (have pl := World.block_lt_of_cell? _ _ pc); (have qc := keep hS.b QC.out); (have ql := World.block_lt_of_cell? _ _ qc); (have oc1 := keep hS.b OC1.out); (have ol := World.block_lt_of_cell? _ _ oc1); (have oc2 := keep hS.b OC2.out); (have hpn := HPN.out); clear hS; go_simp; first | done | exact rfl)); (case putsbb13 => (first | (simp only [Act.put, List.setIfInBounds_toArray, List.set_cons_zero, List.set_cons_succ]; first | done | exact rfl) | rfl)); (case' nextsbb13 => skip))
          (refine' GG.grow_lit (GG.BelL.still) rfl ?wtsbb14 ?runsbb14 ?putsbb14 ?nextsbb14; (case wtsbb14 => rfl); (case runsbb14 => (intro w' hS; (obtain ⟨dn, s, hS⟩ := hS); (have pc := keep hS.b PC.out); (have pl := World.block_lt_of_cell? _ _ pc); (have qc := keep hS.b QC.out); (have ql := World.block_lt_of_cell? _ _ qc); (have oc1 := keep hS.b OC1.out); (have ol := World.block_lt_of_cell? _ _ oc1); (have oc2 := keep hS.b OC2.out); (have hpn := HPN.out); clear hS; go_simp; first | done | exact rfl)); (case putsbb14 => (first | (simp only [Act.put, List.setIfInBounds_toArray, List.set_cons_zero, List.set_cons_succ]; first | done | exact rfl) | rfl)); (case' nextsbb14 => skip))
          (refine' GG.grow_lit (GG.BelL.still) rfl ?wtsbb15 ?runsbb15 ?putsbb15 ?nextsbb15; (case wtsbb15 => rfl); (case runsbb15 => (intro w' hS; (obtain ⟨dn, s, hS⟩ := hS); (have pc := keep hS.b PC.out); (have pl := World.block_lt_of_cell? _ _ pc); (have qc := keep hS.b QC.out); (have ql := World.block_lt_of_cell? _ _ qc); (have oc1 := keep hS.b OC1.out); (have ol := World.block_lt_of_cell? _ _ oc1); (have oc2 := keep hS.b OC2.out); (have hpn := HPN.out); clear hS; go_simp; first | done | exact rfl)); (case putsbb15 => (first | (simp only [Act.put, List.setIfInBounds_toArray, List.set_cons_zero, List.set_cons_succ]; first | done | exact rfl) | rfl)); (case' nextsbb15 => skip))
          (refine' GG.grow_lit (GG.BelL.still) rfl ?wtsbb16 ?runsbb16 ?putsbb16 ?nextsbb16; (case wtsbb16 => rfl); (case runsbb16 => (intro w' hS; (obtain ⟨dn, s, hS⟩ := hS); (have pc := keep hS.b PC.out); (have pl := World.block_lt_of_cell? _ _ pc); (have qc := keep hS.b QC.out); (have ql := World.block_lt_of_cell? _ _ qc); (have oc1 := keep hS.b OC1.out); (have ol := World.block_lt_of_cell? _ _ oc1); (have oc2 := keep hS.b OC2.out); (have hpn := HPN.out); clear hS; go_simp; first | done | exact rfl)); (case putsbb16 => (first | (simp only [Act.put, List.setIfInBounds_toArray, List.set_cons_zero, List.set_cons_succ]; first | done | exact rfl) | rfl)); (case' nextsbb16 => skip))
          (refine' GG.grow_lit (GG.BelL.still) rfl ?wtsbb17 ?runsbb17 ?putsbb17 ?nextsbb17; (case wtsbb17 => rfl); (case runsbb17 => (intro w' hS; (obtain ⟨dn, s, hS⟩ := hS); (have pc := keep hS.b PC.out); (have pl := World.block_lt_of_cell? _ _ pc); (have qc := keep hS.b QC.out); (have ql := World.block_lt_of_cell? _ _ qc); (have oc1 := keep hS.b OC1.out); (have ol := World.block_lt_of_cell? _ _ oc1); (have oc2 := keep hS.b OC2.out); (have hpn := HPN.out); clear hS; go_simp; first | done | exact rfl)); (case putsbb17 => (first | (simp only [Act.put, List.setIfInBounds_toArray, List.set_cons_zero, List.set_cons_succ]; first | done | exact rfl) | rfl)); (case' nextsbb17 => skip))
          (refine' GG.grow_lit (GG.BelL.still) rfl ?wtsbb18 ?runsbb18 ?putsbb18 ?nextsbb18; (case wtsbb18 => rfl); (case runsbb18 => (intro w' hS; (obtain ⟨dn, s, hS⟩ := hS); (have pc := keep hS.b PC.out); (have pl := World.block_lt_of_cell? _ _ pc); (have qc := keep hS.b QC.out); (have ql := World.block_lt_of_cell? _ _ qc); (have oc1 := keep hS.b OC1.out); (have ol := World.block_lt_of_cell? _ _ oc1); (have oc2 := keep hS.b OC2.out); (have hpn := HPN.out); clear hS; go_simp; first | done | exact rfl)); (case putsbb18 => (first | (simp only [Act.put, List.setIfInBounds_toArray, List.set_cons_zero, List.set_cons_succ]; first | done | exact rfl) | rfl)); (case' nextsbb18 => skip))
          (refine' GG.grow_lit (GG.BelL.still) rfl ?wtsbb19 ?runsbb19 ?putsbb19 ?nextsbb19; (case wtsbb19 => rfl); (case runsbb19 => (intro w' hS; (obtain ⟨dn, s, hS⟩ := hS); (have pc := keep hS.b PC.out); (have pl := World.block_lt_of_cell? _ _ pc); (have qc := keep hS.b QC.out); (have ql := World.block_lt_of_cell? _ _ qc); (have oc1 := keep hS.b OC1.out); (have ol := World.block_lt_of_cell? _ _ oc1); (have oc2 := keep hS.b OC2.out); (have hpn := HPN.out); clear hS; go_simp; first | done | exact rfl)); (case putsbb19 => (first | (simp only [Act.put, List.setIfInBounds_toArray, List.set_cons_zero, List.set_cons_succ]; first | done | exact rfl) | rfl)); (case' nextsbb19 => skip))
          (refine' GG.grow_lit (GG.BelL.still) rfl ?wtsbb20 ?runsbb20 ?putsbb20 ?nextsbb20; (case wtsbb20 => rfl); (case runsbb20 => (intro w' hS; (obtain ⟨dn, s, hS⟩ := hS); (have pc := keep hS.b PC.out); (have pl := World.block_lt_of_cell? _ _ pc); (have qc := keep hS.b QC.out); (have ql := World.block_lt_of_cell? _ _ qc); (have oc1 := keep hS.b OC1.out); (have ol := World.block_lt_of_cell? _ _ oc1); (have oc2 := keep hS.b OC2.out); (have hpn := HPN.out); clear hS; go_simp; first | done | exact rfl)); (case putsbb20 => (first | (simp only [Act.put, List.setIfInBounds_toArray, List.set_cons_zero, List.set_cons_succ]; first | done | exact rfl) | rfl)); (case' nextsbb20 => skip))
          (refine' GG.grow_lit (GG.BelL.still) rfl ?wtsbb21 ?runsbb21 ?putsbb21 ?nextsbb21; (case wtsbb21 => rfl); (case runsbb21 => (intro w' hS; (obtain ⟨dn, s, hS⟩ := hS); (have pc := keep hS.b PC.out); (have pl := World.block_lt_of_cell? _ _ pc); (have qc := keep hS.b QC.out); (have ql := World.block_lt_of_cell? _ _ qc); (have oc1 := keep hS.b OC1.out); (have ol := World.block_lt_of_cell? _ _ oc1); (have oc2 := keep hS.b OC2.out); (have hpn := HPN.out); clear hS; go_simp; first | done | exact rfl)); (case putsbb21 => (first | (simp only [Act.put, List.setIfInBounds_toArray, List.set_cons_zero, List.set_cons_succ]; first | done | exact rfl) | rfl)); (case' nextsbb21 => skip))
          (refine' GG.grow_lit (GG.BelL.still) rfl ?wtsbb22 ?runsbb22 ?putsbb22 ?nextsbb22; (case wtsbb22 => rfl); (case runsbb22 => (intro w' hS; (obtain ⟨dn, s, hS⟩ := hS); (have pc := keep hS.b PC.out); (have pl := World.block_lt_of_cell? _ _ pc); (have qc := keep hS.b QC.out); (have ql := World.block_lt_of_cell? _ _ qc); (have oc1 := keep hS.b OC1.out); (have ol := World.block_lt_of_cell? _ _ oc1); (have oc2 := keep hS.b OC2.out); (have hpn := HPN.out); clear hS; go_simp; first | done | exact rfl)); (case putsbb22 => (first | (simp only [Act.put, List.setIfInBounds_toArray, List.set_cons_zero, List.set_cons_succ]; first | done | exact rfl) | rfl)); (case' nextsbb22 => skip))
          (refine' GG.grow_lit (GG.BelL.still) rfl ?wtsbb23 ?runsbb23 ?putsbb23 ?nextsbb23; (case wtsbb23 => rfl); (case runsbb23 => (intro w' hS; (obtain ⟨dn, s, hS⟩ := hS); (have pc := keep hS.b PC.out); (have pl := World.block_lt_of_cell? _ _ pc); (have qc := keep hS.b QC.out); (have ql := World.block_lt_of_cell? _ _ qc); (have oc1 := keep hS.b OC1.out); (have ol := World.block_lt_of_cell? _ _ oc1); (have oc2 := keep hS.b OC2.out); (have hpn := HPN.out); clear hS; go_simp; first | done | exact rfl)); (case putsbb23 => (first | (simp only [Act.put, List.setIfInBounds_toArray, List.set_cons_zero, List.set_cons_succ]; first | done | exact rfl) | rfl)); (case' nextsbb23 => skip))
          (refine' GG.grow_lit (GG.BelL.still) rfl ?wtsbb24 ?runsbb24 ?putsbb24 ?nextsbb24; (case wtsbb24 => rfl); (case runsbb24 => (intro w' hS; (obtain ⟨dn, s, hS⟩ := hS); (have pc := keep hS.b PC.out); (have pl := World.block_lt_of_cell? _ _ pc); (have qc := keep hS.b QC.out); (have ql := World.block_lt_of_cell? _ _ qc); (have oc1 := keep hS.b OC1.out); (have ol := World.block_lt_of_cell? _ _ oc1); (have oc2 := keep hS.b OC2.out); (have hpn := HPN.out); clear hS; go_simp; first | done | exact rfl)); (case putsbb24 => (first | (simp only [Act.put, List.setIfInBounds_toArray, List.set_cons_zero, List.set_cons_succ]; first | done | exact rfl) | rfl)); (case' nextsbb24 => skip))
          (refine' GG.grow_lit (GG.BelL.still) rfl ?wtsbb25 ?runsbb25 ?putsbb25 ?nextsbb25; (case wtsbb25 => rfl); (case runsbb25 => (intro w' hS; (obtain ⟨dn, s, hS⟩ := hS); (have pc := keep hS.b PC.out); (have pl := World.block_lt_of_cell? _ _ pc); (have qc := keep hS.b QC.out); (have ql := World.block_lt_of_cell? _ _ qc); (have oc1 := keep hS.b OC1.out); (have ol := World.block_lt_of_cell? _ _ oc1); (have oc2 := keep hS.b OC2.out); (have hpn := HPN.out); clear hS; go_simp; first | done | exact rfl)); (case putsbb25 => (first | (simp only [Act.put, List.setIfInBounds_toArray, List.set_cons_zero, List.set_cons_succ]; first | done | exact rfl) | rfl)); (case' nextsbb25 => skip))
          (refine' GG.grow_lit (GG.BelL.still) rfl ?wtsbb26 ?runsbb26 ?putsbb26 ?nextsbb26; (case wtsbb26 => rfl); (case runsbb26 => (intro w' hS; (obtain ⟨dn, s, hS⟩ := hS); (have pc := keep hS.b PC.out); (have pl := World.block_lt_of_cell? _ _ pc); (have qc := keep hS.b QC.out); (have ql := World.block_lt_of_cell? _ _ qc); (have oc1 := keep hS.b OC1.out); (have ol := World.block_lt_of_cell? _ _ oc1); (have oc2 := keep hS.b OC2.out); (have hpn := HPN.out); clear hS; go_simp; first | done | exact rfl)); (case putsbb26 => (first | (simp only [Act.put, List.setIfInBounds_toArray, List.set_cons_zero, List.set_cons_succ]; first | done | exact rfl) | rfl)); (case' nextsbb26 => skip))
          (refine' GG.grow_lit (GG.BelL.still) rfl ?wtsbb27 ?runsbb27 ?putsbb27 ?nextsbb27; (case wtsbb27 => rfl); (case runsbb27 => (intro w' hS; (obtain ⟨dn, s, hS⟩ := hS); (have pc := keep hS.b PC.out); (have pl := World.block_lt_of_cell? _ _ pc); (have qc := keep hS.b QC.out); (have ql := World.block_lt_of_cell? _ _ qc); (have oc1 := keep hS.b OC1.out); (have ol := World.block_lt_of_cell? _ _ oc1); (have oc2 := keep hS.b OC2.out); (have hpn := HPN.out); clear hS; go_simp; first | done | exact rfl)); (case putsbb27 => (first | (simp only [Act.put, List.setIfInBounds_toArray, List.set_cons_zero, List.set_cons_succ]; first | done | exact rfl) | rfl)); (case' nextsbb27 => skip))
          (refine' GG.grow_lit (GG.BelL.still) rfl ?wtsbb28 ?runsbb28 ?putsbb28 ?nextsbb28; (case wtsbb28 => rfl); (case runsbb28 => (intro w' hS; (obtain ⟨dn, s, hS⟩ := hS); (have pc := keep hS.b PC.out); (have pl := World.block_lt_of_cell? _ _ pc); (have qc := keep hS.b QC.out); (have ql := World.block_lt_of_cell? _ _ qc); (have oc1 := keep hS.b OC1.out); (have ol := World.block_lt_of_cell? _ _ oc1); (have oc2 := keep hS.b OC2.out); (have hpn := HPN.out); clear hS; go_simp; first | done | exact rfl)); (case putsbb28 => (first | (simp only [Act.put, List.setIfInBounds_toArray, List.set_cons_zero, List.set_cons_succ]; first | done | exact rfl) | rfl)); (case' nextsbb28 => skip))
          (refine' GG.grow_lit (GG.BelL.still) rfl ?wtsbb29 ?runsbb29 ?putsbb29 ?nextsbb29; (case wtsbb29 => rfl); (case runsbb29 => (intro w' hS; (obtain ⟨dn, s, hS⟩ := hS); (have pc := keep hS.b PC.out); (have pl := World.block_lt_of_cell? _ _ pc); (have qc := keep hS.b QC.out); (have ql := World.block_lt_of_cell? _ _ qc); (have oc1 := keep hS.b OC1.out); (have ol := World.block_lt_of_cell? _ _ oc1); (have oc2 := keep hS.b OC2.out); (have hpn := HPN.out); clear hS; go_simp; first | done | exact rfl)); (case putsbb29 => (first | (simp only [Act.put, List.setIfInBounds_toArray, List.set_cons_zero, List.set_cons_succ]; first | done | exact rfl) | rfl)); (case' nextsbb29 => skip))
          (refine' GG.grow_lit (GG.BelL.still) rfl ?wtsbb30 ?runsbb30 ?putsbb30 ?nextsbb30; (case wtsbb30 => rfl); (case runsbb30 => (intro w' hS; (obtain ⟨dn, s, hS⟩ := hS); (have pc := keep hS.b PC.out); (have pl := World.block_lt_of_cell? _ _ pc); (have qc := keep hS.b QC.out); (have ql := World.block_lt_of_cell? _ _ qc); (have oc1 := keep hS.b OC1.out); (have ol := World.block_lt_of_cell? _ _ oc1); (have oc2 := keep hS.b OC2.out); (have hpn := HPN.out); clear hS; go_simp; first | done | exact rfl)); (case putsbb30 => (first | (simp only [Act.put, List.setIfInBounds_toArray, List.set_cons_zero, List.set_cons_succ]; first | done | exact rfl) | rfl)); (case' nextsbb30 => skip))
          (refine' GG.grow_lit (GG.BelL.still) rfl ?wtsbb31 ?runsbb31 ?putsbb31 ?nextsbb31; (case wtsbb31 => rfl); (case runsbb31 => (intro w' hS; (obtain ⟨dn, s, hS⟩ := hS); (have pc := keep hS.b PC.out); (have pl := World.block_lt_of_cell? _ _ pc); (have qc := keep hS.b QC.out); (have ql := World.block_lt_of_cell? _ _ qc); (have oc1 := keep hS.b OC1.out); (have ol := World.block_lt_of_cell? _ _ oc1); (have oc2 := keep hS.b OC2.out); (have hpn := HPN.out); clear hS; go_simp; first | done | exact rfl)); (case putsbb31 => (first | (simp only [Act.put, List.setIfInBounds_toArray, List.set_cons_zero, List.set_cons_succ]; first | done | exact rfl) | rfl)); (case' nextsbb31 => skip))
          (refine' GG.grow_lit (GG.BelL.still) rfl ?wtsbb32 ?runsbb32 ?putsbb32 ?nextsbb32; (case wtsbb32 => rfl); (case runsbb32 => (intro w' hS; (obtain ⟨dn, s, hS⟩ := hS); (have pc := keep hS.b PC.out); (have pl := World.block_lt_of_cell? _ _ pc); (have qc := keep hS.b QC.out); (have ql := World.block_lt_of_cell? _ _ qc); (have oc1 := keep hS.b OC1.out); (have ol := World.block_lt_of_cell? _ _ oc1); (have oc2 := keep hS.b OC2.out); (have hpn := HPN.out); clear hS; go_simp; first | done | exact rfl)); (case putsbb32 => (first | (simp only [Act.put, List.setIfInBounds_toArray, List.set_cons_zero, List.set_cons_succ]; first | done | exact rfl) | rfl)); (case' nextsbb32 => skip))
          (refine' GG.grow_lit (GG.BelL.still) rfl ?wtsbb33 ?runsbb33 ?putsbb33 ?nextsbb33; (case wtsbb33 => rfl); (case runsbb33 => (intro w' hS; (obtain ⟨dn, s, hS⟩ := hS); (have pc := keep hS.b PC.out); (have pl := World.block_lt_of_cell? _ _ pc); (have qc := keep hS.b QC.out); (have ql := World.block_lt_of_cell? _ _ qc); (have oc1 := keep hS.b OC1.out); (have ol := World.block_lt_of_cell? _ _ oc1); (have oc2 := keep hS.b OC2.out); (have hpn := HPN.out); clear hS; go_simp; first | done | exact rfl)); (case putsbb33 => (first | (simp only [Act.put, List.setIfInBounds_toArray, List.set_cons_zero, List.set_cons_succ]; first | done | exact rfl) | rfl)); (case' nextsbb33 => skip))
          (refine' GG.grow_lit (GG.BelL.still) rfl ?wtsbb34 ?runsbb34 ?putsbb34 ?nextsbb34; (case wtsbb34 => rfl); (case runsbb34 => (intro w' hS; (obtain ⟨dn, s, hS⟩ := hS); (have pc := keep hS.b PC.out); (have pl := World.block_lt_of_cell? _ _ pc); (have qc := keep hS.b QC.out); (have ql := World.block_lt_of_cell? _ _ qc); (have oc1 := keep hS.b OC1.out); (have ol := World.block_lt_of_cell? _ _ oc1); (have oc2 := keep hS.b OC2.out); (have hpn := HPN.out); clear hS; go_simp; first | done | exact rfl)); (case putsbb34 => (first | (simp only [Act.put, List.setIfInBounds_toArray, List.set_cons_zero, List.set_cons_succ]; first | done | exact rfl) | rfl)); (case' nextsbb34 => skip))
          intro dn s w8 hS _ _
          have pc := keep hS.b PC.out
          have pl := World.block_lt_of_cell? _ _ pc
          have ht8 := HTW.out.old hS.b
          have qc0 := keep hS.b QC.out
          obtain ⟨⟨u9, xc⟩, xf, xl⟩ := ht8.cellS (i := J) (by rw [HSE.out]; exact hJk)
          obtain ⟨w9, hw9⟩ := named (w8.setCell ⟨gs, J, none⟩ (.bool true))
          have ht9 := ht8.setS J true
          have qc := ((Keep.refl (fun b => b ≠ gs) w8).setCell (fun h => h rfl) J (.bool true)).cell qc0 (by have := HBG.out; omega)
          rw [← hw9] at ht9 qc
          have ql := World.block_lt_of_cell? _ _ qc
          obtain ⟨⟨u10, yc⟩, yf, yl⟩ := ht9.cellS (i := I) (by rw [List.length_set, HSE.out]; exact hIk)
          have HR := Lib.hid (ht9.setS I false)
          have e9 := hw9.symm
          clear hS DS0 ht8 ht9 PC QC OC1 OC2 HTW HCR HPL HPN qc0 hw9
          go_wp2_with fail
          clear e9
          go_roundw
          case rel => exact ⟨i + 1, (S2.set J true).set I false, c4, by go_num, HST.out, HR.out⟩
          case measure => simp [intOf]; omega
set_option maxRecDepth 100000 in
theorem lineShares_walks : WalksP 4 Try.f4 := by
  intro H enc W args ds g
  obtain ⟨ps, hA⟩ := g.reads
  obtain ⟨base, hval⟩ := g.okay
  rw [Try.params4] at hA hval
  obtain ⟨v0, vs0, d0, ds0, p0, q0, hargs, rfl, rfl, h0, r0⟩ := trodAll_cons hA
  obtain ⟨v1, vs1, d1, ds1, p1, q1, rfl, rfl, rfl, h1, r1⟩ := trodAll_cons r0
  obtain ⟨rfl, rfl, rfl⟩ := trodAll_nil r1
  obtain rfl : args = #[v0, v1] := Array.toList_inj.1 hargs
  obtain ⟨x0, rfl, rfl, rfl, w0⟩ := open_int Try.underlying5 (hval 0 5 v0 rfl rfl) h0
  obtain ⟨x1, w1⟩ := open_marks (hval 1 33 v1 rfl rfl) h1
  exact shares_walk x0 v1 x1 W (wfu8 w0).1 (wfu8 w0).2 w1

theorem lineShares_row : Rows.LineSharesSaid :=
  OpenClaim.holds_of_wide 4 Try.f4 rfl rfl rfl rfl rfl rfl rfl ⟨rfl, rfl, rfl, rfl, rfl⟩ rfl rfl rfl rfl rfl (by kernel_rfl) Try.func4 (by kernel_rfl)
    (of_decide_eq_true (by kernel_rfl)) (by unfold Func.isWrapper; rw [if_neg (of_decide_eq_false (by kernel_rfl))]; exact ⟨rfl, rfl⟩)
    (fun os started H enc _ => law_plain (s := Rows.lineSharesSpec) Try.func4 (by kernel_rfl) rfl (by kernel_rfl)
      (fun H ds hl => by
        rw [Try.params4] at hl
        match ds, hl with
        | [_, _], _ => exact ⟨rfl, rfl, rfl⟩)
      (by kernel_rfl) os started H enc
      (ChangeSpec.witness6 (enc := enc) (C := Try.checked) false ⟨#[], #[.int .u8 0, .slice none 0 0], []⟩ 8 (by kernel_rfl) (by kernel_rfl) (by kernel_rfl) (by kernel_rfl))
      lineShares_walks)
#print axioms lineShares_row
end Go.Proofs.Ytleheaffipokfaa
