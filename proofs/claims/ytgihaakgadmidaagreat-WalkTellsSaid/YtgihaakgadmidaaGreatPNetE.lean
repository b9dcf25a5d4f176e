/-
  The program's own nets: what is wrong with one first.
-/
import Derived.Test.YtgihaakgadmidaaGreatPNetC
import Derived.Test.YtgihaakgadmidaaGreatA2
namespace Go.Proofs.YtgihaakgadmidaaGreat
open Go.RowKit

theorem fault_in {w : World} {t : TypeId} {u : Value} {p : ByteArray} {n : Int} {r : List (ByteArray × Int)} {e : Int} (h : ErrV w (.iface t u) r e) (g : Nat) (hg : w.heap.size = g) :
    FaultV (w.alloc (.cells #[.string p, .int .i64 n, .iface t u] 158)) (.iface 156 (.pointer (some ⟨g, 0, none⟩))) ((p, n) :: r) e := by
  subst hg
  exact Or.inr ⟨by simp, w.heap.size, _, rfl, by simp, by simp, by simp, h.below (below_new _)⟩
theorem FaultV.none0 {w : World} {v : Value} {e : Int} (h : FaultV w v [] e) : v = .nilIface := by
  rcases h with ⟨_, h⟩ | ⟨h, _⟩
  · exact h
  · exact absurd rfl h
theorem nweight_b (a : Int) (b : Bool) (w : World) (h0 : -9223372036854775808 ≤ a) (h1 : a ≤ 9223372036854775807) (h : wgt a = b) :
    Calls Tryz.prog 99 #[.int .i64 a] w fun e w' => e = .returned (.bool b) ∧ w = w' := by
  subst h
  exact weight_any a w h0 h1

set_option maxHeartbeats 4000000 in
set_option maxRecDepth 100000 in
theorem ncounts_ok (n : NetD) (vq aq tq : Option Addr) (vc ac tc : Nat) (w : World) (hs : NetSmall n) :
    Calls Tryz.prog 78 #[netVal n vq aq tq vc ac tc] w fun e w' => e = .returned .nilIface ∧ Below w.heap.size w w' := by
  obtain ⟨hsv, hsa, hst⟩ := hs
  have d0 : decide ((4096 : Int) < (n.v.length : Int)) = false := decide_eq_false (by omega)
  have d1 : decide ((16384 : Int) < (n.a.length : Int)) = false := decide_eq_false (by omega)
  have d2 : decide ((256 : Int) < (n.t.length : Int)) = false := decide_eq_false (by omega)
  go_enter Tryz.func78, Tryz.ntmps78
  go_wp2_with fail
  go_ret
  exact ⟨rfl, below_new _⟩

set_option maxHeartbeats 4000000 in
set_option maxRecDepth 100000 in
theorem ntypes_any (n : NetD) (vq aq tq : Option Addr) (vc ac tc : Nat) (w : World) (h : NetS w n vq aq tq vc ac tc) (hin0 : InTab n.t) :
    Calls Tryz.prog 79 #[netVal n vq aq tq vc ac tc] w (EPost (firstBad typeFlt 0 n.t).1 (firstBad typeFlt 0 n.t).2 w) := by
  go_enter Tryz.func79, Tryz.ntmps79
  go_wp2_with fail
  obtain ⟨W0, hW0⟩ := named (w.alloc (.cells #[.slice vq n.v.length vc, .slice aq n.a.length ac, .slice tq n.t.length tc] 62))
  rw [← hW0]
  have B0 : Hid (Below w.heap.size w W0) := by rw [hW0]; exact Lib.hid (below_new _)
  have K0 : Hid (Blk W0 w.heap.size #[.slice vq n.v.length vc, .slice aq n.a.length ac, .slice tq n.t.length tc] 62) := by rw [hW0]; exact Lib.hid (Blk.new _ _ _ _ rfl)
  have HS := Lib.hid (h.below B0.out)
  clear h hW0
  go_loopw [3, 4, 5, 9] (fun _ _ _ i wr => ∃ k : Nat, k ≤ n.t.length ∧ i = .int .i64 k ∧ Hid (firstBad (typeFlt) 0 (n.t.take k) = fltOK) ∧ Hid (Below W0.heap.size W0 wr)) (fun _ _ _ i _ => n.t.length - (intOf i).toNat)
  case atStart => exact ⟨0, Nat.zero_le _, rfl, Lib.hid rfl, Lib.hid (Below.refl _ _)⟩
  case round =>
    have hle := HS.out.t.le
    obtain ⟨k, hk, rfl, HT, HBr⟩ := hrel
    have BW := Lib.hid (B0.out.trans (HBr.out.mono B0.out.size))
    by_cases hlt : k < n.t.length
    · have hli : (k : Int) < (n.t.length : Int) := by omega
      obtain ⟨tb, tz, tu, rfl, x0, x1, x2, xt⟩ := (HS.out.below HBr.out).t.at hlt
      have hin := (hin0 n.t[k] (List.getElem_mem _)).2.2
      obtain ⟨⟨I, O, l⟩, eA⟩ : ∃ A, n.t[k] = A := ⟨_, rfl⟩
      rw [eA] at x0 x1 xt hin
      simp only [] at x0 x1 xt hin
      have hbb := World.block_lt_of_cell? wr _ x0
      obtain ⟨uq, uc, rfl⟩ := xt.shape
      have hb1 : Below wr.heap.size wr (wr.alloc (.cells #[.int .i64 I, .int .i64 O, .slice uq l.length uc] 103)) := below_new _
      have XT := Lib.hid (xt.below hb1)
      have HB1 := Lib.hid (HBr.out.trans (hb1.mono HBr.out.size))
      have HI := Lib.hid hin
      have EA := Lib.hid eA
      clear xt hin eA hb1
      go_wp2_with fail
      clear x0 x1 x2 hbb
      refine (tcheck_any I O _ l _ XT.out HI.out).mono ?_
      rintro e wz ⟨v, rfl, hF, hb⟩
      have HB2 := Lib.hid (HB1.out.trans (hb.mono HB1.out.size))
      clear hb HB1 XT
      by_cases hc : (chkT I O l).2 = 0
      · have hz := chkT_zero hc
        have HN : Hid (firstBad typeFlt 0 (n.t.take (k + 1)) = fltOK) := Lib.hid (fb_ok hlt HT.out (by rw [EA.out]; unfold typeFlt; rw [if_pos hc]; rfl))
        rw [hz] at hF
        obtain rfl := hF.none
        clear hF hz hc
        go_wp2_with fail
        go_roundw
        case rel => exact ⟨k + 1, by omega, by go_num, HN, HB2⟩
        case measure => simp [intOf]; omega
      · have HR : Hid (firstBad typeFlt 0 n.t = ((typeB, (k : Int)) :: turnW (chkT I O l), (chkT I O l).2)) := Lib.hid (by
          have ef : typeFlt k n.t[k] = ((typeB, (k : Int)) :: turnW (chkT I O l), (chkT I O l).2) := by rw [EA.out]; unfold typeFlt; rw [if_neg hc]
          exact (fb_bad hlt HT.out (by rw [ef]; exact hc)).trans ef)
        obtain ⟨E, eE⟩ : ∃ E, (chkT I O l).2 = E := ⟨_, rfl⟩
        obtain ⟨P0, PS, eP⟩ : ∃ P0 PS, turnW (chkT I O l) = P0 :: PS := by unfold turnW; rw [if_neg hc]; exact ⟨_, _, rfl⟩
        rw [eE, eP] at hF
        rw [eE, eP] at HR
        obtain ⟨fb, rfl, hE⟩ := hF.iface
        have HE := Lib.hid hE
        clear hF hE eE eP hc
        go_wp2_with fail
        refine (nfault_any _ _ _ _ _).mono ?_
        rintro e w' ⟨rfl, rfl⟩
        go_wp2_with fail
        go_ret
        rw [HR.out]
        exact ⟨_, rfl, fault_in HE.out _ rfl, B0.out.trans ((HB2.out.trans ((below_new _).mono HB2.out.size)).mono B0.out.size)⟩
    · have HT1 : Hid (firstBad (typeFlt) 0 n.t = fltOK) := Lib.hid (by have := HT.out; rwa [List.take_of_length_le (by omega)] at this)
      have hli : ¬ (k : Int) < (n.t.length : Int) := by omega
      go_wp2_with fail
      go_ret
      rw [HT1.out]
      exact ⟨_, rfl, Or.inl ⟨rfl, rfl⟩, BW.out⟩

set_option maxHeartbeats 4000000 in
set_option maxRecDepth 100000 in
theorem nverts_any (n : NetD) (vq aq tq : Option Addr) (vc ac tc : Nat) (w : World) (h : NetS w n vq aq tq vc ac tc) :
    Calls Tryz.prog 80 #[netVal n vq aq tq vc ac tc] w (EPost (firstBad (vertFlt n.t.length) 0 n.v).1 (firstBad (vertFlt n.t.length) 0 n.v).2 w) := by
  go_enter Tryz.func80, Tryz.ntmps80
  go_wp2_with fail
  obtain ⟨W0, hW0⟩ := named (w.alloc (.cells #[.slice vq n.v.length vc, .slice aq n.a.length ac, .slice tq n.t.length tc] 62))
  rw [← hW0]
  have B0 : Hid (Below w.heap.size w W0) := by rw [hW0]; exact Lib.hid (below_new _)
  have K0 : Hid (Blk W0 w.heap.size #[.slice vq n.v.length vc, .slice aq n.a.length ac, .slice tq n.t.length tc] 62) := by rw [hW0]; exact Lib.hid (Blk.new _ _ _ _ rfl)
  have HS := Lib.hid (h.below B0.out)
  clear h hW0
  go_loopw [3, 4, 8] (fun _ _ i wr => ∃ k : Nat, k ≤ n.v.length ∧ i = .int .i64 k ∧ Hid (firstBad (vertFlt n.t.length) 0 (n.v.take k) = fltOK) ∧ Hid (Below W0.heap.size W0 wr)) (fun _ _ i _ => n.v.length - (intOf i).toNat)
  case atStart => exact ⟨0, Nat.zero_le _, rfl, Lib.hid rfl, Lib.hid (Below.refl _ _)⟩
  case round =>
    have hle := HS.out.v.le
    obtain ⟨k, hk, rfl, HT, HBr⟩ := hrel
    have BW := Lib.hid (B0.out.trans (HBr.out.mono B0.out.size))
    by_cases hlt : k < n.v.length
    · have hli : (k : Int) < (n.v.length : Int) := by omega
      obtain ⟨vb, vo, rfl, x0, x1, x2⟩ := (HS.out.below HBr.out).v.at hlt
      obtain ⟨⟨X, Y, T⟩, eA⟩ : ∃ A, n.v[k] = A := ⟨_, rfl⟩
      rw [eA] at x0 x1 x2
      simp only [] at x0 x1 x2
      have hbb := World.block_lt_of_cell? wr _ x0
      have HB2 : Hid (Below W0.heap.size W0 (wr.alloc (.cells #[.int .i64 X, .int .i64 Y, .int .i64 T] 102))) := Lib.hid (HBr.out.trans ((below_new _).mono HBr.out.size))
      have KN2 := Lib.hid (K0.out.keep HB2.out)
      have EA := Lib.hid eA
      obtain ⟨m0, m1, m2, -, -, -⟩ := KN2.out.o3
      clear eA
      go_wp2_with fail
      clear x0 x1 x2 m0 m1 m2 hbb
      cases hX : coordB X with
      | false =>
        have CX := Lib.hid hX
        refine (ncoord_is X false _ CX.out).mono ?_
        rintro e w' ⟨rfl, rfl⟩
        go_wp2_with fail
        have HR : Hid (firstBad (vertFlt n.t.length) 0 n.v = ([(vertB, (k : Int))], 1)) := Lib.hid (by
          have ef : vertFlt n.t.length k n.v[k] = ([(vertB, (k : Int))], 1) := by rw [EA.out]; unfold vertFlt; rw [if_pos CX.out]
          exact (fb_bad hlt HT.out (by rw [ef]; simp)).trans ef)
        refine (nfault_any _ _ _ _ _).mono ?_
        rintro e w' ⟨rfl, rfl⟩
        go_wp2_with fail
        go_ret
        rw [HR.out]
        exact ⟨_, rfl, fault_laid _ _ (by simp) _ _ _, B0.out.trans ((HB2.out.trans ((below_new _).mono HB2.out.size)).mono B0.out.size)⟩
      | true =>
        have CX := Lib.hid hX
        refine (ncoord_is X true _ CX.out).mono ?_
        rintro e w' ⟨rfl, rfl⟩
        go_wp2_with fail
        cases hY : coordB Y with
        | false =>
          have CY := Lib.hid hY
          refine (ncoord_is Y false _ CY.out).mono ?_
          rintro e w' ⟨rfl, rfl⟩
          go_wp2_with fail
          have HR : Hid (firstBad (vertFlt n.t.length) 0 n.v = ([(vertB, (k : Int))], 1)) := Lib.hid (by
            have ef : vertFlt n.t.length k n.v[k] = ([(vertB, (k : Int))], 1) := by rw [EA.out]; unfold vertFlt; rw [if_neg (by simp [CX.out]), if_pos CY.out]
            exact (fb_bad hlt HT.out (by rw [ef]; simp)).trans ef)
          refine (nfault_any _ _ _ _ _).mono ?_
          rintro e w' ⟨rfl, rfl⟩
          go_wp2_with fail
          go_ret
          rw [HR.out]
          exact ⟨_, rfl, fault_laid _ _ (by simp) _ _ _, B0.out.trans ((HB2.out.trans ((below_new _).mono HB2.out.size)).mono B0.out.size)⟩
        | true =>
          have CY := Lib.hid hY
          refine (ncoord_is Y true _ CY.out).mono ?_
          rintro e w' ⟨rfl, rfl⟩
          obtain ⟨m0, m1, m2, -, -, -⟩ := KN2.out.o3
          go_wp2_with fail
          clear m0 m1 m2
          by_cases hT : 0 ≤ T ∧ T < (n.t.length : Int)
          · have HTT := Lib.hid (decide_eq_true hT)
            have HN : Hid (firstBad (vertFlt n.t.length) 0 (n.v.take (k + 1)) = fltOK) := Lib.hid (fb_ok hlt HT.out (by rw [EA.out]; unfold vertFlt; rw [if_neg (by simp [CX.out]), if_neg (by simp [CY.out]), if_neg (by simp only []; omega), if_neg (by simp only []; omega)]; rfl))
            clear hT
            refine (namong_is _ _ true _ HTT.out).mono ?_
            rintro e w' ⟨rfl, rfl⟩
            go_wp2_with fail
            go_roundw
            case rel => exact ⟨k + 1, by omega, by go_num, HN, HB2⟩
            case measure => simp [intOf]; omega
          · have HTT := Lib.hid (decide_eq_false hT)
            have HT9 := Lib.hid hT
            clear hT
            refine (namong_is _ _ false _ HTT.out).mono ?_
            rintro e w' ⟨rfl, rfl⟩
            go_wp2_with fail
            have HR : Hid (firstBad (vertFlt n.t.length) 0 n.v = ([(vertB, (k : Int))], 5)) := Lib.hid (by
              have ef : vertFlt n.t.length k n.v[k] = ([(vertB, (k : Int))], 5) := by rw [EA.out]; unfold vertFlt; rw [if_neg (by simp [CX.out]), if_neg (by simp [CY.out])]; have := HT9.out; by_cases h0 : T < 0; (· rw [if_pos h0]); (· rw [if_neg h0, if_pos (by simp only []; omega)])
              exact (fb_bad hlt HT.out (by rw [ef]; simp)).trans ef)
            refine (nfault_any _ _ _ _ _).mono ?_
            rintro e w' ⟨rfl, rfl⟩
            go_wp2_with fail
            go_ret
            rw [HR.out]
            exact ⟨_, rfl, fault_laid _ _ (by simp) _ _ _, B0.out.trans ((HB2.out.trans ((below_new _).mono HB2.out.size)).mono B0.out.size)⟩
    · have HT1 : Hid (firstBad (vertFlt n.t.length) 0 n.v = fltOK) := Lib.hid (by have := HT.out; rwa [List.take_of_length_le (by omega)] at this)
      have hli : ¬ (k : Int) < (n.v.length : Int) := by omega
      go_wp2_with fail
      go_ret
      rw [HT1.out]
      exact ⟨_, rfl, Or.inl ⟨rfl, rfl⟩, BW.out⟩

set_option maxHeartbeats 4000000 in
set_option maxRecDepth 100000 in
theorem narcs_any (n : NetD) (vq aq tq : Option Addr) (vc ac tc : Nat) (w : World) (h : NetS w n vq aq tq vc ac tc) (hin0 : InTri n.a) :
    Calls Tryz.prog 81 #[netVal n vq aq tq vc ac tc] w (EPost (firstBad (arcFlt n.v.length) 0 n.a).1 (firstBad (arcFlt n.v.length) 0 n.a).2 w) := by
  go_enter Tryz.func81, Tryz.ntmps81
  go_wp2_with fail
  obtain ⟨W0, hW0⟩ := named (w.alloc (.cells #[.slice vq n.v.length vc, .slice aq n.a.length ac, .slice tq n.t.length tc] 62))
  rw [← hW0]
  have B0 : Hid (Below w.heap.size w W0) := by rw [hW0]; exact Lib.hid (below_new _)
  have K0 : Hid (Blk W0 w.heap.size #[.slice vq n.v.length vc, .slice aq n.a.length ac, .slice tq n.t.length tc] 62) := by rw [hW0]; exact Lib.hid (Blk.new _ _ _ _ rfl)
  have HS := Lib.hid (h.below B0.out)
  clear h hW0
  go_loopw [3, 4, 8] (fun _ _ i wr => ∃ k : Nat, k ≤ n.a.length ∧ i = .int .i64 k ∧ Hid (firstBad (arcFlt n.v.length) 0 (n.a.take k) = fltOK) ∧ Hid (Below W0.heap.size W0 wr)) (fun _ _ i _ => n.a.length - (intOf i).toNat)
  case atStart => exact ⟨0, Nat.zero_le _, rfl, Lib.hid rfl, Lib.hid (Below.refl _ _)⟩
  case round =>
    have hle := HS.out.a.le
    obtain ⟨k, hk, rfl, HT, HBr⟩ := hrel
    have BW := Lib.hid (B0.out.trans (HBr.out.mono B0.out.size))
    by_cases hlt : k < n.a.length
    · have hli : (k : Int) < (n.a.length : Int) := by omega
      obtain ⟨ab, ao, rfl, x0, x1, x2⟩ := (HS.out.below HBr.out).a.at hlt
      have hin := hin0 n.a[k] (List.getElem_mem _)
      obtain ⟨⟨F, T, Q⟩, eA⟩ : ∃ A, n.a[k] = A := ⟨_, rfl⟩
      rw [eA] at x0 x1 x2 hin
      simp only [] at x0 x1 x2 hin
      have hbb := World.block_lt_of_cell? wr _ x0
      have HB2 : Hid (Below W0.heap.size W0 (wr.alloc (.cells #[.int .i64 F, .int .i64 T, .int .i64 Q] 98))) := Lib.hid (HBr.out.trans ((below_new _).mono HBr.out.size))
      have KN2 := Lib.hid (K0.out.keep HB2.out)
      have EA := Lib.hid eA
      have HQ := Lib.hid hin.2.2
      obtain ⟨m0, m1, m2, -, -, -⟩ := KN2.out.o3
      clear eA hin
      go_wp2_with fail
      clear x0 x1 x2 hbb
      by_cases hF : 0 ≤ F ∧ F < (n.v.length : Int)
      · have HF := Lib.hid (decide_eq_true hF)
        have HF9 := Lib.hid hF
        clear hF
        refine (namong_is _ _ true _ HF.out).mono ?_
        rintro e w' ⟨rfl, rfl⟩
        go_wp2_with fail
        by_cases hT : 0 ≤ T ∧ T < (n.v.length : Int)
        · have HTT := Lib.hid (decide_eq_true hT)
          have HT9 := Lib.hid hT
          clear hT m0 m1 m2
          refine (namong_is _ _ true _ HTT.out).mono ?_
          rintro e w' ⟨rfl, rfl⟩
          go_wp2_with fail
          cases hQ : wgt Q with
          | false =>
            have CQ := Lib.hid hQ
            refine (nweight_b Q false _ HQ.out.1 HQ.out.2 CQ.out).mono ?_
            rintro e w' ⟨rfl, rfl⟩
            go_wp2_with fail
            have HR : Hid (firstBad (arcFlt n.v.length) 0 n.a = ([(arcB, (k : Int))], 8)) := Lib.hid (by
              have ef : arcFlt n.v.length k n.a[k] = ([(arcB, (k : Int))], 8) := by rw [EA.out]; unfold arcFlt; have h1 := HF9.out; have h2 := HT9.out; rw [if_neg (by simp only []; omega), if_neg (by simp only []; omega), if_neg (by simp only []; omega), if_neg (by simp only []; omega), if_pos CQ.out]
              exact (fb_bad hlt HT.out (by rw [ef]; simp)).trans ef)
            refine (nfault_any _ _ _ _ _).mono ?_
            rintro e w' ⟨rfl, rfl⟩
            go_wp2_with fail
            go_ret
            rw [HR.out]
            exact ⟨_, rfl, fault_laid _ _ (by simp) _ _ _, B0.out.trans ((HB2.out.trans ((below_new _).mono HB2.out.size)).mono B0.out.size)⟩
          | true =>
            have CQ := Lib.hid hQ
            have HN : Hid (firstBad (arcFlt n.v.length) 0 (n.a.take (k + 1)) = fltOK) := Lib.hid (fb_ok hlt HT.out (by have h1 := HF9.out; have h2 := HT9.out; rw [EA.out]; unfold arcFlt; rw [if_neg (by simp only []; omega), if_neg (by simp only []; omega), if_neg (by simp only []; omega), if_neg (by simp only []; omega), if_neg (by simp [CQ.out])]; rfl))
            refine (nweight_b Q true _ HQ.out.1 HQ.out.2 CQ.out).mono ?_
            rintro e w' ⟨rfl, rfl⟩
            go_wp2_with fail
            go_roundw
            case rel => exact ⟨k + 1, by omega, by go_num, HN, HB2⟩
            case measure => simp [intOf]; omega
        · have HTT := Lib.hid (decide_eq_false hT)
          have HT9 := Lib.hid hT
          clear hT m0 m1 m2
          refine (namong_is _ _ false _ HTT.out).mono ?_
          rintro e w' ⟨rfl, rfl⟩
          go_wp2_with fail
          have HR : Hid (firstBad (arcFlt n.v.length) 0 n.a = ([(arcB, (k : Int))], 5)) := Lib.hid (by
            have ef : arcFlt n.v.length k n.a[k] = ([(arcB, (k : Int))], 5) := by rw [EA.out]; unfold arcFlt; have h1 := HF9.out; have h2 := HT9.out; rw [if_neg (by simp only []; omega), if_neg (by simp only []; omega)]; by_cases h0 : T < 0; (· rw [if_pos h0]); (· rw [if_neg h0, if_pos (by simp only []; omega)])
            exact (fb_bad hlt HT.out (by rw [ef]; simp)).trans ef)
          refine (nfault_any _ _ _ _ _).mono ?_
          rintro e w' ⟨rfl, rfl⟩
          go_wp2_with fail
          go_ret
          rw [HR.out]
          exact ⟨_, rfl, fault_laid _ _ (by simp) _ _ _, B0.out.trans ((HB2.out.trans ((below_new _).mono HB2.out.size)).mono B0.out.size)⟩
      · have HF := Lib.hid (decide_eq_false hF)
        have HF9 := Lib.hid hF
        clear hF m0 m1 m2
        refine (namong_is _ _ false _ HF.out).mono ?_
        rintro e w' ⟨rfl, rfl⟩
        go_wp2_with fail
        have HR : Hid (firstBad (arcFlt n.v.length) 0 n.a = ([(arcB, (k : Int))], 5)) := Lib.hid (by
          have ef : arcFlt n.v.length k n.a[k] = ([(arcB, (k : Int))], 5) := by rw [EA.out]; unfold arcFlt; have h1 := HF9.out; by_cases h0 : F < 0; (· rw [if_pos h0]); (· rw [if_neg h0, if_pos (by simp only []; omega)])
          exact (fb_bad hlt HT.out (by rw [ef]; simp)).trans ef)
        refine (nfault_any _ _ _ _ _).mono ?_
        rintro e w' ⟨rfl, rfl⟩
        go_wp2_with fail
        go_ret
        rw [HR.out]
        exact ⟨_, rfl, fault_laid _ _ (by simp) _ _ _, B0.out.trans ((HB2.out.trans ((below_new _).mono HB2.out.size)).mono B0.out.size)⟩
    · have HT1 : Hid (firstBad (arcFlt n.v.length) 0 n.a = fltOK) := Lib.hid (by have := HT.out; rwa [List.take_of_length_le (by omega)] at this)
      have hli : ¬ (k : Int) < (n.a.length : Int) := by omega
      go_wp2_with fail
      go_ret
      rw [HT1.out]
      exact ⟨_, rfl, Or.inl ⟨rfl, rfl⟩, BW.out⟩

theorem nat_of' {a : Int} {k : Nat} (h0 : 0 ≤ a) (h1 : a < k) : ∃ j : Nat, a = j ∧ j < k := ⟨a.toNat, by omega, by omega⟩

set_option maxHeartbeats 4000000 in
set_option maxRecDepth 100000 in
theorem nends_any (n : NetD) (vq aq tq : Option Addr) (vc ac tc : Nat) (w : World) (h : NetS w n vq aq tq vc ac tc) (hin : ArcsIn n) (hsv : n.v.length ≤ 4096) (hsa : n.a.length ≤ 16384) (hvt0 : ∀ k (h : k < n.v.length), 0 ≤ n.v[k].2.2 ∧ n.v[k].2.2 < n.t.length) :
    Calls Tryz.prog 82 #[netVal n vq aq tq vc ac tc] w (EPost (firstBad (degFlt n) 0 n.v).1 (firstBad (degFlt n) 0 n.v).2 w) := by
  have HIN := Lib.hid hin
  clear hin
  go_enter Tryz.func82, Tryz.ntmps82
  go_wp2_with fail
  obtain ⟨WB, hWB⟩ := named (w.alloc (.cells #[.slice vq n.v.length vc, .slice aq n.a.length ac, .slice tq n.t.length tc] 62))
  rw [← hWB]
  have BB : Hid (Below w.heap.size w WB) := by rw [hWB]; exact Lib.hid (below_new _)
  have KB : Hid (Blk WB w.heap.size #[.slice vq n.v.length vc, .slice aq n.a.length ac, .slice tq n.t.length tc] 62) := by rw [hWB]; exact Lib.hid (Blk.new _ _ _ _ rfl)
  have HSB := Lib.hid (h.below BB.out)
  clear h hWB
  obtain ⟨c0, c1, c2, -, -, -⟩ := KB.out.o3
  go_wp2_with fail
  clear c0 c1 c2
  refine (endsof_any n vq aq tq vc ac tc _ HSB.out HIN.out hsv hsa).mono ?_
  rintro e w2 ⟨ev, rfl, ⟨bi, bo, ci, co, rfl, ki, ko, -, -⟩, hb⟩
  have HB := Lib.hid hb
  obtain ⟨W0, hW0⟩ := named (w2.alloc (.cells #[.slice (some ⟨bi, 0, none⟩) n.v.length n.v.length, .slice (some ⟨bo, 0, none⟩) n.v.length n.v.length, .slice (some ⟨ci, 0, none⟩) n.a.length n.a.length, .slice (some ⟨co, 0, none⟩) n.a.length n.a.length] 147))
  have hb2 : Below w2.heap.size w2 W0 := by rw [hW0]; exact below_new _
  have hb3 := HB.out.trans (hb2.mono HB.out.size)
  have KE : Hid (Blk W0 w2.heap.size #[.slice (some ⟨bi, 0, none⟩) n.v.length n.v.length, .slice (some ⟨bo, 0, none⟩) n.v.length n.v.length, .slice (some ⟨ci, 0, none⟩) n.a.length n.a.length, .slice (some ⟨co, 0, none⟩) n.a.length n.a.length] 147) := by rw [hW0]; exact Lib.hid (Blk.new _ _ _ _ rfl)
  have KI := Lib.hid (ki.keep hb2)
  have KO := Lib.hid (ko.keep hb2)
  have K0 := Lib.hid (KB.out.keep hb3)
  have HS := Lib.hid (HSB.out.below hb3)
  have B0 := Lib.hid (BB.out.trans (hb3.mono BB.out.size))
  have HW0 := Lib.hid hW0
  obtain ⟨c0, c1, c2, -, -, -⟩ := K0.out.o3
  rw [hW0] at c0 c1 c2
  clear ki ko hb hb2 hb3 KB HSB BB HB hW0
  go_wp2_with fail
  rw [← HW0.out]
  clear c0 c1 c2
  go_loopw [4, 5, 6, 7, 8, 14] (fun _ _ _ _ _ i wr => ∃ k : Nat, k ≤ n.v.length ∧ i = .int .i64 k ∧ Hid (firstBad (degFlt n) 0 (n.v.take k) = fltOK) ∧ Hid (Below W0.heap.size W0 wr)) (fun _ _ _ _ _ i _ => n.v.length - (intOf i).toNat)
  case atStart => exact ⟨0, Nat.zero_le _, rfl, Lib.hid rfl, Lib.hid (Below.refl _ _)⟩
  case round =>
    have hle := HS.out.v.le
    obtain ⟨k, hk, rfl, HT, HBr⟩ := hrel
    have BW := Lib.hid (B0.out.trans (HBr.out.mono B0.out.size))
    by_cases hlt : k < n.v.length
    · have hli : (k : Int) < (n.v.length : Int) := by omega
      have hvt := hvt0 k hlt
      obtain ⟨vb, vo, rfl, x0, x1, x2⟩ := (HS.out.below HBr.out).v.at hlt
      obtain ⟨⟨X, Y, T⟩, eA⟩ : ∃ A, n.v[k] = A := ⟨_, rfl⟩
      rw [eA] at x0 x1 x2 hvt
      simp only [] at x0 x1 x2 hvt
      obtain ⟨kt, rfl, hkt⟩ := nat_of' hvt.1 hvt.2
      have hti : (kt : Int) < (n.t.length : Int) := by omega
      obtain ⟨tb, tz, tu, rfl, y0, y1, y2, yt⟩ := (HS.out.below HBr.out).t.at hkt
      obtain ⟨⟨I, O, l⟩, eT⟩ : ∃ A, n.t[kt] = A := ⟨_, rfl⟩
      rw [eT] at y0 y1 yt
      simp only [] at y0 y1 yt
      obtain ⟨uq, uc, rfl⟩ := yt.shape
      have HTB : Hid (n.tab n.v[k].2.2 = (I, O, l)) := Lib.hid (by rw [eA]; simp only []; rw [NetGood.tab_at kt hkt, eT])
      have hbb := World.block_lt_of_cell? wr _ x0
      have hbt := World.block_lt_of_cell? wr _ y0
      obtain ⟨WA, hWA⟩ := named (wr.alloc (.cells #[.int .i64 X, .int .i64 Y, .int .i64 kt] 102))
      have hb1 : Below wr.heap.size wr WA := by rw [hWA]; exact below_new _
      have KV : Hid (Blk WA wr.heap.size #[.int .i64 X, .int .i64 Y, .int .i64 kt] 102) := by rw [hWA]; exact Lib.hid (Blk.new _ _ _ _ rfl)
      have Y0 := Lib.hid (keep hb1 y0)
      have Y1 := Lib.hid (keep hb1 y1)
      have Y2 := Lib.hid (keep hb1 y2)
      have HBT := Lib.hid (Nat.lt_of_lt_of_le hbt hb1.size)
      have HB3 := Lib.hid (HBr.out.trans (hb1.mono HBr.out.size))
      have KN2 := Lib.hid (K0.out.keep HB3.out)
      have KE2 := Lib.hid (KE.out.keep HB3.out)
      obtain ⟨CI, eCI⟩ : ∃ CI, insC n.a k = CI := ⟨_, rfl⟩
      obtain ⟨CO, eCO⟩ : ∃ CO, outsC n.a k = CO := ⟨_, rfl⟩
      have IC : Hid (WA.cell? ⟨bi, k, none⟩ = some (.int .i64 CI)) := Lib.hid ((KI.out.keep HB3.out).cell k ((arrC_at _ hlt).trans (by rw [eCI])))
      have OC : Hid (WA.cell? ⟨bo, k, none⟩ = some (.int .i64 CO)) := Lib.hid ((KO.out.keep HB3.out).cell k ((arrC_at _ hlt).trans (by rw [eCO])))
      have ECI := Lib.hid eCI
      have ECO := Lib.hid eCO
      have HWA := Lib.hid hWA
      clear eA eT eCI eCO yt y0 y1 y2 hb1 hbt hWA
      go_wp2_with fail
      rw [← HWA.out]
      clear x0 x1 x2 hbb
      have hGS : Grows (fun w' => Below WA.heap.size WA w') := Grows.below WA
      refine' wp_growL _ (fun w' => Below WA.heap.size WA w') [[], [0], [], [1, 2], [3], [], [5], [], [6, 7], [8], [4], [9]] (Fact.lit _ :: Fact.lit _ :: Fact.lit _ :: Fact.lit _ :: Fact.lit _ :: Fact.lit _ :: Fact.lit _ :: Fact.lit _ :: Fact.lit _ :: Fact.lit _ :: Fact.lit _ :: Fact.lit _ :: []) (by kernel_rfl) rfl (by kernel_rfl) (Below.refl _ _).drew ?seqends
      case' seqends => skip
      iterate 12 ((first | (apply grow_skip; (case hf => rfl); (case hw => rfl)) | (apply grow_lit; (case hf => rfl); (case hw => rfl); (case hrun => (intro w' hS H; clear H; (obtain ⟨e0, e1, e2, e3, -, -, -, -⟩ := (KE2.out.keep hS).o4); (have ic := keep hS IC.out); (have oc := keep hS OC.out); clear hS; go_simp; first | done | exact rfl)))); (case hc => (simp only [Act.put, List.setIfInBounds_toArray, List.set_cons_zero, List.set_cons_succ]; first | done | exact rfl)); (try (case hj => rfl)))
      intro w5 hb _
      have HB5 := Lib.hid (HB3.out.trans (hb.mono HB3.out.size))
      have KN5 := Lib.hid (KN2.out.keep hb)
      have KV5 := Lib.hid (KV.out.keep hb)
      have y0 := keep hb Y0.out
      have y1 := keep hb Y1.out
      have y2 := keep hb Y2.out
      have hbt := Nat.lt_of_lt_of_le HBT.out hb.size
      obtain ⟨m0, m1, m2, -, -, -⟩ := KN5.out.o3
      obtain ⟨v0, v1, v2, -, -, -⟩ := KV5.out.o3
      clear hb hGS HB3 KN2 KV Y0 Y1 Y2 IC OC
      by_cases g1 : 16 < CI
      · have d1 : decide (16 < CI) = true := decide_eq_true g1
        go_wp2_with fail
        have HR : Hid (firstBad (degFlt n) 0 n.v = ([(vertB, (k : Int))], 4)) := Lib.hid (by
          have ef : degFlt n k n.v[k] = ([(vertB, (k : Int))], 4) := by unfold degFlt; rw [ECI.out, if_pos g1]
          exact (fb_bad hlt HT.out (by rw [ef]; simp)).trans ef)
        refine (nfault_any _ _ _ _ _).mono ?_
        rintro e w' ⟨rfl, rfl⟩
        go_wp2_with fail
        go_ret
        rw [HR.out]
        exact ⟨_, rfl, fault_laid _ _ (by simp) _ _ _, B0.out.trans ((HB5.out.trans ((below_new _).mono HB5.out.size)).mono B0.out.size)⟩
      · have d1 : decide (16 < CI) = false := decide_eq_false g1
        by_cases g2 : 16 < CO
        · have d2 : decide (16 < CO) = true := decide_eq_true g2
          go_wp2_with fail
          have HR : Hid (firstBad (degFlt n) 0 n.v = ([(vertB, (k : Int))], 4)) := Lib.hid (by
            have ef : degFlt n k n.v[k] = ([(vertB, (k : Int))], 4) := by unfold degFlt; rw [ECI.out, if_neg (by omega), ECO.out, if_pos g2]
            exact (fb_bad hlt HT.out (by rw [ef]; simp)).trans ef)
          refine (nfault_any _ _ _ _ _).mono ?_
          rintro e w' ⟨rfl, rfl⟩
          go_wp2_with fail
          go_ret
          rw [HR.out]
          exact ⟨_, rfl, fault_laid _ _ (by simp) _ _ _, B0.out.trans ((HB5.out.trans ((below_new _).mono HB5.out.size)).mono B0.out.size)⟩
        · have d2 : decide (16 < CO) = false := decide_eq_false g2
          have HB6 : Hid (Below W0.heap.size W0 (w5.alloc (.cells #[.int .i64 I, .int .i64 O, .slice uq l.length uc] 103))) := Lib.hid (HB5.out.trans ((below_new _).mono HB5.out.size))
          by_cases g3 : CI = I
          · have e3 : (I != CI) = false := by simp [g3]
            by_cases g4 : CO = O
            · have e4 : (O != CO) = false := by simp [g4]
              have HN : Hid (firstBad (degFlt n) 0 (n.v.take (k + 1)) = fltOK) := Lib.hid (fb_ok hlt HT.out (by unfold degFlt; rw [HTB.out, ECI.out, ECO.out, if_neg (by omega), if_neg (by omega), if_neg (by simpa using g3), if_neg (by simpa using g4)]; rfl))
              clear g3 g4
              go_wp2_with fail
              clear y0 y1 y2 m0 m1 m2 v0 v1 v2
              go_roundw
              case rel => exact ⟨k + 1, by omega, by go_num, HN, HB6⟩
              case measure => simp [intOf]; omega
            · have e4 : (O != CO) = true := by simpa using fun e : O = CO => g4 e.symm
              go_wp2_with fail
              have HR : Hid (firstBad (degFlt n) 0 n.v = ([(vertB, (k : Int))], 9)) := Lib.hid (by
                have ef : degFlt n k n.v[k] = ([(vertB, (k : Int))], 9) := by unfold degFlt; rw [HTB.out, ECI.out, if_neg (by omega), ECO.out, if_neg (by omega), if_neg (by simpa using g3), if_pos g4]
                exact (fb_bad hlt HT.out (by rw [ef]; simp)).trans ef)
              refine (nfault_any _ _ _ _ _).mono ?_
              rintro e w' ⟨rfl, rfl⟩
              go_wp2_with fail
              go_ret
              rw [HR.out]
              exact ⟨_, rfl, fault_laid _ _ (by simp) _ _ _, B0.out.trans ((HB6.out.trans ((below_new _).mono HB6.out.size)).mono B0.out.size)⟩
          · have e3 : (I != CI) = true := by simpa using fun e : I = CI => g3 e.symm
            go_wp2_with fail
            have HR : Hid (firstBad (degFlt n) 0 n.v = ([(vertB, (k : Int))], 9)) := Lib.hid (by
              have ef : degFlt n k n.v[k] = ([(vertB, (k : Int))], 9) := by unfold degFlt; rw [HTB.out, ECI.out, if_neg (by omega), ECO.out, if_neg (by omega), if_pos g3]
              exact (fb_bad hlt HT.out (by rw [ef]; simp)).trans ef)
            refine (nfault_any _ _ _ _ _).mono ?_
            rintro e w' ⟨rfl, rfl⟩
            go_wp2_with fail
            go_ret
            rw [HR.out]
            exact ⟨_, rfl, fault_laid _ _ (by simp) _ _ _, B0.out.trans ((HB6.out.trans ((below_new _).mono HB6.out.size)).mono B0.out.size)⟩
    · have HT1 : Hid (firstBad (degFlt n) 0 n.v = fltOK) := Lib.hid (by have := HT.out; rwa [List.take_of_length_le (by omega)] at this)
      have hli : ¬ (k : Int) < (n.v.length : Int) := by omega
      go_wp2_with fail
      go_ret
      rw [HT1.out]
      exact ⟨_, rfl, Or.inl ⟨rfl, rfl⟩, BW.out⟩

theorem chkN_small {n : NetD} (h : NetSmall n) : chkN n = if (firstBad typeFlt 0 n.t).2 ≠ 0 then firstBad typeFlt 0 n.t else if (firstBad (vertFlt n.t.length) 0 n.v).2 ≠ 0 then firstBad (vertFlt n.t.length) 0 n.v else if (firstBad (arcFlt n.v.length) 0 n.a).2 ≠ 0 then firstBad (arcFlt n.v.length) 0 n.a else firstBad (degFlt n) 0 n.v := by
  unfold chkN
  rw [if_neg (by have := h.v; omega), if_neg (by have := h.a; omega), if_neg (by have := h.t; omega)]

/-- What is told of a fault that is none, or one. -/
def FltIs (f : Flt) : Prop := f = fltOK ∨ f.1 ≠ [] ∧ f.2 ≠ 0
theorem fb_is {α : Type} {f : Int → α → Flt} (h : ∀ k x, FltIs (f k x)) : ∀ (k : Int) (l : List α), FltIs (firstBad f k l)
  | _, [] => Or.inl rfl
  | k, x :: r => by
    unfold firstBad
    split
    · exact fb_is h (k + 1) r
    · exact h k x
theorem typeFlt_is (k : Int) (t : Tab) : FltIs (typeFlt k t) := by
  unfold typeFlt
  split
  · exact Or.inl rfl
  · rename_i h; exact Or.inr ⟨by simp, h⟩
theorem vertFlt_is (m k : Int) (v : Tri) : FltIs (vertFlt m k v) := by
  unfold vertFlt
  repeat' split
  all_goals first | exact Or.inl rfl | exact Or.inr ⟨by simp, by simp⟩
theorem arcFlt_is (m k : Int) (v : Tri) : FltIs (arcFlt m k v) := by
  unfold arcFlt
  repeat' split
  all_goals first | exact Or.inl rfl | exact Or.inr ⟨by simp, by simp⟩
theorem degFlt_is (n : NetD) (k : Int) (v : Tri) : FltIs (degFlt n k v) := by
  unfold degFlt
  repeat' split
  all_goals first | exact Or.inl rfl | exact Or.inr ⟨by simp, by simp⟩
theorem chkN_is (n : NetD) : FltIs (chkN n) := by
  unfold chkN
  split
  · exact Or.inr ⟨by simp, by simp⟩
  split
  · exact Or.inr ⟨by simp, by simp⟩
  split
  · exact Or.inr ⟨by simp, by simp⟩
  split
  · exact fb_is typeFlt_is _ _
  split
  · exact fb_is (vertFlt_is _) _ _
  split
  · exact fb_is (arcFlt_is _) _ _
  exact fb_is (degFlt_is n) _ _
theorem EPost.split {F : Flt} {w : World} {ev : Ending} {w' : World} (h : EPost F.1 F.2 w ev w') (hF : FltIs F) : (F = fltOK ∧ ev = .returned .nilIface ∧ Below w.heap.size w w') ∨ (F.2 ≠ 0 ∧ ∃ b, ev = .returned (.iface 156 (.pointer (some ⟨b, 0, none⟩))) ∧ FaultV w' (.iface 156 (.pointer (some ⟨b, 0, none⟩))) F.1 F.2 ∧ Below w.heap.size w w') := by
  obtain ⟨v, rfl, hV, hb⟩ := h
  rcases hF with rfl | ⟨h1, h2⟩
  · exact Or.inl ⟨rfl, by rw [hV.none0], hb⟩
  · obtain ⟨ps, e⟩ := F
    cases ps with
    | nil => exact absurd rfl h1
    | cons p r =>
      obtain ⟨b, rfl, hE⟩ := hV.iface
      exact Or.inr ⟨h2, b, rfl, hV, hb⟩

set_option maxHeartbeats 4000000 in
set_option maxRecDepth 100000 in
theorem ncheck_any (n : NetD) (vq aq tq : Option Addr) (vc ac tc : Nat) (w : World) (h : NetS w n vq aq tq vc ac tc) (hs : NetSmall n) (hin : InNet n) :
    Calls Tryz.prog 49 #[netVal n vq aq tq vc ac tc] w (EPost (chkN n).1 (chkN n).2 w) := by
  have HSM := Lib.hid hs
  have HIN := Lib.hid hin
  clear hs hin
  go_enter Tryz.func49, Tryz.ntmps49
  go_wp2_with fail
  obtain ⟨W0, hW0⟩ := named ((w.alloc (.cells #[.slice vq n.v.length vc, .slice aq n.a.length ac, .slice tq n.t.length tc] 62)).alloc (.cells #[.func (.func 78) #[] #[], .func (.func 79) #[] #[], .func (.func 80) #[] #[], .func (.func 81) #[] #[], .func (.func 82) #[] #[]] 93))
  rw [← hW0]
  have hb0 : Below w.heap.size w W0 := by rw [hW0]; exact below_alloc2 _ _
  have BW := Lib.hid hb0
  have KN : Hid (Blk W0 w.heap.size #[.slice vq n.v.length vc, .slice aq n.a.length ac, .slice tq n.t.length tc] 62) := by rw [hW0]; exact Lib.hid ((Blk.new _ _ _ _ rfl).old _)
  have KF : Hid (Blk W0 (w.heap.size + 1) #[.func (.func 78) #[] #[], .func (.func 79) #[] #[], .func (.func 80) #[] #[], .func (.func 81) #[] #[], .func (.func 82) #[] #[]] 93) := by rw [hW0]; exact Lib.hid (Blk.new _ _ _ _ (by simp))
  have HS := Lib.hid (h.below hb0)
  clear h hW0 hb0
  refine wp_loop_rounds 6 ?_
  rw [rounds_succ]
  obtain ⟨c0, c1, c2, -, -, -⟩ := KN.out.o3
  obtain ⟨f0, f1, f2, f3, f4, -, -, -, -, -⟩ := KF.out.o5
  go_wp2_with fail
  clear c0 c1 c2 f0 f1 f2 f3 f4
  refine (ncounts_ok n vq aq tq vc ac tc _ HSM.out).mono ?_
  intro e w' hP
  obtain ⟨rfl, hb⟩ := hP
  have KN_ := Lib.hid (KN.out.keep hb)
  have KF_ := Lib.hid (KF.out.keep hb)
  have HS_ := Lib.hid (HS.out.below hb)
  have BW_ := Lib.hid (BW.out.trans (hb.mono BW.out.size))
  clear KN KF HS BW hb
  have KN := KN_
  have KF := KF_
  have HS := HS_
  have BW := BW_
  clear KN_ KF_ HS_ BW_
  go_wp2_with fail
  rw [rounds_succ]
  obtain ⟨c0, c1, c2, -, -, -⟩ := KN.out.o3
  obtain ⟨f0, f1, f2, f3, f4, -, -, -, -, -⟩ := KF.out.o5
  go_wp2_with fail
  clear c0 c1 c2 f0 f1 f2 f3 f4
  refine (ntypes_any n vq aq tq vc ac tc _ HS.out HIN.out.2.2).mono ?_
  intro e w' hP
  rcases hP.split (fb_is typeFlt_is _ _) with ⟨hF, rfl, hb⟩ | ⟨hF, b, rfl, hV, hb⟩
  case inr =>
    have HB := Lib.hid (BW.out.trans (hb.mono BW.out.size))
    have HV := Lib.hid hV
    have HR : Hid (chkN n = firstBad typeFlt 0 n.t) := Lib.hid (by rw [chkN_small HSM.out]; rw [if_pos hF])
    clear hF hV hb hP
    go_wp2_with fail
    go_ret
    rw [HR.out]
    exact ⟨_, rfl, HV.out, HB.out⟩
  case' inl => skip
  have F1 := Lib.hid hF
  clear hF hP
  have KN_ := Lib.hid (KN.out.keep hb)
  have KF_ := Lib.hid (KF.out.keep hb)
  have HS_ := Lib.hid (HS.out.below hb)
  have BW_ := Lib.hid (BW.out.trans (hb.mono BW.out.size))
  clear KN KF HS BW hb
  have KN := KN_
  have KF := KF_
  have HS := HS_
  have BW := BW_
  clear KN_ KF_ HS_ BW_
  go_wp2_with fail
  rw [rounds_succ]
  obtain ⟨c0, c1, c2, -, -, -⟩ := KN.out.o3
  obtain ⟨f0, f1, f2, f3, f4, -, -, -, -, -⟩ := KF.out.o5
  go_wp2_with fail
  clear c0 c1 c2 f0 f1 f2 f3 f4
  refine (nverts_any n vq aq tq vc ac tc _ HS.out).mono ?_
  intro e w' hP
  rcases hP.split (fb_is (vertFlt_is _) _ _) with ⟨hF, rfl, hb⟩ | ⟨hF, b, rfl, hV, hb⟩
  case inr =>
    have HB := Lib.hid (BW.out.trans (hb.mono BW.out.size))
    have HV := Lib.hid hV
    have HR : Hid (chkN n = firstBad (vertFlt n.t.length) 0 n.v) := Lib.hid (by rw [chkN_small HSM.out]; rw [F1.out, if_neg (by simp [fltOK]), if_pos hF])
    clear hF hV hb hP
    go_wp2_with fail
    go_ret
    rw [HR.out]
    exact ⟨_, rfl, HV.out, HB.out⟩
  case' inl => skip
  have F2 := Lib.hid hF
  clear hF hP
  have KN_ := Lib.hid (KN.out.keep hb)
  have KF_ := Lib.hid (KF.out.keep hb)
  have HS_ := Lib.hid (HS.out.below hb)
  have BW_ := Lib.hid (BW.out.trans (hb.mono BW.out.size))
  clear KN KF HS BW hb
  have KN := KN_
  have KF := KF_
  have HS := HS_
  have BW := BW_
  clear KN_ KF_ HS_ BW_
  go_wp2_with fail
  rw [rounds_succ]
  obtain ⟨c0, c1, c2, -, -, -⟩ := KN.out.o3
  obtain ⟨f0, f1, f2, f3, f4, -, -, -, -, -⟩ := KF.out.o5
  go_wp2_with fail
  clear c0 c1 c2 f0 f1 f2 f3 f4
  refine (narcs_any n vq aq tq vc ac tc _ HS.out HIN.out.2.1).mono ?_
  intro e w' hP
  rcases hP.split (fb_is (arcFlt_is _) _ _) with ⟨hF, rfl, hb⟩ | ⟨hF, b, rfl, hV, hb⟩
  case inr =>
    have HB := Lib.hid (BW.out.trans (hb.mono BW.out.size))
    have HV := Lib.hid hV
    have HR : Hid (chkN n = firstBad (arcFlt n.v.length) 0 n.a) := Lib.hid (by rw [chkN_small HSM.out]; rw [F1.out, if_neg (by simp [fltOK]), F2.out, if_neg (by simp [fltOK]), if_pos hF])
    clear hF hV hb hP
    go_wp2_with fail
    go_ret
    rw [HR.out]
    exact ⟨_, rfl, HV.out, HB.out⟩
  case' inl => skip
  have F3 := Lib.hid hF
  clear hF hP
  have KN_ := Lib.hid (KN.out.keep hb)
  have KF_ := Lib.hid (KF.out.keep hb)
  have HS_ := Lib.hid (HS.out.below hb)
  have BW_ := Lib.hid (BW.out.trans (hb.mono BW.out.size))
  clear KN KF HS BW hb
  have KN := KN_
  have KF := KF_
  have HS := HS_
  have BW := BW_
  clear KN_ KF_ HS_ BW_
  go_wp2_with fail
  rw [rounds_succ]
  have HAI : Hid (ArcsIn n) := Lib.hid (fun k hk => by
    have := arcFlt_ok (firstBad_each (arcFlt n.v.length) 0 n.a (by rw [F3.out]; rfl) k hk)
    exact ⟨this.1, this.2.1, this.2.2.1, this.2.2.2.1⟩)
  have HVT : Hid (∀ k (h : k < n.v.length), 0 ≤ n.v[k].2.2 ∧ n.v[k].2.2 < n.t.length) := Lib.hid (fun k hk => (vertFlt_ok (firstBad_each (vertFlt n.t.length) 0 n.v (by rw [F2.out]; rfl) k hk)).2.2)
  obtain ⟨c0, c1, c2, -, -, -⟩ := KN.out.o3
  obtain ⟨f0, f1, f2, f3, f4, -, -, -, -, -⟩ := KF.out.o5
  go_wp2_with fail
  clear c0 c1 c2 f0 f1 f2 f3 f4
  refine (nends_any n vq aq tq vc ac tc _ HS.out HAI.out HSM.out.v HSM.out.a HVT.out).mono ?_
  intro e w' hP
  rcases hP.split (fb_is (degFlt_is n) _ _) with ⟨hF, rfl, hb⟩ | ⟨hF, b, rfl, hV, hb⟩
  case inr =>
    have HB := Lib.hid (BW.out.trans (hb.mono BW.out.size))
    have HV := Lib.hid hV
    have HR : Hid (chkN n = firstBad (degFlt n) 0 n.v) := Lib.hid (by rw [chkN_small HSM.out]; rw [F1.out, if_neg (by simp [fltOK]), F2.out, if_neg (by simp [fltOK]), F3.out, if_neg (by simp [fltOK])])
    clear hF hV hb hP
    go_wp2_with fail
    go_ret
    rw [HR.out]
    exact ⟨_, rfl, HV.out, HB.out⟩
  case' inl => skip
  have HR : Hid (chkN n = fltOK) := Lib.hid (by rw [chkN_small HSM.out, F1.out, if_neg (by simp [fltOK]), F2.out, if_neg (by simp [fltOK]), F3.out, if_neg (by simp [fltOK]), hF])
  have HB := Lib.hid (BW.out.trans (hb.mono BW.out.size))
  clear hF hb hP
  go_wp2_with fail
  rw [rounds_succ]
  go_wp2_with fail
  go_ret
  rw [HR.out]
  exact ⟨_, rfl, Or.inl ⟨rfl, rfl⟩, HB.out⟩

end Go.Proofs.YtgihaakgadmidaaGreat
