/-
  PROVED: turns that are forbidden one by one: each new one is one more; none from, or into, what there is not. For every two sizes and every row of turns. Conditions: the listed library variable holds what the program's own text lays (the card ties it).
-/
import Derived.Test.YtboimdgldjimpaaDoorU16
import Derived.Test.YtboimdgldjimpaaDoorGrowX
import Derived.Test.YtboimdgldjimpaaDoorCards
import Derived.Test.YtboimdgldjimpaaDoorTie
import Derived.SevenTiedAt
import Derived.IntWalk
namespace Go.Proofs.YtboimdgldjimpaaDoor
open Go.ChangeShapes Go.WideShapes Go.ChangeAt Go.RowKit

/-- What is known of the table at hand: it may be, it lies in the block b, its row lies in memory; memory has grown since the call began. -/
def BansR (N M : Int) (b : Nat) (w : World) (L : List Int) (q : Option Addr) (c : Nat) (wr : World) : Prop :=
  chkT N M L = (0, 0) ∧ Blk wr b #[.int .i64 N, .int .i64 M, .slice q L.length c] 34 ∧ I64s wr (.slice q L.length c) L ∧ Below w.heap.size w wr

set_option maxHeartbeats 4000000 in
set_option maxRecDepth 100000 in
theorem bans_long (a b : Int) (v : Value) (l : List Int) (w : World) (hg : ErrT w) (a0 : 0 ≤ a) (a1 : a ≤ 255) (b0 : 0 ≤ b) (b1 : b ≤ 255) (hv : U16s w v l) (hin : InU16 l) (h : 300 < l.length) :
    Calls Tryd.prog 6 #[.int .u8 a, .int .u8 b, v] w fun e w' => e = .returned (.bool true) ∧ Below w.heap.size w w' := by
  obtain ⟨N, eN⟩ : ∃ N, a % 17 = N := ⟨_, rfl⟩
  obtain ⟨M, eM⟩ : ∃ M, b % 17 = M := ⟨_, rfl⟩
  have n0 : 0 ≤ N := by omega
  have n1 : N ≤ 16 := by omega
  have m0 : 0 ≤ M := by omega
  have m1 : M ≤ 16 := by omega
  obtain ⟨s0, s1⟩ := size_le (I := N) (O := M) ⟨n0, n1, m0, m1⟩
  obtain ⟨L0, eL0⟩ : ∃ L0 : List Int, List.replicate (N * M).toNat 0 = L0 := ⟨_, rfl⟩
  have hl0 : (L0.length : Int) = N * M := by rw [← eL0, List.length_replicate]; omega
  have hk0 : chkT N M L0 = (0, 0) := chkT_mk ⟨n0, n1⟩ ⟨m0, m1⟩ hl0 (by rw [← eL0]; exact replicate_wgt _)
  have hb0 : bansC L0 = 0 := by rw [← eL0]; exact bansC_replicate _
  have EL := Lib.hid eL0
  have HK0 := Lib.hid hk0
  have HB0 := Lib.hid hb0
  have HG := Lib.hid hg
  obtain ⟨vq, vc, rfl⟩ := hv.shape
  have HV := Lib.hid hv
  have HIN := Lib.hid hin
  clear eL0 hl0 hk0 hb0 hg hv hin
  have d1 : decide ((300 : Int) < (l.length : Int)) = true := by simp; omega
  go_enter Tryd.func6, Tryd.ntmps6
  go_wp2_with fail
  refine (known2_any _ HG.out).mono ?_
  rintro e w1 ⟨rfl, hb⟩
  have B0 := Lib.hid hb
  clear hb
  go_wp2_with fail
  refine (tfree_is N M L0 _ ⟨n0, n1⟩ ⟨m0, m1⟩ EL.out).mono ?_
  rintro e w2 ⟨tv, rfl, ⟨tu, rfl, hT⟩, hb⟩
  obtain ⟨tq, tc, rfl⟩ := hT.shape
  have z2 : w.heap.size ≤ w2.heap.size := Nat.le_trans B0.out.size hb.size
  go_wp2_with fail
  go_ret
  exact ⟨rfl, (B0.out.trans (hb.mono B0.out.size)).trans ((below_alloc1 _).mono z2)⟩

set_option maxHeartbeats 4000000 in
set_option maxRecDepth 100000 in
theorem bans_ok (a b : Int) (v : Value) (l : List Int) (w : World) (hg : ErrT w) (a0 : 0 ≤ a) (a1 : a ≤ 255) (b0 : 0 ≤ b) (b1 : b ≤ 255) (hv : U16s w v l) (hin : InU16 l) (h : l.length ≤ 300) :
    Calls Tryd.prog 6 #[.int .u8 a, .int .u8 b, v] w fun e w' => e = .returned (.bool true) ∧ Below w.heap.size w w' := by
  obtain ⟨N, eN⟩ : ∃ N, a % 17 = N := ⟨_, rfl⟩
  obtain ⟨M, eM⟩ : ∃ M, b % 17 = M := ⟨_, rfl⟩
  have n0 : 0 ≤ N := by omega
  have n1 : N ≤ 16 := by omega
  have m0 : 0 ≤ M := by omega
  have m1 : M ≤ 16 := by omega
  obtain ⟨s0, s1⟩ := size_le (I := N) (O := M) ⟨n0, n1, m0, m1⟩
  obtain ⟨L0, eL0⟩ : ∃ L0 : List Int, List.replicate (N * M).toNat 0 = L0 := ⟨_, rfl⟩
  have hl0 : (L0.length : Int) = N * M := by rw [← eL0, List.length_replicate]; omega
  have hk0 : chkT N M L0 = (0, 0) := chkT_mk ⟨n0, n1⟩ ⟨m0, m1⟩ hl0 (by rw [← eL0]; exact replicate_wgt _)
  have hb0 : bansC L0 = 0 := by rw [← eL0]; exact bansC_replicate _
  have EL := Lib.hid eL0
  have HK0 := Lib.hid hk0
  have HB0 := Lib.hid hb0
  have HG := Lib.hid hg
  obtain ⟨vq, vc, rfl⟩ := hv.shape
  have HV := Lib.hid hv
  have HIN := Lib.hid hin
  clear eL0 hl0 hk0 hb0 hg hv hin
  have d1 : decide ((300 : Int) < (l.length : Int)) = false := by simp; omega
  go_enter Tryd.func6, Tryd.ntmps6
  go_wp2_with fail
  refine (known2_any _ HG.out).mono ?_
  rintro e w1 ⟨rfl, hb⟩
  have B0 := Lib.hid hb
  clear hb
  go_wp2_with fail
  refine (tfree_is N M L0 _ ⟨n0, n1⟩ ⟨m0, m1⟩ EL.out).mono ?_
  rintro e w2 ⟨tv, rfl, ⟨tu, rfl, hT⟩, hb⟩
  obtain ⟨tq, tc, rfl⟩ := hT.shape
  have z2 : w.heap.size ≤ w2.heap.size := Nat.le_trans B0.out.size hb.size
  obtain ⟨W2, hW2⟩ := named (w2.alloc (.cells #[.int .i64 N, .int .i64 M, .slice tq L0.length tc] 34))
  have hB2 : Below w.heap.size w W2 := by rw [hW2]; exact (B0.out.trans (hb.mono B0.out.size)).trans ((below_alloc1 _).mono z2)
  have hR0 : BansR N M w2.heap.size w L0 tq tc W2 := ⟨HK0.out, by rw [hW2]; exact Blk.new _ _ _ _ rfl, by rw [hW2]; exact hT.below (below_alloc1 _), hB2⟩
  have HR0 := Lib.hid hR0
  have Z2 := Lib.hid z2
  clear hR0 hB2 hT hb z2
  go_wp2_with fail
  rw [← hW2]
  clear hW2
  have z2 := Z2.out
  go_loopw [10, 11, 12, 13] (fun e s i _ wr => ∃ (k : Nat) (L : List Int) (q : Option Addr) (c : Nat), k ≤ l.length ∧ i = .int .i64 k ∧ e = .nilIface ∧ s = .int .i64 (bansC L) ∧ Hid (BansR N M w2.heap.size w L q c wr)) (fun _ _ i _ _ => l.length - (intOf i).toNat)
  case atStart => exact ⟨0, L0, tq, tc, Nat.zero_le _, rfl, rfl, by rw [HB0.out], HR0⟩
  case round =>
    obtain ⟨k, L, q, c, hk, rfl, rfl, rfl, HR⟩ := hrel
    obtain ⟨hck, hkt, hrl, hbw⟩ := HR.out
    obtain ⟨-, -, -, -, hln, -⟩ := chkT_ok (I := N) (O := M) (l := L) (by rw [hck])
    have t0 := bansC_lo L
    have t1 := bansC_hi L
    have hll : L.length ≤ 256 := by omega
    have t2 : bansC L ≤ 256 := by omega
    have CK := Lib.hid hck
    have KT := Lib.hid hkt
    have RL := Lib.hid hrl
    have BW := Lib.hid hbw
    have HLN := Lib.hid hln
    have HLL := Lib.hid hll
    have HS := Lib.hid (And.intro n0 (And.intro n1 (And.intro m0 m1)))
    clear hck hkt hrl hbw hln hll t1 HR
    by_cases hgo : k < l.length ∧ 0 < N * M
    · obtain ⟨hlt, hnm⟩ := hgo
      have hu := HV.out.below BW.out
      rcases hu with ⟨rfl, _⟩ | ⟨_, ub, uo, uc, e, hc⟩
      · simp at hlt
      obtain rfl : vq = some ⟨ub, uo, none⟩ := by injection e
      have g := hc k hlt
      have hb := World.block_lt_of_cell? wr _ g
      have hv := HIN.out l[k] (List.getElem_mem _)
      obtain ⟨V, eV⟩ : ∃ V, l[k] = V := ⟨_, rfl⟩
      rw [eV] at g hv
      obtain ⟨v0, v1⟩ := hv
      obtain ⟨Z, eZ⟩ : ∃ Z, V % (N * M) = Z := ⟨_, rfl⟩
      have z0 : 0 ≤ Z := by rw [← eZ]; exact Int.emod_nonneg _ (by omega)
      have z1 : Z < N * M := by rw [← eZ]; exact Int.emod_lt_of_pos _ hnm
      have mp : 0 < M := by
        rcases Int.lt_or_le 0 M with h | h
        · exact h
        · obtain rfl : M = 0 := by omega
          rw [Int.mul_zero] at hnm
          omega
      obtain ⟨x0, x1, y0, y1⟩ := place_of mp ⟨z0, z1⟩
      obtain ⟨X, eX⟩ : ∃ X, Z / M = X := ⟨_, rfl⟩
      obtain ⟨Y, eY⟩ : ∃ Y, Z % M = Y := ⟨_, rfl⟩
      rw [eX] at x0 x1
      rw [eY] at y0 y1
      have HXY := Lib.hid (And.intro x0 (And.intro x1 (And.intro y0 y1)))
      obtain ⟨LN, eLN⟩ : ∃ LN, L.set (X * M + Y).toNat 1152921504606846976 = LN := ⟨_, rfl⟩
      obtain ⟨T, eT⟩ : ∃ T, turnAt N M L X Y = T := ⟨_, rfl⟩
      have hlnn : (LN.length : Int) = N * M := by rw [← eLN, List.length_set]; exact HLN.out
      have hlll : LN.length ≤ 256 := by omega
      have hckn : chkT N M LN = (0, 0) := by rw [← eLN]; exact chkT_set CK.out _ _ wgt_inf
      have etn : turnAt N M LN X Y = 1152921504606846976 := by rw [← eLN, turnAt_set HLN.out HXY.out HXY.out, if_pos ⟨rfl, rfl⟩]
      have hbn : bansC LN = if T = 1152921504606846976 then bansC L else bansC L + 1 := by rw [← eLN, ← eT]; exact bans_more HLN.out HXY.out
      have ELN := Lib.hid eLN
      have ET' := Lib.hid eT
      have HLNN := Lib.hid hlnn
      have HLL' := Lib.hid hlll
      clear HLL
      have HLL := HLL'
      clear HLL'
      have CKN := Lib.hid hckn
      have ETN := Lib.hid etn
      have HBN' := Lib.hid hbn
      clear eLN eT hlnn hlll hckn etn hbn eV hc e
      have nz : ¬ N * M = 0 := by omega
      have nz2 : ((N * M) == 0) = false := by simpa using nz
      have mz : ¬ M = 0 := by omega
      have mz2 : (M == 0) = false := by simpa using mz
      have hlt' : decide ((k : Int) < (l.length : Int)) = true := by simp; omega
      have hnm' : decide (0 < N * M) = true := by simpa using hnm
      go_wp2_with fail
      have q1 : IntKind.i64.wrap (Z.tdiv M) = X := by rw [← eX]; exact IntWalk.i64_quo Z M ⟨by omega, by omega, by omega⟩
      have q2 : Z.tmod M = Y := by rw [← eY]; exact IntWalk.rem_in Z M z0
      have q3 : IntKind.i64.wrap Y = Y := IntWalk.i64_in _ ⟨by omega, by omega⟩
      clear g hb
      by_cases hT : T = 1152921504606846976
      · subst hT
        have ET := Lib.hid ET'.out
        have HBN : Hid (bansC LN = bansC L) := Lib.hid (by rw [HBN'.out, if_pos rfl])
        clear ET' HBN'
        have hGS : Grows (fun w' => Below wr.heap.size wr w') := Grows.below wr
        refine' wp_growL _ (fun w' => Below wr.heap.size wr w') [[], [], [], [1, 2], [], [], [4, 5], [0, 3, 6], [7]] (Fact.lit _ :: Fact.lit _ :: Fact.lit _ :: Fact.lit _ :: Fact.lit _ :: Fact.lit _ :: Fact.lit _ :: Fact.lit _ :: Fact.lit _ :: []) (by kernel_rfl) rfl (by kernel_rfl) (Below.refl _ _).drew ?seqae
        case' seqae => skip
        (first | (refine' grow_skip rfl ?wt1 ?put1 ?next1; (case wt1 => rfl)) | (refine' grow_lit rfl ?wt1 ?run1 ?put1 ?next1; (case wt1 => rfl); (case run1 => (intro w' hS H; clear H; (obtain ⟨k0, k1, k2, -, -, -⟩ := (KT.out.keep hS).o3); clear hS; go_simp; first | done | exact rfl)))); (case put1 => (simp only [Act.put, List.setIfInBounds_toArray, List.set_cons_zero, List.set_cons_succ]; first | done | exact rfl)); (case' next1 => skip)
        (first | (refine' grow_skip rfl ?wt2 ?put2 ?next2; (case wt2 => rfl)) | (refine' grow_lit rfl ?wt2 ?run2 ?put2 ?next2; (case wt2 => rfl); (case run2 => (intro w' hS H; clear H; (obtain ⟨k0, k1, k2, -, -, -⟩ := (KT.out.keep hS).o3); clear hS; go_simp; first | done | exact rfl)))); (case put2 => (simp only [Act.put, List.setIfInBounds_toArray, List.set_cons_zero, List.set_cons_succ]; first | done | exact rfl)); (case' next2 => skip)
        (first | (refine' grow_skip rfl ?wt3 ?put3 ?next3; (case wt3 => rfl)) | (refine' grow_lit rfl ?wt3 ?run3 ?put3 ?next3; (case wt3 => rfl); (case run3 => (intro w' hS H; clear H; (obtain ⟨k0, k1, k2, -, -, -⟩ := (KT.out.keep hS).o3); clear hS; go_simp; first | done | exact rfl)))); (case put3 => (simp only [Act.put, List.setIfInBounds_toArray, List.set_cons_zero, List.set_cons_succ]; first | done | exact rfl)); (case' next3 => skip)
        (first | (refine' grow_skip rfl ?wt4 ?put4 ?next4; (case wt4 => rfl)) | (refine' grow_lit rfl ?wt4 ?run4 ?put4 ?next4; (case wt4 => rfl); (case run4 => (intro w' hS H; clear H; (obtain ⟨k0, k1, k2, -, -, -⟩ := (KT.out.keep hS).o3); clear hS; go_simp; first | done | exact rfl)))); (case put4 => (simp only [Act.put, List.setIfInBounds_toArray, List.set_cons_zero, List.set_cons_succ]; first | done | exact rfl)); (case' next4 => skip)
        (first | (refine' grow_skip rfl ?wt5 ?put5 ?next5; (case wt5 => rfl)) | (refine' grow_lit rfl ?wt5 ?run5 ?put5 ?next5; (case wt5 => rfl); (case run5 => (intro w' hS H; clear H; (obtain ⟨k0, k1, k2, -, -, -⟩ := (KT.out.keep hS).o3); clear hS; go_simp; first | done | exact rfl)))); (case put5 => (simp only [Act.put, List.setIfInBounds_toArray, List.set_cons_zero, List.set_cons_succ]; first | done | exact rfl)); (case' next5 => skip)
        (first | (refine' grow_skip rfl ?wt6 ?put6 ?next6; (case wt6 => rfl)) | (refine' grow_lit rfl ?wt6 ?run6 ?put6 ?next6; (case wt6 => rfl); (case run6 => (intro w' hS H; clear H; (obtain ⟨k0, k1, k2, -, -, -⟩ := (KT.out.keep hS).o3); clear hS; go_simp; first | done | exact rfl)))); (case put6 => (simp only [Act.put, List.setIfInBounds_toArray, List.set_cons_zero, List.set_cons_succ]; first | done | exact rfl)); (case' next6 => skip)
        (first | (refine' grow_skip rfl ?wt7 ?put7 ?next7; (case wt7 => rfl)) | (refine' grow_lit rfl ?wt7 ?run7 ?put7 ?next7; (case wt7 => rfl); (case run7 => (intro w' hS H; clear H; (obtain ⟨k0, k1, k2, -, -, -⟩ := (KT.out.keep hS).o3); clear hS; go_simp; first | done | exact rfl)))); (case put7 => (simp only [Act.put, List.setIfInBounds_toArray, List.set_cons_zero, List.set_cons_succ]; first | done | exact rfl)); (case' next7 => skip)
        (refine' grow_call (u := .int .i64 1152921504606846976) rfl Tryd.func17 (by kernel_rfl) rfl hGS rfl ?wt65 ?run65 ?put65 ?next65; (case wt65 => rfl); (case run65 => (intro w' hS H; exact tat_is N M _ L X Y 1152921504606846976 w' HS.out HLN.out (RL.out.below hS) ET.out)); (case put65 => (simp only [Act.put, List.setIfInBounds_toArray, List.set_cons_zero, List.set_cons_succ]; first | done | exact rfl)); (case' next65 => skip))
        (first | (refine' grow_skip rfl ?wt8 ?put8 ?next8; (case wt8 => rfl)) | (refine' grow_lit rfl ?wt8 ?run8 ?put8 ?next8; (case wt8 => rfl); (case run8 => (intro w' hS H; clear H; (obtain ⟨k0, k1, k2, -, -, -⟩ := (KT.out.keep hS).o3); clear hS; go_simp; first | done | exact rfl)))); (case put8 => (simp only [Act.put, List.setIfInBounds_toArray, List.set_cons_zero, List.set_cons_succ]; first | done | exact rfl)); (case' next8 => skip)
        intro w10 hb _
        have KT2 := Lib.hid (KT.out.keep hb)
        have RL2 := Lib.hid (RL.out.below hb)
        have BW2 := Lib.hid (BW.out.trans (hb.mono BW.out.size))
        clear KT RL BW hb hGS
        have KT := KT2
        have RL := RL2
        have BW := BW2
        clear KT2 RL2 BW2
        go_wp2_with fail
        have hGS : Grows (fun w' => Below w10.heap.size w10 w') := Grows.below w10
        refine' wp_thenX _ 11 [10] (fun w' => Below w10.heap.size w10 w') [[], [], [], [1, 2], [], [], [4, 5], [0, 3, 6], [7], [8], [8]] (Fact.lit _ :: Fact.lit _ :: Fact.lit _ :: Fact.lit _ :: Fact.lit _ :: Fact.lit _ :: Fact.lit _ :: Fact.prop _ _ :: Fact.prop _ _ :: Fact.prop _ _ :: Fact.lit _ :: []) (by kernel_rfl) rfl (by kernel_rfl) (fun _ _ _ _ _ h => h) (Below.refl _ _).drew ?purebe ?seqbe
        case' seqbe => skip
        (first | (refine' grow_skip rfl ?wt9 ?put9 ?next9; (case wt9 => rfl)) | (refine' grow_lit rfl ?wt9 ?run9 ?put9 ?next9; (case wt9 => rfl); (case run9 => (intro w' hS H; clear H; (obtain ⟨k0, k1, k2, -, -, -⟩ := (KT.out.keep hS).o3); clear hS; go_simp; first | done | exact rfl)))); (case put9 => (simp only [Act.put, List.setIfInBounds_toArray, List.set_cons_zero, List.set_cons_succ]; first | done | exact rfl)); (case' next9 => skip)
        (first | (refine' grow_skip rfl ?wt10 ?put10 ?next10; (case wt10 => rfl)) | (refine' grow_lit rfl ?wt10 ?run10 ?put10 ?next10; (case wt10 => rfl); (case run10 => (intro w' hS H; clear H; (obtain ⟨k0, k1, k2, -, -, -⟩ := (KT.out.keep hS).o3); clear hS; go_simp; first | done | exact rfl)))); (case put10 => (simp only [Act.put, List.setIfInBounds_toArray, List.set_cons_zero, List.set_cons_succ]; first | done | exact rfl)); (case' next10 => skip)
        (first | (refine' grow_skip rfl ?wt11 ?put11 ?next11; (case wt11 => rfl)) | (refine' grow_lit rfl ?wt11 ?run11 ?put11 ?next11; (case wt11 => rfl); (case run11 => (intro w' hS H; clear H; (obtain ⟨k0, k1, k2, -, -, -⟩ := (KT.out.keep hS).o3); clear hS; go_simp; first | done | exact rfl)))); (case put11 => (simp only [Act.put, List.setIfInBounds_toArray, List.set_cons_zero, List.set_cons_succ]; first | done | exact rfl)); (case' next11 => skip)
        (first | (refine' grow_skip rfl ?wt12 ?put12 ?next12; (case wt12 => rfl)) | (refine' grow_lit rfl ?wt12 ?run12 ?put12 ?next12; (case wt12 => rfl); (case run12 => (intro w' hS H; clear H; (obtain ⟨k0, k1, k2, -, -, -⟩ := (KT.out.keep hS).o3); clear hS; go_simp; first | done | exact rfl)))); (case put12 => (simp only [Act.put, List.setIfInBounds_toArray, List.set_cons_zero, List.set_cons_succ]; first | done | exact rfl)); (case' next12 => skip)
        (first | (refine' grow_skip rfl ?wt13 ?put13 ?next13; (case wt13 => rfl)) | (refine' grow_lit rfl ?wt13 ?run13 ?put13 ?next13; (case wt13 => rfl); (case run13 => (intro w' hS H; clear H; (obtain ⟨k0, k1, k2, -, -, -⟩ := (KT.out.keep hS).o3); clear hS; go_simp; first | done | exact rfl)))); (case put13 => (simp only [Act.put, List.setIfInBounds_toArray, List.set_cons_zero, List.set_cons_succ]; first | done | exact rfl)); (case' next13 => skip)
        (first | (refine' grow_skip rfl ?wt14 ?put14 ?next14; (case wt14 => rfl)) | (refine' grow_lit rfl ?wt14 ?run14 ?put14 ?next14; (case wt14 => rfl); (case run14 => (intro w' hS H; clear H; (obtain ⟨k0, k1, k2, -, -, -⟩ := (KT.out.keep hS).o3); clear hS; go_simp; first | done | exact rfl)))); (case put14 => (simp only [Act.put, List.setIfInBounds_toArray, List.set_cons_zero, List.set_cons_succ]; first | done | exact rfl)); (case' next14 => skip)
        (first | (refine' grow_skip rfl ?wt15 ?put15 ?next15; (case wt15 => rfl)) | (refine' grow_lit rfl ?wt15 ?run15 ?put15 ?next15; (case wt15 => rfl); (case run15 => (intro w' hS H; clear H; (obtain ⟨k0, k1, k2, -, -, -⟩ := (KT.out.keep hS).o3); clear hS; go_simp; first | done | exact rfl)))); (case put15 => (simp only [Act.put, List.setIfInBounds_toArray, List.set_cons_zero, List.set_cons_succ]; first | done | exact rfl)); (case' next15 => skip)
        (refine' grow_callP (p := WithR N M LN) (hp := fun v w w' h hb => h.below hb) rfl Tryd.func15 (by kernel_rfl) rfl hGS rfl ?wt66 ?run66 ?put66 ?next66; (case wt66 => rfl); (case run66 => (intro w' hS H; exact twith_own N M _ L X Y 1152921504606846976 LN w' CK.out (RL.out.below hS) (in64_chk CK.out) HXY.out wgt_inf ELN.out)); (case put66 => (intro v; simp only [Act.put, List.setIfInBounds_toArray, List.set_cons_zero, List.set_cons_succ]; first | done | exact rfl)); (case' next66 => intro v7))
        (refine' grow_prop (p := WithR N M LN) (hp := fun v w w' h hb => h.below hb) rfl ?wtbe8 ?runbe8 ?putbe8 ?nextbe8; (case wtbe8 => rfl); (case runbe8 => (intro w' hS H; (have hv : WithR N M LN v7 w' := H 7 (by decide)); refine ⟨v7, ?_, hv⟩; clear H hv hS; go_simp)); (case putbe8 => (intro v; simp only [Act.put, List.setIfInBounds_toArray, List.set_cons_zero, List.set_cons_succ]; first | done | exact rfl)); (case' nextbe8 => intro v8))
        (refine' grow_prop (p := (fun v w => TabR w v N M LN)) (hp := fun v w w' h hb => h.below hb) rfl ?wtbe9 ?runbe9 ?putbe9 ?nextbe9; (case wtbe9 => rfl); (case runbe9 => (intro w' hS H; (have hv : WithR N M LN v8 w' := H 8 (by decide)); (obtain ⟨tv, rfl, hv⟩ := hv); refine ⟨tv, ?_, hv⟩; clear H hv hS; go_simp)); (case putbe9 => (intro v; simp only [Act.put, List.setIfInBounds_toArray, List.set_cons_zero, List.set_cons_succ]; first | done | exact rfl)); (case' nextbe9 => intro v9))
        (refine' grow_lit (u := .nilIface) rfl ?wtbe10 ?runbe10 ?putbe10 ?nextbe10; (case wtbe10 => rfl); (case runbe10 => (intro w' hS H; (have hv : WithR N M LN v8 w' := H 8 (by decide)); (obtain ⟨tv, rfl, hv⟩ := hv); clear H hv hS; go_simp)); (case putbe10 => (simp only [Act.put, List.setIfInBounds_toArray, List.set_cons_zero, List.set_cons_succ]; first | done | exact rfl)); (case' nextbe10 => skip))
        case purebe =>
          refine PureX.one rfl (fun c' w' hS H => ?_)
          have hv : WithR N M LN (c'.tmps.getD 69 undef) w' := H 8 (by decide)
          obtain ⟨tv, e, -⟩ := hv
          have e' : c'.eval (.tmp 69) = .tuple #[tv, .nilIface] := e
          exact ⟨.nilIface, rfl, fun w'' => run_extract rfl _ _ _ e' rfl _ w'', rfl, rfl⟩
        intro w9 hb hk
        have h9 : TabR w9 v9 N M LN := hk 9 (by decide)
        obtain ⟨zu, rfl, hz⟩ := h9
        obtain ⟨zq, zc, rfl⟩ := hz.shape
        have HZ := Lib.hid hz
        have KT9 := Lib.hid (KT.out.keep hb)
        have BW9 := Lib.hid (BW.out.trans (hb.mono BW.out.size))
        clear hk hz hb
        obtain ⟨k0, k1, k2, f0, f1, f2⟩ := KT9.out.o3
        refine wpAny_ready (rs := [11]) (by kernel_rfl) (by simp) (AllReady.cons rfl (fun K hK => ?_) AllReady.nil)
        go_simp
        refine hK _ _ ?_
        clear hK K
        refine wpAny_ready (rs := [12]) (by kernel_rfl) (by simp) (AllReady.cons rfl (fun K hK => ?_) AllReady.nil)
        go_simp
        refine hK _ _ ?_
        clear hK K
        refine wpAny_done (by kernel_rfl) ?_ _
        clear k0 k1 k2 f0 f1 f2
        have hZ9 := (((HZ.out.setTab KT9.out 0 (.int .i64 N)).setTab (KT9.out.set 0 _) 1 (.int .i64 M)).setTab ((KT9.out.set 0 _).set 1 _) 2 (.slice zq LN.length zc))
        have hK9 := ((KT9.out.set 0 (.int .i64 N)).set 1 (.int .i64 M)).set 2 (.slice zq LN.length zc)
        have hB9 : Below w.heap.size w (((w9.setCell ⟨w2.heap.size, 0, none⟩ (.int .i64 N)).setCell ⟨w2.heap.size, 1, none⟩ (.int .i64 M)).setCell ⟨w2.heap.size, 2, none⟩ (.slice zq LN.length zc)) := by
          iterate 3 (refine Below.setCell ?_ (by simp only []; exact z2) _)
          exact BW9.out
        obtain ⟨W9, hW9⟩ := named (((w9.setCell ⟨w2.heap.size, 0, none⟩ (.int .i64 N)).setCell ⟨w2.heap.size, 1, none⟩ (.int .i64 M)).setCell ⟨w2.heap.size, 2, none⟩ (.slice zq LN.length zc))
        rw [← hW9] at hZ9 hK9 hB9 ⊢
        have KN : Hid (Blk W9 w2.heap.size #[.int .i64 N, .int .i64 M, .slice zq LN.length zc] 34) := Lib.hid (by simpa using hK9)
        have RN := Lib.hid (hZ9.row (by have := HLL.out; omega))
        have BN := Lib.hid hB9
        clear hZ9 hK9 hB9 hW9 HZ KT9 BW9 KT RL BW hGS
        go_wp2_with fail
        have hGS : Grows (fun w' => Below W9.heap.size W9 w') := Grows.below W9
        refine' wp_growL _ (fun w' => Below W9.heap.size W9 w') [[], [0], [1], [2], [2, 3], [2], [2, 4, 5], [2, 6], [7], [8], [8], [8], [8, 10, 11], [8], [8], [8, 13, 14], [8, 9, 12, 15], [8, 16], [8, 17]] (Fact.lit _ :: Fact.lit _ :: Fact.lit _ :: Fact.lit _ :: Fact.lit _ :: Fact.lit _ :: Fact.lit _ :: Fact.lit _ :: Fact.lit _ :: Fact.lit _ :: Fact.lit _ :: Fact.lit _ :: Fact.lit _ :: Fact.lit _ :: Fact.lit _ :: Fact.lit _ :: Fact.lit _ :: Fact.lit _ :: Fact.lit _ :: []) (by kernel_rfl) rfl (by kernel_rfl) (Below.refl _ _).drew ?seqce
        case' seqce => skip
        (first | (refine' grow_skip rfl ?wt16 ?put16 ?next16; (case wt16 => rfl)) | (refine' grow_lit rfl ?wt16 ?run16 ?put16 ?next16; (case wt16 => rfl); (case run16 => (intro w' hS H; clear H; (obtain ⟨k0, k1, k2, -, -, -⟩ := (KN.out.keep hS).o3); clear hS; go_simp; first | done | exact rfl)))); (case put16 => (simp only [Act.put, List.setIfInBounds_toArray, List.set_cons_zero, List.set_cons_succ]; first | done | exact rfl)); (case' next16 => skip)
        (first | (refine' grow_skip rfl ?wt17 ?put17 ?next17; (case wt17 => rfl)) | (refine' grow_lit rfl ?wt17 ?run17 ?put17 ?next17; (case wt17 => rfl); (case run17 => (intro w' hS H; clear H; (obtain ⟨k0, k1, k2, -, -, -⟩ := (KN.out.keep hS).o3); clear hS; go_simp; first | done | exact rfl)))); (case put17 => (simp only [Act.put, List.setIfInBounds_toArray, List.set_cons_zero, List.set_cons_succ]; first | done | exact rfl)); (case' next17 => skip)
        (first | (refine' grow_skip rfl ?wt18 ?put18 ?next18; (case wt18 => rfl)) | (refine' grow_lit rfl ?wt18 ?run18 ?put18 ?next18; (case wt18 => rfl); (case run18 => (intro w' hS H; clear H; (obtain ⟨k0, k1, k2, -, -, -⟩ := (KN.out.keep hS).o3); clear hS; go_simp; first | done | exact rfl)))); (case put18 => (simp only [Act.put, List.setIfInBounds_toArray, List.set_cons_zero, List.set_cons_succ]; first | done | exact rfl)); (case' next18 => skip)
        (first | (refine' grow_skip rfl ?wt19 ?put19 ?next19; (case wt19 => rfl)) | (refine' grow_lit rfl ?wt19 ?run19 ?put19 ?next19; (case wt19 => rfl); (case run19 => (intro w' hS H; clear H; (obtain ⟨k0, k1, k2, -, -, -⟩ := (KN.out.keep hS).o3); clear hS; go_simp; first | done | exact rfl)))); (case put19 => (simp only [Act.put, List.setIfInBounds_toArray, List.set_cons_zero, List.set_cons_succ]; first | done | exact rfl)); (case' next19 => skip)
        (refine' grow_call (u := .int .i64 (bansC L)) rfl Tryd.func19 (by kernel_rfl) rfl hGS rfl ?wt67 ?run67 ?put67 ?next67; (case wt67 => rfl); (case run67 => (intro w' hS H; exact (tbans_any N M _ LN w' (RN.out.below hS)).mono (fun e w2 h => ⟨h.1.trans (by rw [HBN.out]), h.2⟩))); (case put67 => (simp only [Act.put, List.setIfInBounds_toArray, List.set_cons_zero, List.set_cons_succ]; first | done | exact rfl)); (case' next67 => skip))
        (first | (refine' grow_skip rfl ?wt20 ?put20 ?next20; (case wt20 => rfl)) | (refine' grow_lit rfl ?wt20 ?run20 ?put20 ?next20; (case wt20 => rfl); (case run20 => (intro w' hS H; clear H; (obtain ⟨k0, k1, k2, -, -, -⟩ := (KN.out.keep hS).o3); clear hS; go_simp; first | done | exact rfl)))); (case put20 => (simp only [Act.put, List.setIfInBounds_toArray, List.set_cons_zero, List.set_cons_succ]; first | done | exact rfl)); (case' next20 => skip)
        (first | (refine' grow_skip rfl ?wt21 ?put21 ?next21; (case wt21 => rfl)) | (refine' grow_lit rfl ?wt21 ?run21 ?put21 ?next21; (case wt21 => rfl); (case run21 => (intro w' hS H; clear H; (obtain ⟨k0, k1, k2, -, -, -⟩ := (KN.out.keep hS).o3); clear hS; go_simp; first | done | exact rfl)))); (case put21 => (simp only [Act.put, List.setIfInBounds_toArray, List.set_cons_zero, List.set_cons_succ]; first | done | exact rfl)); (case' next21 => skip)
        (first | (refine' grow_skip rfl ?wt22 ?put22 ?next22; (case wt22 => rfl)) | (refine' grow_lit rfl ?wt22 ?run22 ?put22 ?next22; (case wt22 => rfl); (case run22 => (intro w' hS H; clear H; (obtain ⟨k0, k1, k2, -, -, -⟩ := (KN.out.keep hS).o3); clear hS; go_simp; first | done | exact rfl)))); (case put22 => (simp only [Act.put, List.setIfInBounds_toArray, List.set_cons_zero, List.set_cons_succ]; first | done | exact rfl)); (case' next22 => skip)
        (first | (refine' grow_skip rfl ?wt23 ?put23 ?next23; (case wt23 => rfl)) | (refine' grow_lit rfl ?wt23 ?run23 ?put23 ?next23; (case wt23 => rfl); (case run23 => (intro w' hS H; clear H; (obtain ⟨k0, k1, k2, -, -, -⟩ := (KN.out.keep hS).o3); clear hS; go_simp; first | done | exact rfl)))); (case put23 => (simp only [Act.put, List.setIfInBounds_toArray, List.set_cons_zero, List.set_cons_succ]; first | done | exact rfl)); (case' next23 => skip)
        (first | (refine' grow_skip rfl ?wt24 ?put24 ?next24; (case wt24 => rfl)) | (refine' grow_lit rfl ?wt24 ?run24 ?put24 ?next24; (case wt24 => rfl); (case run24 => (intro w' hS H; clear H; (obtain ⟨k0, k1, k2, -, -, -⟩ := (KN.out.keep hS).o3); clear hS; go_simp; first | done | exact rfl)))); (case put24 => (simp only [Act.put, List.setIfInBounds_toArray, List.set_cons_zero, List.set_cons_succ]; first | done | exact rfl)); (case' next24 => skip)
        (first | (refine' grow_skip rfl ?wt25 ?put25 ?next25; (case wt25 => rfl)) | (refine' grow_lit rfl ?wt25 ?run25 ?put25 ?next25; (case wt25 => rfl); (case run25 => (intro w' hS H; clear H; (obtain ⟨k0, k1, k2, -, -, -⟩ := (KN.out.keep hS).o3); clear hS; go_simp; first | done | exact rfl)))); (case put25 => (simp only [Act.put, List.setIfInBounds_toArray, List.set_cons_zero, List.set_cons_succ]; first | done | exact rfl)); (case' next25 => skip)
        (first | (refine' grow_skip rfl ?wt26 ?put26 ?next26; (case wt26 => rfl)) | (refine' grow_lit rfl ?wt26 ?run26 ?put26 ?next26; (case wt26 => rfl); (case run26 => (intro w' hS H; clear H; (obtain ⟨k0, k1, k2, -, -, -⟩ := (KN.out.keep hS).o3); clear hS; go_simp; first | done | exact rfl)))); (case put26 => (simp only [Act.put, List.setIfInBounds_toArray, List.set_cons_zero, List.set_cons_succ]; first | done | exact rfl)); (case' next26 => skip)
        (first | (refine' grow_skip rfl ?wt27 ?put27 ?next27; (case wt27 => rfl)) | (refine' grow_lit rfl ?wt27 ?run27 ?put27 ?next27; (case wt27 => rfl); (case run27 => (intro w' hS H; clear H; (obtain ⟨k0, k1, k2, -, -, -⟩ := (KN.out.keep hS).o3); clear hS; go_simp; first | done | exact rfl)))); (case put27 => (simp only [Act.put, List.setIfInBounds_toArray, List.set_cons_zero, List.set_cons_succ]; first | done | exact rfl)); (case' next27 => skip)
        (first | (refine' grow_skip rfl ?wt28 ?put28 ?next28; (case wt28 => rfl)) | (refine' grow_lit rfl ?wt28 ?run28 ?put28 ?next28; (case wt28 => rfl); (case run28 => (intro w' hS H; clear H; (obtain ⟨k0, k1, k2, -, -, -⟩ := (KN.out.keep hS).o3); clear hS; go_simp; first | done | exact rfl)))); (case put28 => (simp only [Act.put, List.setIfInBounds_toArray, List.set_cons_zero, List.set_cons_succ]; first | done | exact rfl)); (case' next28 => skip)
        (first | (refine' grow_skip rfl ?wt29 ?put29 ?next29; (case wt29 => rfl)) | (refine' grow_lit rfl ?wt29 ?run29 ?put29 ?next29; (case wt29 => rfl); (case run29 => (intro w' hS H; clear H; (obtain ⟨k0, k1, k2, -, -, -⟩ := (KN.out.keep hS).o3); clear hS; go_simp; first | done | exact rfl)))); (case put29 => (simp only [Act.put, List.setIfInBounds_toArray, List.set_cons_zero, List.set_cons_succ]; first | done | exact rfl)); (case' next29 => skip)
        (first | (refine' grow_skip rfl ?wt30 ?put30 ?next30; (case wt30 => rfl)) | (refine' grow_lit rfl ?wt30 ?run30 ?put30 ?next30; (case wt30 => rfl); (case run30 => (intro w' hS H; clear H; (obtain ⟨k0, k1, k2, -, -, -⟩ := (KN.out.keep hS).o3); clear hS; go_simp; first | done | exact rfl)))); (case put30 => (simp only [Act.put, List.setIfInBounds_toArray, List.set_cons_zero, List.set_cons_succ]; first | done | exact rfl)); (case' next30 => skip)
        (refine' grow_call (u := .int .i64 1152921504606846976) rfl Tryd.func17 (by kernel_rfl) rfl hGS rfl ?wt68 ?run68 ?put68 ?next68; (case wt68 => rfl); (case run68 => (intro w' hS H; exact tat_is N M _ LN X Y 1152921504606846976 w' HS.out HLNN.out (RN.out.below hS) ETN.out)); (case put68 => (simp only [Act.put, List.setIfInBounds_toArray, List.set_cons_zero, List.set_cons_succ]; first | done | exact rfl)); (case' next68 => skip))
        (first | (refine' grow_skip rfl ?wt31 ?put31 ?next31; (case wt31 => rfl)) | (refine' grow_lit rfl ?wt31 ?run31 ?put31 ?next31; (case wt31 => rfl); (case run31 => (intro w' hS H; clear H; (obtain ⟨k0, k1, k2, -, -, -⟩ := (KN.out.keep hS).o3); clear hS; go_simp; first | done | exact rfl)))); (case put31 => (simp only [Act.put, List.setIfInBounds_toArray, List.set_cons_zero, List.set_cons_succ]; first | done | exact rfl)); (case' next31 => skip)
        (first | (refine' grow_skip rfl ?wt32 ?put32 ?next32; (case wt32 => rfl)) | (refine' grow_lit rfl ?wt32 ?run32 ?put32 ?next32; (case wt32 => rfl); (case run32 => (intro w' hS H; clear H; (obtain ⟨k0, k1, k2, -, -, -⟩ := (KN.out.keep hS).o3); clear hS; go_simp; first | done | exact rfl)))); (case put32 => (simp only [Act.put, List.setIfInBounds_toArray, List.set_cons_zero, List.set_cons_succ]; first | done | exact rfl)); (case' next32 => skip)
        intro w11 hb _
        have HR2 : BansR N M w2.heap.size w LN zq zc w11 := ⟨CKN.out, KN.out.keep hb, RN.out.below hb, BN.out.trans (hb.mono BN.out.size)⟩
        have HBE := Lib.hid HBN.out
        have HRE := Lib.hid HR2
        clear KN RN BN hb hGS HR2
        go_wp2_with fail
        go_roundw
        case rel => exact ⟨k + 1, LN, zq, zc, by omega, by go_num, rfl, by rw [HBE.out], HRE⟩
        case measure => simp [intOf]; omega

      · have ET := Lib.hid ET'.out
        have HBN : Hid (bansC LN = bansC L + 1) := Lib.hid (by rw [HBN'.out, if_neg hT])
        have hT2 : (T == 1152921504606846976) = false := by simpa using hT
        have hT3 : (T != 1152921504606846976) = true := by simpa using hT
        clear ET' HBN' hT
        have hGS : Grows (fun w' => Below wr.heap.size wr w') := Grows.below wr
        refine' wp_growL _ (fun w' => Below wr.heap.size wr w') [[], [], [], [1, 2], [], [], [4, 5], [0, 3, 6], [7]] (Fact.lit _ :: Fact.lit _ :: Fact.lit _ :: Fact.lit _ :: Fact.lit _ :: Fact.lit _ :: Fact.lit _ :: Fact.lit _ :: Fact.lit _ :: []) (by kernel_rfl) rfl (by kernel_rfl) (Below.refl _ _).drew ?seqan
        case' seqan => skip
        (first | (refine' grow_skip rfl ?wt33 ?put33 ?next33; (case wt33 => rfl)) | (refine' grow_lit rfl ?wt33 ?run33 ?put33 ?next33; (case wt33 => rfl); (case run33 => (intro w' hS H; clear H; (obtain ⟨k0, k1, k2, -, -, -⟩ := (KT.out.keep hS).o3); clear hS; go_simp; first | done | exact rfl)))); (case put33 => (simp only [Act.put, List.setIfInBounds_toArray, List.set_cons_zero, List.set_cons_succ]; first | done | exact rfl)); (case' next33 => skip)
        (first | (refine' grow_skip rfl ?wt34 ?put34 ?next34; (case wt34 => rfl)) | (refine' grow_lit rfl ?wt34 ?run34 ?put34 ?next34; (case wt34 => rfl); (case run34 => (intro w' hS H; clear H; (obtain ⟨k0, k1, k2, -, -, -⟩ := (KT.out.keep hS).o3); clear hS; go_simp; first | done | exact rfl)))); (case put34 => (simp only [Act.put, List.setIfInBounds_toArray, List.set_cons_zero, List.set_cons_succ]; first | done | exact rfl)); (case' next34 => skip)
        (first | (refine' grow_skip rfl ?wt35 ?put35 ?next35; (case wt35 => rfl)) | (refine' grow_lit rfl ?wt35 ?run35 ?put35 ?next35; (case wt35 => rfl); (case run35 => (intro w' hS H; clear H; (obtain ⟨k0, k1, k2, -, -, -⟩ := (KT.out.keep hS).o3); clear hS; go_simp; first | done | exact rfl)))); (case put35 => (simp only [Act.put, List.setIfInBounds_toArray, List.set_cons_zero, List.set_cons_succ]; first | done | exact rfl)); (case' next35 => skip)
        (first | (refine' grow_skip rfl ?wt36 ?put36 ?next36; (case wt36 => rfl)) | (refine' grow_lit rfl ?wt36 ?run36 ?put36 ?next36; (case wt36 => rfl); (case run36 => (intro w' hS H; clear H; (obtain ⟨k0, k1, k2, -, -, -⟩ := (KT.out.keep hS).o3); clear hS; go_simp; first | done | exact rfl)))); (case put36 => (simp only [Act.put, List.setIfInBounds_toArray, List.set_cons_zero, List.set_cons_succ]; first | done | exact rfl)); (case' next36 => skip)
        (first | (refine' grow_skip rfl ?wt37 ?put37 ?next37; (case wt37 => rfl)) | (refine' grow_lit rfl ?wt37 ?run37 ?put37 ?next37; (case wt37 => rfl); (case run37 => (intro w' hS H; clear H; (obtain ⟨k0, k1, k2, -, -, -⟩ := (KT.out.keep hS).o3); clear hS; go_simp; first | done | exact rfl)))); (case put37 => (simp only [Act.put, List.setIfInBounds_toArray, List.set_cons_zero, List.set_cons_succ]; first | done | exact rfl)); (case' next37 => skip)
        (first | (refine' grow_skip rfl ?wt38 ?put38 ?next38; (case wt38 => rfl)) | (refine' grow_lit rfl ?wt38 ?run38 ?put38 ?next38; (case wt38 => rfl); (case run38 => (intro w' hS H; clear H; (obtain ⟨k0, k1, k2, -, -, -⟩ := (KT.out.keep hS).o3); clear hS; go_simp; first | done | exact rfl)))); (case put38 => (simp only [Act.put, List.setIfInBounds_toArray, List.set_cons_zero, List.set_cons_succ]; first | done | exact rfl)); (case' next38 => skip)
        (first | (refine' grow_skip rfl ?wt39 ?put39 ?next39; (case wt39 => rfl)) | (refine' grow_lit rfl ?wt39 ?run39 ?put39 ?next39; (case wt39 => rfl); (case run39 => (intro w' hS H; clear H; (obtain ⟨k0, k1, k2, -, -, -⟩ := (KT.out.keep hS).o3); clear hS; go_simp; first | done | exact rfl)))); (case put39 => (simp only [Act.put, List.setIfInBounds_toArray, List.set_cons_zero, List.set_cons_succ]; first | done | exact rfl)); (case' next39 => skip)
        (refine' grow_call (u := .int .i64 T) rfl Tryd.func17 (by kernel_rfl) rfl hGS rfl ?wt69 ?run69 ?put69 ?next69; (case wt69 => rfl); (case run69 => (intro w' hS H; exact tat_is N M _ L X Y T w' HS.out HLN.out (RL.out.below hS) ET.out)); (case put69 => (simp only [Act.put, List.setIfInBounds_toArray, List.set_cons_zero, List.set_cons_succ]; first | done | exact rfl)); (case' next69 => skip))
        (first | (refine' grow_skip rfl ?wt40 ?put40 ?next40; (case wt40 => rfl)) | (refine' grow_lit rfl ?wt40 ?run40 ?put40 ?next40; (case wt40 => rfl); (case run40 => (intro w' hS H; clear H; (obtain ⟨k0, k1, k2, -, -, -⟩ := (KT.out.keep hS).o3); clear hS; go_simp; first | done | exact rfl)))); (case put40 => (simp only [Act.put, List.setIfInBounds_toArray, List.set_cons_zero, List.set_cons_succ]; first | done | exact rfl)); (case' next40 => skip)
        intro w10 hb _
        have KT2 := Lib.hid (KT.out.keep hb)
        have RL2 := Lib.hid (RL.out.below hb)
        have BW2 := Lib.hid (BW.out.trans (hb.mono BW.out.size))
        clear KT RL BW hb hGS
        have KT := KT2
        have RL := RL2
        have BW := BW2
        clear KT2 RL2 BW2
        go_wp2_with fail
        have hGS : Grows (fun w' => Below w10.heap.size w10 w') := Grows.below w10
        refine' wp_thenX _ 11 [10] (fun w' => Below w10.heap.size w10 w') [[], [], [], [1, 2], [], [], [4, 5], [0, 3, 6], [7], [8], [8]] (Fact.lit _ :: Fact.lit _ :: Fact.lit _ :: Fact.lit _ :: Fact.lit _ :: Fact.lit _ :: Fact.lit _ :: Fact.prop _ _ :: Fact.prop _ _ :: Fact.prop _ _ :: Fact.lit _ :: []) (by kernel_rfl) rfl (by kernel_rfl) (fun _ _ _ _ _ h => h) (Below.refl _ _).drew ?purebn ?seqbn
        case' seqbn => skip
        (first | (refine' grow_skip rfl ?wt41 ?put41 ?next41; (case wt41 => rfl)) | (refine' grow_lit rfl ?wt41 ?run41 ?put41 ?next41; (case wt41 => rfl); (case run41 => (intro w' hS H; clear H; (obtain ⟨k0, k1, k2, -, -, -⟩ := (KT.out.keep hS).o3); clear hS; go_simp; first | done | exact rfl)))); (case put41 => (simp only [Act.put, List.setIfInBounds_toArray, List.set_cons_zero, List.set_cons_succ]; first | done | exact rfl)); (case' next41 => skip)
        (first | (refine' grow_skip rfl ?wt42 ?put42 ?next42; (case wt42 => rfl)) | (refine' grow_lit rfl ?wt42 ?run42 ?put42 ?next42; (case wt42 => rfl); (case run42 => (intro w' hS H; clear H; (obtain ⟨k0, k1, k2, -, -, -⟩ := (KT.out.keep hS).o3); clear hS; go_simp; first | done | exact rfl)))); (case put42 => (simp only [Act.put, List.setIfInBounds_toArray, List.set_cons_zero, List.set_cons_succ]; first | done | exact rfl)); (case' next42 => skip)
        (first | (refine' grow_skip rfl ?wt43 ?put43 ?next43; (case wt43 => rfl)) | (refine' grow_lit rfl ?wt43 ?run43 ?put43 ?next43; (case wt43 => rfl); (case run43 => (intro w' hS H; clear H; (obtain ⟨k0, k1, k2, -, -, -⟩ := (KT.out.keep hS).o3); clear hS; go_simp; first | done | exact rfl)))); (case put43 => (simp only [Act.put, List.setIfInBounds_toArray, List.set_cons_zero, List.set_cons_succ]; first | done | exact rfl)); (case' next43 => skip)
        (first | (refine' grow_skip rfl ?wt44 ?put44 ?next44; (case wt44 => rfl)) | (refine' grow_lit rfl ?wt44 ?run44 ?put44 ?next44; (case wt44 => rfl); (case run44 => (intro w' hS H; clear H; (obtain ⟨k0, k1, k2, -, -, -⟩ := (KT.out.keep hS).o3); clear hS; go_simp; first | done | exact rfl)))); (case put44 => (simp only [Act.put, List.setIfInBounds_toArray, List.set_cons_zero, List.set_cons_succ]; first | done | exact rfl)); (case' next44 => skip)
        (first | (refine' grow_skip rfl ?wt45 ?put45 ?next45; (case wt45 => rfl)) | (refine' grow_lit rfl ?wt45 ?run45 ?put45 ?next45; (case wt45 => rfl); (case run45 => (intro w' hS H; clear H; (obtain ⟨k0, k1, k2, -, -, -⟩ := (KT.out.keep hS).o3); clear hS; go_simp; first | done | exact rfl)))); (case put45 => (simp only [Act.put, List.setIfInBounds_toArray, List.set_cons_zero, List.set_cons_succ]; first | done | exact rfl)); (case' next45 => skip)
        (first | (refine' grow_skip rfl ?wt46 ?put46 ?next46; (case wt46 => rfl)) | (refine' grow_lit rfl ?wt46 ?run46 ?put46 ?next46; (case wt46 => rfl); (case run46 => (intro w' hS H; clear H; (obtain ⟨k0, k1, k2, -, -, -⟩ := (KT.out.keep hS).o3); clear hS; go_simp; first | done | exact rfl)))); (case put46 => (simp only [Act.put, List.setIfInBounds_toArray, List.set_cons_zero, List.set_cons_succ]; first | done | exact rfl)); (case' next46 => skip)
        (first | (refine' grow_skip rfl ?wt47 ?put47 ?next47; (case wt47 => rfl)) | (refine' grow_lit rfl ?wt47 ?run47 ?put47 ?next47; (case wt47 => rfl); (case run47 => (intro w' hS H; clear H; (obtain ⟨k0, k1, k2, -, -, -⟩ := (KT.out.keep hS).o3); clear hS; go_simp; first | done | exact rfl)))); (case put47 => (simp only [Act.put, List.setIfInBounds_toArray, List.set_cons_zero, List.set_cons_succ]; first | done | exact rfl)); (case' next47 => skip)
        (refine' grow_callP (p := WithR N M LN) (hp := fun v w w' h hb => h.below hb) rfl Tryd.func15 (by kernel_rfl) rfl hGS rfl ?wt70 ?run70 ?put70 ?next70; (case wt70 => rfl); (case run70 => (intro w' hS H; exact twith_own N M _ L X Y 1152921504606846976 LN w' CK.out (RL.out.below hS) (in64_chk CK.out) HXY.out wgt_inf ELN.out)); (case put70 => (intro v; simp only [Act.put, List.setIfInBounds_toArray, List.set_cons_zero, List.set_cons_succ]; first | done | exact rfl)); (case' next70 => intro v7))
        (refine' grow_prop (p := WithR N M LN) (hp := fun v w w' h hb => h.below hb) rfl ?wtbn8 ?runbn8 ?putbn8 ?nextbn8; (case wtbn8 => rfl); (case runbn8 => (intro w' hS H; (have hv : WithR N M LN v7 w' := H 7 (by decide)); refine ⟨v7, ?_, hv⟩; clear H hv hS; go_simp)); (case putbn8 => (intro v; simp only [Act.put, List.setIfInBounds_toArray, List.set_cons_zero, List.set_cons_succ]; first | done | exact rfl)); (case' nextbn8 => intro v8))
        (refine' grow_prop (p := (fun v w => TabR w v N M LN)) (hp := fun v w w' h hb => h.below hb) rfl ?wtbn9 ?runbn9 ?putbn9 ?nextbn9; (case wtbn9 => rfl); (case runbn9 => (intro w' hS H; (have hv : WithR N M LN v8 w' := H 8 (by decide)); (obtain ⟨tv, rfl, hv⟩ := hv); refine ⟨tv, ?_, hv⟩; clear H hv hS; go_simp)); (case putbn9 => (intro v; simp only [Act.put, List.setIfInBounds_toArray, List.set_cons_zero, List.set_cons_succ]; first | done | exact rfl)); (case' nextbn9 => intro v9))
        (refine' grow_lit (u := .nilIface) rfl ?wtbn10 ?runbn10 ?putbn10 ?nextbn10; (case wtbn10 => rfl); (case runbn10 => (intro w' hS H; (have hv : WithR N M LN v8 w' := H 8 (by decide)); (obtain ⟨tv, rfl, hv⟩ := hv); clear H hv hS; go_simp)); (case putbn10 => (simp only [Act.put, List.setIfInBounds_toArray, List.set_cons_zero, List.set_cons_succ]; first | done | exact rfl)); (case' nextbn10 => skip))
        case purebn =>
          refine PureX.one rfl (fun c' w' hS H => ?_)
          have hv : WithR N M LN (c'.tmps.getD 69 undef) w' := H 8 (by decide)
          obtain ⟨tv, e, -⟩ := hv
          have e' : c'.eval (.tmp 69) = .tuple #[tv, .nilIface] := e
          exact ⟨.nilIface, rfl, fun w'' => run_extract rfl _ _ _ e' rfl _ w'', rfl, rfl⟩
        intro w9 hb hk
        have h9 : TabR w9 v9 N M LN := hk 9 (by decide)
        obtain ⟨zu, rfl, hz⟩ := h9
        obtain ⟨zq, zc, rfl⟩ := hz.shape
        have HZ := Lib.hid hz
        have KT9 := Lib.hid (KT.out.keep hb)
        have BW9 := Lib.hid (BW.out.trans (hb.mono BW.out.size))
        clear hk hz hb
        obtain ⟨k0, k1, k2, f0, f1, f2⟩ := KT9.out.o3
        refine wpAny_ready (rs := [11]) (by kernel_rfl) (by simp) (AllReady.cons rfl (fun K hK => ?_) AllReady.nil)
        go_simp
        refine hK _ _ ?_
        clear hK K
        refine wpAny_ready (rs := [12]) (by kernel_rfl) (by simp) (AllReady.cons rfl (fun K hK => ?_) AllReady.nil)
        go_simp
        refine hK _ _ ?_
        clear hK K
        refine wpAny_done (by kernel_rfl) ?_ _
        clear k0 k1 k2 f0 f1 f2
        have hZ9 := (((HZ.out.setTab KT9.out 0 (.int .i64 N)).setTab (KT9.out.set 0 _) 1 (.int .i64 M)).setTab ((KT9.out.set 0 _).set 1 _) 2 (.slice zq LN.length zc))
        have hK9 := ((KT9.out.set 0 (.int .i64 N)).set 1 (.int .i64 M)).set 2 (.slice zq LN.length zc)
        have hB9 : Below w.heap.size w (((w9.setCell ⟨w2.heap.size, 0, none⟩ (.int .i64 N)).setCell ⟨w2.heap.size, 1, none⟩ (.int .i64 M)).setCell ⟨w2.heap.size, 2, none⟩ (.slice zq LN.length zc)) := by
          iterate 3 (refine Below.setCell ?_ (by simp only []; exact z2) _)
          exact BW9.out
        obtain ⟨W9, hW9⟩ := named (((w9.setCell ⟨w2.heap.size, 0, none⟩ (.int .i64 N)).setCell ⟨w2.heap.size, 1, none⟩ (.int .i64 M)).setCell ⟨w2.heap.size, 2, none⟩ (.slice zq LN.length zc))
        rw [← hW9] at hZ9 hK9 hB9 ⊢
        have KN : Hid (Blk W9 w2.heap.size #[.int .i64 N, .int .i64 M, .slice zq LN.length zc] 34) := Lib.hid (by simpa using hK9)
        have RN := Lib.hid (hZ9.row (by have := HLL.out; omega))
        have BN := Lib.hid hB9
        clear hZ9 hK9 hB9 hW9 HZ KT9 BW9 KT RL BW hGS
        go_wp2_with fail
        have hGS : Grows (fun w' => Below W9.heap.size W9 w') := Grows.below W9
        refine' wp_growL _ (fun w' => Below W9.heap.size W9 w') [[], [0], [1], [2], [2, 3], [2], [2, 4, 5], [2, 6], [7], [8], [8], [8], [8, 10, 11], [8], [8], [8, 13, 14], [8, 9, 12, 15], [8, 16], [8, 17]] (Fact.lit _ :: Fact.lit _ :: Fact.lit _ :: Fact.lit _ :: Fact.lit _ :: Fact.lit _ :: Fact.lit _ :: Fact.lit _ :: Fact.lit _ :: Fact.lit _ :: Fact.lit _ :: Fact.lit _ :: Fact.lit _ :: Fact.lit _ :: Fact.lit _ :: Fact.lit _ :: Fact.lit _ :: Fact.lit _ :: Fact.lit _ :: []) (by kernel_rfl) rfl (by kernel_rfl) (Below.refl _ _).drew ?seqcn
        case' seqcn => skip
        (first | (refine' grow_skip rfl ?wt48 ?put48 ?next48; (case wt48 => rfl)) | (refine' grow_lit rfl ?wt48 ?run48 ?put48 ?next48; (case wt48 => rfl); (case run48 => (intro w' hS H; clear H; (obtain ⟨k0, k1, k2, -, -, -⟩ := (KN.out.keep hS).o3); clear hS; go_simp; first | done | exact rfl)))); (case put48 => (simp only [Act.put, List.setIfInBounds_toArray, List.set_cons_zero, List.set_cons_succ]; first | done | exact rfl)); (case' next48 => skip)
        (first | (refine' grow_skip rfl ?wt49 ?put49 ?next49; (case wt49 => rfl)) | (refine' grow_lit rfl ?wt49 ?run49 ?put49 ?next49; (case wt49 => rfl); (case run49 => (intro w' hS H; clear H; (obtain ⟨k0, k1, k2, -, -, -⟩ := (KN.out.keep hS).o3); clear hS; go_simp; first | done | exact rfl)))); (case put49 => (simp only [Act.put, List.setIfInBounds_toArray, List.set_cons_zero, List.set_cons_succ]; first | done | exact rfl)); (case' next49 => skip)
        (first | (refine' grow_skip rfl ?wt50 ?put50 ?next50; (case wt50 => rfl)) | (refine' grow_lit rfl ?wt50 ?run50 ?put50 ?next50; (case wt50 => rfl); (case run50 => (intro w' hS H; clear H; (obtain ⟨k0, k1, k2, -, -, -⟩ := (KN.out.keep hS).o3); clear hS; go_simp; first | done | exact rfl)))); (case put50 => (simp only [Act.put, List.setIfInBounds_toArray, List.set_cons_zero, List.set_cons_succ]; first | done | exact rfl)); (case' next50 => skip)
        (first | (refine' grow_skip rfl ?wt51 ?put51 ?next51; (case wt51 => rfl)) | (refine' grow_lit rfl ?wt51 ?run51 ?put51 ?next51; (case wt51 => rfl); (case run51 => (intro w' hS H; clear H; (obtain ⟨k0, k1, k2, -, -, -⟩ := (KN.out.keep hS).o3); clear hS; go_simp; first | done | exact rfl)))); (case put51 => (simp only [Act.put, List.setIfInBounds_toArray, List.set_cons_zero, List.set_cons_succ]; first | done | exact rfl)); (case' next51 => skip)
        (refine' grow_call (u := .int .i64 (bansC L + 1)) rfl Tryd.func19 (by kernel_rfl) rfl hGS rfl ?wt71 ?run71 ?put71 ?next71; (case wt71 => rfl); (case run71 => (intro w' hS H; exact (tbans_any N M _ LN w' (RN.out.below hS)).mono (fun e w2 h => ⟨h.1.trans (by rw [HBN.out]), h.2⟩))); (case put71 => (simp only [Act.put, List.setIfInBounds_toArray, List.set_cons_zero, List.set_cons_succ]; first | done | exact rfl)); (case' next71 => skip))
        (first | (refine' grow_skip rfl ?wt52 ?put52 ?next52; (case wt52 => rfl)) | (refine' grow_lit rfl ?wt52 ?run52 ?put52 ?next52; (case wt52 => rfl); (case run52 => (intro w' hS H; clear H; (obtain ⟨k0, k1, k2, -, -, -⟩ := (KN.out.keep hS).o3); clear hS; go_simp; first | done | exact rfl)))); (case put52 => (simp only [Act.put, List.setIfInBounds_toArray, List.set_cons_zero, List.set_cons_succ]; first | done | exact rfl)); (case' next52 => skip)
        (first | (refine' grow_skip rfl ?wt53 ?put53 ?next53; (case wt53 => rfl)) | (refine' grow_lit rfl ?wt53 ?run53 ?put53 ?next53; (case wt53 => rfl); (case run53 => (intro w' hS H; clear H; (obtain ⟨k0, k1, k2, -, -, -⟩ := (KN.out.keep hS).o3); clear hS; go_simp; first | done | exact rfl)))); (case put53 => (simp only [Act.put, List.setIfInBounds_toArray, List.set_cons_zero, List.set_cons_succ]; first | done | exact rfl)); (case' next53 => skip)
        (first | (refine' grow_skip rfl ?wt54 ?put54 ?next54; (case wt54 => rfl)) | (refine' grow_lit rfl ?wt54 ?run54 ?put54 ?next54; (case wt54 => rfl); (case run54 => (intro w' hS H; clear H; (obtain ⟨k0, k1, k2, -, -, -⟩ := (KN.out.keep hS).o3); clear hS; go_simp; first | done | exact rfl)))); (case put54 => (simp only [Act.put, List.setIfInBounds_toArray, List.set_cons_zero, List.set_cons_succ]; first | done | exact rfl)); (case' next54 => skip)
        (first | (refine' grow_skip rfl ?wt55 ?put55 ?next55; (case wt55 => rfl)) | (refine' grow_lit rfl ?wt55 ?run55 ?put55 ?next55; (case wt55 => rfl); (case run55 => (intro w' hS H; clear H; (obtain ⟨k0, k1, k2, -, -, -⟩ := (KN.out.keep hS).o3); clear hS; go_simp; first | done | exact rfl)))); (case put55 => (simp only [Act.put, List.setIfInBounds_toArray, List.set_cons_zero, List.set_cons_succ]; first | done | exact rfl)); (case' next55 => skip)
        (first | (refine' grow_skip rfl ?wt56 ?put56 ?next56; (case wt56 => rfl)) | (refine' grow_lit rfl ?wt56 ?run56 ?put56 ?next56; (case wt56 => rfl); (case run56 => (intro w' hS H; clear H; (obtain ⟨k0, k1, k2, -, -, -⟩ := (KN.out.keep hS).o3); clear hS; go_simp; first | done | exact rfl)))); (case put56 => (simp only [Act.put, List.setIfInBounds_toArray, List.set_cons_zero, List.set_cons_succ]; first | done | exact rfl)); (case' next56 => skip)
        (first | (refine' grow_skip rfl ?wt57 ?put57 ?next57; (case wt57 => rfl)) | (refine' grow_lit rfl ?wt57 ?run57 ?put57 ?next57; (case wt57 => rfl); (case run57 => (intro w' hS H; clear H; (obtain ⟨k0, k1, k2, -, -, -⟩ := (KN.out.keep hS).o3); clear hS; go_simp; first | done | exact rfl)))); (case put57 => (simp only [Act.put, List.setIfInBounds_toArray, List.set_cons_zero, List.set_cons_succ]; first | done | exact rfl)); (case' next57 => skip)
        (first | (refine' grow_skip rfl ?wt58 ?put58 ?next58; (case wt58 => rfl)) | (refine' grow_lit rfl ?wt58 ?run58 ?put58 ?next58; (case wt58 => rfl); (case run58 => (intro w' hS H; clear H; (obtain ⟨k0, k1, k2, -, -, -⟩ := (KN.out.keep hS).o3); clear hS; go_simp; first | done | exact rfl)))); (case put58 => (simp only [Act.put, List.setIfInBounds_toArray, List.set_cons_zero, List.set_cons_succ]; first | done | exact rfl)); (case' next58 => skip)
        (first | (refine' grow_skip rfl ?wt59 ?put59 ?next59; (case wt59 => rfl)) | (refine' grow_lit rfl ?wt59 ?run59 ?put59 ?next59; (case wt59 => rfl); (case run59 => (intro w' hS H; clear H; (obtain ⟨k0, k1, k2, -, -, -⟩ := (KN.out.keep hS).o3); clear hS; go_simp; first | done | exact rfl)))); (case put59 => (simp only [Act.put, List.setIfInBounds_toArray, List.set_cons_zero, List.set_cons_succ]; first | done | exact rfl)); (case' next59 => skip)
        (first | (refine' grow_skip rfl ?wt60 ?put60 ?next60; (case wt60 => rfl)) | (refine' grow_lit rfl ?wt60 ?run60 ?put60 ?next60; (case wt60 => rfl); (case run60 => (intro w' hS H; clear H; (obtain ⟨k0, k1, k2, -, -, -⟩ := (KN.out.keep hS).o3); clear hS; go_simp; first | done | exact rfl)))); (case put60 => (simp only [Act.put, List.setIfInBounds_toArray, List.set_cons_zero, List.set_cons_succ]; first | done | exact rfl)); (case' next60 => skip)
        (first | (refine' grow_skip rfl ?wt61 ?put61 ?next61; (case wt61 => rfl)) | (refine' grow_lit rfl ?wt61 ?run61 ?put61 ?next61; (case wt61 => rfl); (case run61 => (intro w' hS H; clear H; (obtain ⟨k0, k1, k2, -, -, -⟩ := (KN.out.keep hS).o3); clear hS; go_simp; first | done | exact rfl)))); (case put61 => (simp only [Act.put, List.setIfInBounds_toArray, List.set_cons_zero, List.set_cons_succ]; first | done | exact rfl)); (case' next61 => skip)
        (first | (refine' grow_skip rfl ?wt62 ?put62 ?next62; (case wt62 => rfl)) | (refine' grow_lit rfl ?wt62 ?run62 ?put62 ?next62; (case wt62 => rfl); (case run62 => (intro w' hS H; clear H; (obtain ⟨k0, k1, k2, -, -, -⟩ := (KN.out.keep hS).o3); clear hS; go_simp; first | done | exact rfl)))); (case put62 => (simp only [Act.put, List.setIfInBounds_toArray, List.set_cons_zero, List.set_cons_succ]; first | done | exact rfl)); (case' next62 => skip)
        (refine' grow_call (u := .int .i64 1152921504606846976) rfl Tryd.func17 (by kernel_rfl) rfl hGS rfl ?wt72 ?run72 ?put72 ?next72; (case wt72 => rfl); (case run72 => (intro w' hS H; exact tat_is N M _ LN X Y 1152921504606846976 w' HS.out HLNN.out (RN.out.below hS) ETN.out)); (case put72 => (simp only [Act.put, List.setIfInBounds_toArray, List.set_cons_zero, List.set_cons_succ]; first | done | exact rfl)); (case' next72 => skip))
        (first | (refine' grow_skip rfl ?wt63 ?put63 ?next63; (case wt63 => rfl)) | (refine' grow_lit rfl ?wt63 ?run63 ?put63 ?next63; (case wt63 => rfl); (case run63 => (intro w' hS H; clear H; (obtain ⟨k0, k1, k2, -, -, -⟩ := (KN.out.keep hS).o3); clear hS; go_simp; first | done | exact rfl)))); (case put63 => (simp only [Act.put, List.setIfInBounds_toArray, List.set_cons_zero, List.set_cons_succ]; first | done | exact rfl)); (case' next63 => skip)
        (first | (refine' grow_skip rfl ?wt64 ?put64 ?next64; (case wt64 => rfl)) | (refine' grow_lit rfl ?wt64 ?run64 ?put64 ?next64; (case wt64 => rfl); (case run64 => (intro w' hS H; clear H; (obtain ⟨k0, k1, k2, -, -, -⟩ := (KN.out.keep hS).o3); clear hS; go_simp; first | done | exact rfl)))); (case put64 => (simp only [Act.put, List.setIfInBounds_toArray, List.set_cons_zero, List.set_cons_succ]; first | done | exact rfl)); (case' next64 => skip)
        intro w11 hb _
        have HR2 : BansR N M w2.heap.size w LN zq zc w11 := ⟨CKN.out, KN.out.keep hb, RN.out.below hb, BN.out.trans (hb.mono BN.out.size)⟩
        have HBE := Lib.hid HBN.out
        have HRE := Lib.hid HR2
        clear KN RN BN hb hGS HR2
        go_wp2_with fail
        go_roundw
        case rel => exact ⟨k + 1, LN, zq, zc, by omega, by go_num, rfl, by rw [HBE.out], HRE⟩
        case measure => simp [intOf]; omega

    · have hway : (l.length ≤ k ∧ ¬ k < l.length) ∨ (k < l.length ∧ N * M = 0) := by
        by_cases h1 : k < l.length
        · right
          exact ⟨h1, by have := fun h2 => hgo ⟨h1, h2⟩; omega⟩
        · left; omega
      clear hgo
      have o1 : turnAt N M L N 0 = 1152921504606846976 := by unfold turnAt; rw [if_pos (by omega)]
      have o2 : turnAt N M L 0 M = 1152921504606846976 := by unfold turnAt; rw [if_pos (by omega)]
      have o3 : turnAt N M L (-1) 0 = 1152921504606846976 := by unfold turnAt; rw [if_pos (by omega)]
      have o4 : turnAt N M L 0 (-1) = 1152921504606846976 := by unfold turnAt; rw [if_pos (by omega)]
      have O1 := Lib.hid o1
      have O2 := Lib.hid o2
      have O3 := Lib.hid o3
      have O4 := Lib.hid o4
      clear o1 o2 o3 o4
      obtain ⟨k0, k1, k2, -, -, -⟩ := KT.out.o3
      rcases hway with ⟨e1, e2⟩ | ⟨e1, e2⟩
      all_goals
        go_wp2_with fail
        refine (tcheck_ok N M _ L _ RL.out (in64_chk CK.out) CK.out).mono ?_
        rintro e w' ⟨rfl, hb⟩
        have H1 := Lib.hid hb
        clear hb k0 k1 k2
        obtain ⟨k0, k1, k2, -, -, -⟩ := (KT.out.keep H1.out).o3
        go_wp2_with fail
        refine (tat_is N M _ L N 0 1152921504606846976 _ HS.out HLN.out (RL.out.below H1.out) O1.out).mono ?_
        rintro e w' ⟨rfl, hb⟩
        have H2 := Lib.hid (H1.out.trans (hb.mono H1.out.size))
        clear hb k0 k1 k2
        obtain ⟨k0, k1, k2, -, -, -⟩ := (KT.out.keep H2.out).o3
        go_wp2_with fail
        refine (tat_is N M _ L 0 M 1152921504606846976 _ HS.out HLN.out (RL.out.below H2.out) O2.out).mono ?_
        rintro e w' ⟨rfl, hb⟩
        have H3 := Lib.hid (H2.out.trans (hb.mono H2.out.size))
        clear hb k0 k1 k2
        obtain ⟨k0, k1, k2, -, -, -⟩ := (KT.out.keep H3.out).o3
        go_wp2_with fail
        refine (tat_is N M _ L (-1) 0 1152921504606846976 _ HS.out HLN.out (RL.out.below H3.out) O3.out).mono ?_
        rintro e w' ⟨rfl, hb⟩
        have H4 := Lib.hid (H3.out.trans (hb.mono H3.out.size))
        clear hb k0 k1 k2
        obtain ⟨k0, k1, k2, -, -, -⟩ := (KT.out.keep H4.out).o3
        go_wp2_with fail
        refine (tat_is N M _ L 0 (-1) 1152921504606846976 _ HS.out HLN.out (RL.out.below H4.out) O4.out).mono ?_
        rintro e w' ⟨rfl, hb⟩
        have H5 := Lib.hid (H4.out.trans (hb.mono H4.out.size))
        clear hb k0 k1 k2
        obtain ⟨k0, k1, k2, -, -, -⟩ := (KT.out.keep H5.out).o3
        go_wp2_with fail
        go_ret
        exact ⟨rfl, BW.out.trans (H5.out.mono BW.out.size)⟩

theorem bans_walk (a b : Int) (v : Value) (l : List Int) (w : World) (hg : ErrT w) (a0 : 0 ≤ a) (a1 : a ≤ 255) (b0 : 0 ≤ b) (b1 : b ≤ 255) (hv : U16s w v l) (hin : InU16 l) :
    Calls Tryd.prog 6 #[.int .u8 a, .int .u8 b, v] w fun e w' => e = .returned (.bool true) ∧ Below w.heap.size w w' := by
  by_cases h : 300 < l.length
  · exact bans_long a b v l w hg a0 a1 b0 b1 hv hin h
  · exact bans_ok a b v l w hg a0 a1 b0 b1 hv hin (by omega)

set_option maxRecDepth 100000 in
theorem turnBans_walks : Walks laidAll 6 Tryd.f6 := by
  intro H enc W args ds g
  obtain ⟨ps, hA⟩ := g.reads
  obtain ⟨base, hval⟩ := g.okay
  rw [Tryd.params6] at hA hval
  obtain ⟨v0, vs0, d0, ds0, p0, q0, hargs, rfl, rfl, h0, r0⟩ := trodAll_cons hA
  obtain ⟨v1, vs1, d1, ds1, p1, q1, rfl, rfl, rfl, h1, r1⟩ := trodAll_cons r0
  obtain ⟨v2, vs2, d2, ds2, p2, q2, rfl, rfl, rfl, h2, r2⟩ := trodAll_cons r1
  obtain ⟨rfl, rfl, rfl⟩ := trodAll_nil r2
  obtain rfl : args = #[v0, v1, v2] := Array.toList_inj.1 hargs
  obtain ⟨x0, rfl, rfl, rfl, w0⟩ := open_int Tryd.underlying5 (hval 0 5 v0 rfl rfl) h0
  obtain ⟨x1, rfl, rfl, rfl, w1⟩ := open_int Tryd.underlying5 (hval 1 5 v1 rfl rfl) h1
  obtain ⟨x2, w2, u2⟩ := open_u16s (hval 2 55 v2 rfl rfl) h2
  exact bans_walk x0 x1 v2 x2 W (errT_of_laid g.laid) (wfu8 w0).1 (wfu8 w0).2 (wfu8 w1).1 (wfu8 w1).2 w2 u2

theorem turnBans_row : Rows.TurnBansSaid :=
  OpenClaim.holds_of_wide 6 Tryd.f6 rfl rfl rfl rfl rfl rfl rfl ⟨rfl, rfl, rfl, rfl, rfl⟩ rfl rfl rfl rfl rfl (by kernel_rfl) Tryd.func6 (by kernel_rfl)
    (of_decide_eq_true (by kernel_rfl)) (by unfold Func.isWrapper; rw [if_neg (of_decide_eq_false (by kernel_rfl))]; exact ⟨rfl, rfl⟩)
    (fun os started H enc _ => law_lifted (s := Rows.turnBansSpec) (L := laidAll) Tryd.func6 (by kernel_rfl) rfl (by kernel_rfl)
      (fun H ds hl => by
        rw [Tryd.params6] at hl
        match ds, hl with
        | [_, _, _], _ => exact ⟨rfl, rfl, rfl⟩)
      (by kernel_rfl) os started H enc
      (ChangeSpec.witness_at (enc := enc) (C := Tryd.checked) (os := os) (X := fun w _ => laidMetH Tryd.prog laidAll w) false (laidWorld os) #[.int .u8 0, .int .u8 0, .slice none 0 0] 8 rfl (by kernel_rfl) (by kernel_rfl) (by kernel_rfl) (by kernel_rfl) (by kernel_rfl) (laidWorld_met os _))
      turnBans_walks)

theorem turnBans_card : Rows.TurnBansCardSaid :=
  Claim7.holds_tied_plain_at .later [] laidKindsAll true (Rows.turnBansCard.stood.harness) true
    turnBans_row (fun _ h => by cases h) (by kernel_rfl) (fun _ h => by cases h) turnBans_row_tie rfl ⟨rfl, rfl⟩ (by kernel_rfl) rfl
    (fun f fn hf hfn => by
      obtain rfl : f = 6 := Option.some.inj ((show Tryd.prog.funcNamed "roundsman/roundsmanlaw2.TurnBans" = some 6 by kernel_rfl).symm.trans hf) |>.symm
      obtain rfl : fn = Tryd.f6 := (Option.some.inj (Tryd.func6.symm.trans hfn)).symm
      exact ⟨by kernel_rfl, fun j t ht => by
        rw [Tryd.params6] at ht
        exact stand_all #[5, 5, 55] (by kernel_rfl) j t ht⟩)
    (by kernel_rfl)
#print axioms turnBans_card

end Go.Proofs.YtboimdgldjimpaaDoor
