/-
  PROVED: over so many rows of edges, side by side, as many go as there are rows; with some of them cut through so many less. For every two numbers, every row of marks.
-/
import Derived.Test.YtgihaakgadmidaaDoorFlKn
import Derived.Test.YtgihaakgadmidaaDoorFlLm
import Derived.Test.YtgihaakgadmidaaDoorFlAp
import Derived.Test.YtgihaakgadmidaaDoorLaid9
import Derived.RegionTactic
import Derived.BigQuiet
import Derived.IntWalk
import Derived.Test.YtgihaakgadmidaaDoorCards
import Derived.Test.YtgihaakgadmidaaDoorTie
import Derived.SevenTiedAt
import Derived.Test.YtgihaakgadmidaaDoorFlRo
namespace Go.Proofs.YtgihaakgadmidaaDoor
open Go.ChangeShapes Go.WideShapes Go.ChangeAt Go.RowKit

set_option maxHeartbeats 8000000 in
set_option maxRecDepth 100000 in
theorem rows_walk (a b : Int) (tv : Value) (M0 : List Bool) (w : World) (hg : ErrT w) (a0 : 0 ≤ a) (_ : a ≤ 255) (b0 : 0 ≤ b) (_ : b ≤ 255) (ht : Bools w tv M0) :
    Calls Tryd.prog 6 #[.int .u8 a, .int .u8 b, tv] w fun e w' => e = .returned (.bool true) ∧ Below w.heap.size w w' := by
  obtain ⟨bq0, bc0, rfl⟩ := ht.shape
  have HG := Lib.hid hg
  have HB := Lib.hid (Below.refl w.heap.size w)
  have HST := Lib.hid ht
  clear hg ht
  go_enter Tryd.func6, Tryd.ntmps6
  go_wp2_with fail
  refine (known9_any _ HG.out).mono ?_
  rintro e w1 ⟨rfl, hb⟩
  have HB_ := Lib.hid (bOn6 HB.out hb)
  have HST_ := Lib.hid (HST.out.below hb)
  clear HB HST
  have HB := HB_
  have HST := HST_
  clear HB_ HST_
  clear hb
  obtain ⟨K, hK, hKN⟩ : ∃ K : Nat, a.tmod 12 = (K : Int) ∧ K < 12 := by
    obtain ⟨s, h1, h2⟩ := remN (N := 12) a0 (by decide)
    exact ⟨s, h1, h2⟩
  obtain ⟨L, hL, hLN⟩ : ∃ L : Nat, b.tmod 8 = (L : Int) ∧ L < 8 := by
    obtain ⟨s, h1, h2⟩ := remN (N := 8) b0 (by decide)
    exact ⟨s, h1, h2⟩
  obtain ⟨M, hM⟩ : ∃ M : Nat, L + 1 = M := ⟨_, rfl⟩
  have hML : (1 : Int) + (L : Int) = (M : Int) := by omega
  have wk8 : IntKind.u8.wrap (K : Int) = K := IntWalk.u8_in _ (by omega)
  have wl8 : IntKind.u8.wrap (L : Int) = L := IntWalk.u8_in _ (by omega)
  have wk64 : IntKind.i64.wrap (K : Int) = K := IntWalk.i64_in _ (by omega)
  have wl64 : IntKind.i64.wrap (L : Int) = L := IntWalk.i64_in _ (by omega)
  have wm64 : IntKind.i64.wrap (M : Int) = M := IntWalk.i64_in _ (by omega)
  have HKM : Hid (K ≤ 11 ∧ 1 ≤ M ∧ M ≤ 8) := Lib.hid (by omega)
  clear hM hKN hLN
  go_wp2_with fail
  clear hK hL hML wk8 wl8 wk64 wl64 wm64
  clear a0 b0
  go_loopw [9, 10, 11, 12, 13, 14, 15, 16] (fun ev nv wv iv _ _ _ _ wr => OutRel w1 K ev nv wv iv wr) (fun _ _ _ iv _ _ _ _ _ => K - (intOf iv).toNat)
  case atStart => exact ⟨2, [], 0, 0, Nat.zero_le _, rfl, rfl, rfl, by omega, by simp, Nat.le_refl _, OtQ.nil, ⟨World.ownsRow_nil _ _ _ _, Below.refl _ _⟩⟩
  case round =>
    obtain ⟨N, E, V, i, hi, rfl, rfl, rfl, hN, hE, hV, hot, hra⟩ := hrel
    have HOT := Lib.hid hot
    have HRA := Lib.hid hra
    have HBD : Hid (N ≤ 2 + 8 * i ∧ E.length ≤ 8 * i ∧ V ≤ i ∧ i ≤ K) := Lib.hid ⟨hN, hE, hV, hi⟩
    clear hN hE hV hot hra
    by_cases hlt : i < K
    · have hki : (i : Int) < (K : Int) := by omega
      by_cases hc : i < M0.length
      · have hci : (i : Int) < (M0.length : Int) := by omega
        have dl : decide ((M0.length : Int) ≤ (i : Int)) = false := decide_eq_false (by omega)
        obtain ⟨tb, to, rfl, tc, tl⟩ := (HST.out.below HRA.out.b).atN hc
        generalize setB M0 i = bb at tc
        clear hc
        cases bb
        · go_wp2_with fail
          clear dl
          go_loopw [9, 10, 13, 15, 16] (fun ev nv av jv _ wr => InRel w1 i M V true ev nv av jv wr) (fun _ _ _ jv _ _ => M - (intOf jv).toNat)
          case atStart => exact ⟨N, E, 0, 0, Nat.zero_le _, rfl, rfl, rfl, by have := HBD.out; omega, by have := HBD.out; omega, by simpa using HOT.out.start, fun _ => by decide, fun h => absurd h (by have := HKM.out; omega), ⟨HRA.out.r, HRA.out.b⟩⟩
          case round =>
            obtain ⟨N1, E1, a1, j, hj, rfl, rfl, rfl, hN1, hE1, hrw, hne, hone, hra⟩ := hrel
            have HRW := Lib.hid hrw
            have HR1 := Lib.hid hra
            have HNE := Lib.hid hne
            have HON := Lib.hid hone
            have HBE : Hid (N1 ≤ 2 + 8 * i + j ∧ E1.length ≤ 8 * i + j ∧ i ≤ 11 ∧ V ≤ 11 ∧ N1 ≤ 98) := Lib.hid (by have := HBD.out; have := HKM.out; omega)
            clear hN1 hE1 hrw hne hone hra
            by_cases hlt2 : j < M
            · have hji : (j : Int) < (M : Int) := by omega
              have HA : Hid (a1 ≠ 1) := Lib.hid (HNE.out hlt2)
              have wm1 : IntKind.i64.wrap ((M : Int) - 1) = (M : Int) - 1 := IntWalk.i64_in _ (by have := HKM.out; omega)
              have wn1 : IntKind.i64.wrap ((N1 : Int) + 1) = (N1 : Int) + 1 := IntWalk.i64_in _ (by have := HBE.out; omega)
              have wj1 : IntKind.i64.wrap ((j : Int) + 1) = (j : Int) + 1 := IntWalk.i64_in _ (by have := HKM.out; omega)
              obtain ⟨H, hH⟩ : ∃ H, M / 2 = H := ⟨_, rfl⟩
              have hq2 : (M : Int).tdiv 2 = (H : Int) := by rw [Int.tdiv_eq_ediv_of_nonneg (by omega)]; omega
              have hq1 : IntKind.i64.wrap (H : Int) = (H : Int) := IntWalk.i64_in _ (by have := HKM.out; omega)
              clear HNE HON
              by_cases hlast : j + 1 < M
              · have d1 : decide ((j : Int) < (M : Int) - 1) = true := decide_eq_true (by omega)
                have HLT := Lib.hid hlast
                clear hlast
                by_cases hmid : j = H
                · have dm : ((j : Int) != (H : Int)) = false := by simp only [bne_eq_false_iff_eq]; omega
                  have HNX : Hid (RwQ (N1 + 1) (E1 ++ [(a1, N1)]) V N1 (true || decide (j + 1 ≤ M / 2))) := Lib.hid (HRW.out.fresh HA.out)
                  clear hmid hH
                  obtain ⟨y, hy⟩ := named (wr.alloc (.cells #[.int .i64 (a1 : Int), .int .i64 (N1 : Int)] 43))
                  have hby : Below wr.heap.size wr y := by rw [hy]; exact below_alloc1 _
                  obtain ⟨gy, hgy⟩ : ∃ g, wr.heap.size = g := ⟨_, rfl⟩
                  have ky : Blk y gy #[.int .i64 (a1 : Int), .int .i64 ((N1 : Nat) : Int)] 43 := by rw [hy]; exact Blk.new _ _ _ _ hgy
                  obtain ⟨q8, n8, c8, w8, hr8, hra8⟩ := HR1.out.app (M := N1 + 1) hby ky (by have := HBE.out; have := HKM.out; omega)
                  have HR8 := Lib.hid hr8
                  have HRA8 := Lib.hid hra8
                  have e8 := hy.symm
                  clear hby ky hr8 hra8 hy
                  go_wp2_with (at_builtin; refine wpList_append_run (by rfl) _ _ _ rfl _ _ _ rfl rfl HR8.out ?_)
                  clear e8 hgy
                  go_roundw
                  case rel => exact ⟨N1 + 1, E1 ++ [(a1, N1)], N1, j + 1, hlt2, by go_num, rfl, by go_num, by have := HBE.out; omega, by rw [List.length_append, List.length_singleton]; have := HBE.out; omega, HNX.out, fun _ => by have := HRW.out.two; omega, fun h => by have := HLT.out; omega, HRA8.out⟩
                  case measure => simp [intOf]; omega
                · have dm : ((j : Int) != (H : Int)) = true := by simp only [bne_iff_ne, ne_eq]; omega
                  have HNX : Hid (RwQ (N1 + 1) (E1 ++ [(a1, N1)]) V N1 (true || decide (j + 1 ≤ M / 2))) := Lib.hid (HRW.out.fresh HA.out)
                  clear hmid hH
                  obtain ⟨y, hy⟩ := named (wr.alloc (.cells #[.int .i64 (a1 : Int), .int .i64 (N1 : Int)] 43))
                  have hby : Below wr.heap.size wr y := by rw [hy]; exact below_alloc1 _
                  obtain ⟨gy, hgy⟩ : ∃ g, wr.heap.size = g := ⟨_, rfl⟩
                  have ky : Blk y gy #[.int .i64 (a1 : Int), .int .i64 ((N1 : Nat) : Int)] 43 := by rw [hy]; exact Blk.new _ _ _ _ hgy
                  obtain ⟨q8, n8, c8, w8, hr8, hra8⟩ := HR1.out.app (M := N1 + 1) hby ky (by have := HBE.out; have := HKM.out; omega)
                  have HR8 := Lib.hid hr8
                  have HRA8 := Lib.hid hra8
                  have e8 := hy.symm
                  clear hby ky hr8 hra8 hy
                  go_wp2_with (at_builtin; refine wpList_append_run (by rfl) _ _ _ rfl _ _ _ rfl rfl HR8.out ?_)
                  clear e8 hgy
                  go_roundw
                  case rel => exact ⟨N1 + 1, E1 ++ [(a1, N1)], N1, j + 1, hlt2, by go_num, rfl, by go_num, by have := HBE.out; omega, by rw [List.length_append, List.length_singleton]; have := HBE.out; omega, HNX.out, fun _ => by have := HRW.out.two; omega, fun h => by have := HLT.out; omega, HRA8.out⟩
                  case measure => simp [intOf]; omega
              · have d1 : decide ((j : Int) < (M : Int) - 1) = false := decide_eq_false (by omega)
                have HLA : Hid (j + 1 = M) := Lib.hid (by omega)
                clear hlast
                by_cases hmid : j = H
                · have dm : ((j : Int) != (H : Int)) = false := by simp only [bne_eq_false_iff_eq]; omega
                  have HNX : Hid (RwQ (N1) (E1 ++ [(a1, 1)]) V 1 (true || decide (j + 1 ≤ M / 2))) := Lib.hid (HRW.out.last HA.out)
                  clear hmid hH
                  obtain ⟨y, hy⟩ := named (wr.alloc (.cells #[.int .i64 (a1 : Int), .int .i64 1] 43))
                  have hby : Below wr.heap.size wr y := by rw [hy]; exact below_alloc1 _
                  obtain ⟨gy, hgy⟩ : ∃ g, wr.heap.size = g := ⟨_, rfl⟩
                  have ky : Blk y gy #[.int .i64 (a1 : Int), .int .i64 (((1 : Nat)) : Int)] 43 := by rw [hy]; exact Blk.new _ _ _ _ hgy
                  obtain ⟨q8, n8, c8, w8, hr8, hra8⟩ := HR1.out.app (M := N1) hby ky (by have := HBE.out; have := HKM.out; omega)
                  have HR8 := Lib.hid hr8
                  have HRA8 := Lib.hid hra8
                  have e8 := hy.symm
                  clear hby ky hr8 hra8 hy
                  go_wp2_with (at_builtin; refine wpList_append_run (by rfl) _ _ _ rfl _ _ _ rfl rfl HR8.out ?_)
                  clear e8 hgy
                  go_roundw
                  case rel => exact ⟨N1, E1 ++ [(a1, 1)], 1, j + 1, hlt2, rfl, rfl, by go_num, by have := HBE.out; omega, by rw [List.length_append, List.length_singleton]; have := HBE.out; omega, HNX.out, fun h => by have := HLA.out; omega, fun _ => rfl, HRA8.out⟩
                  case measure => simp [intOf]; omega
                · have dm : ((j : Int) != (H : Int)) = true := by simp only [bne_iff_ne, ne_eq]; omega
                  have HNX : Hid (RwQ (N1) (E1 ++ [(a1, 1)]) V 1 (true || decide (j + 1 ≤ M / 2))) := Lib.hid (HRW.out.last HA.out)
                  clear hmid hH
                  obtain ⟨y, hy⟩ := named (wr.alloc (.cells #[.int .i64 (a1 : Int), .int .i64 1] 43))
                  have hby : Below wr.heap.size wr y := by rw [hy]; exact below_alloc1 _
                  obtain ⟨gy, hgy⟩ : ∃ g, wr.heap.size = g := ⟨_, rfl⟩
                  have ky : Blk y gy #[.int .i64 (a1 : Int), .int .i64 (((1 : Nat)) : Int)] 43 := by rw [hy]; exact Blk.new _ _ _ _ hgy
                  obtain ⟨q8, n8, c8, w8, hr8, hra8⟩ := HR1.out.app (M := N1) hby ky (by have := HBE.out; have := HKM.out; omega)
                  have HR8 := Lib.hid hr8
                  have HRA8 := Lib.hid hra8
                  have e8 := hy.symm
                  clear hby ky hr8 hra8 hy
                  go_wp2_with (at_builtin; refine wpList_append_run (by rfl) _ _ _ rfl _ _ _ rfl rfl HR8.out ?_)
                  clear e8 hgy
                  go_roundw
                  case rel => exact ⟨N1, E1 ++ [(a1, 1)], 1, j + 1, hlt2, rfl, rfl, by go_num, by have := HBE.out; omega, by rw [List.length_append, List.length_singleton]; have := HBE.out; omega, HNX.out, fun h => by have := HLA.out; omega, fun _ => rfl, HRA8.out⟩
                  case measure => simp [intOf]; omega
            · obtain rfl : j = M := by omega
              obtain rfl : a1 = 1 := HON.out rfl
              have hOT : OtQ N1 E1 ((V + 1 : Nat) : Int) := by
                have h := HRW.out
                rw [show (true || decide (j ≤ j / 2)) = true from rfl] at h
                have := h.done
                simpa using this
              have HOT2 := Lib.hid hOT
              clear hOT
              have wv1 : IntKind.i64.wrap ((V : Int) + 1) = (V : Int) + 1 := IntWalk.i64_in _ (by have := HBE.out; omega)
              have wi1 : IntKind.i64.wrap ((i : Int) + 1) = (i : Int) + 1 := IntWalk.i64_in _ (by have := HBE.out; omega)
              clear HNE HON HRW hlt2 hj
              go_wp2_with fail
              go_roundw
              case rel => exact ⟨N1, E1, V + 1, i + 1, hlt, rfl, by go_num, by go_num, by have := HBE.out; have := HKM.out; omega, by have := HBE.out; have := HKM.out; omega, by have := HBD.out; omega, HOT2.out, ⟨HR1.out.r, HR1.out.b⟩⟩
              case measure => simp [intOf]; omega
        · go_wp2_with fail
          clear dl
          go_loopw [9, 10, 13, 15, 16] (fun ev nv av jv _ wr => InRel w1 i M V false ev nv av jv wr) (fun _ _ _ jv _ _ => M - (intOf jv).toNat)
          case atStart => exact ⟨N, E, 0, 0, Nat.zero_le _, rfl, rfl, rfl, by have := HBD.out; omega, by have := HBD.out; omega, by simpa using HOT.out.start, fun _ => by decide, fun h => absurd h (by have := HKM.out; omega), ⟨HRA.out.r, HRA.out.b⟩⟩
          case round =>
            obtain ⟨N1, E1, a1, j, hj, rfl, rfl, rfl, hN1, hE1, hrw, hne, hone, hra⟩ := hrel
            have HRW := Lib.hid hrw
            have HR1 := Lib.hid hra
            have HNE := Lib.hid hne
            have HON := Lib.hid hone
            have HBE : Hid (N1 ≤ 2 + 8 * i + j ∧ E1.length ≤ 8 * i + j ∧ i ≤ 11 ∧ V ≤ 11 ∧ N1 ≤ 98) := Lib.hid (by have := HBD.out; have := HKM.out; omega)
            clear hN1 hE1 hrw hne hone hra
            by_cases hlt2 : j < M
            · have hji : (j : Int) < (M : Int) := by omega
              have HA : Hid (a1 ≠ 1) := Lib.hid (HNE.out hlt2)
              have wm1 : IntKind.i64.wrap ((M : Int) - 1) = (M : Int) - 1 := IntWalk.i64_in _ (by have := HKM.out; omega)
              have wn1 : IntKind.i64.wrap ((N1 : Int) + 1) = (N1 : Int) + 1 := IntWalk.i64_in _ (by have := HBE.out; omega)
              have wj1 : IntKind.i64.wrap ((j : Int) + 1) = (j : Int) + 1 := IntWalk.i64_in _ (by have := HKM.out; omega)
              obtain ⟨H, hH⟩ : ∃ H, M / 2 = H := ⟨_, rfl⟩
              have hq2 : (M : Int).tdiv 2 = (H : Int) := by rw [Int.tdiv_eq_ediv_of_nonneg (by omega)]; omega
              have hq1 : IntKind.i64.wrap (H : Int) = (H : Int) := IntWalk.i64_in _ (by have := HKM.out; omega)
              clear HNE HON
              by_cases hlast : j + 1 < M
              · have d1 : decide ((j : Int) < (M : Int) - 1) = true := decide_eq_true (by omega)
                have HLT := Lib.hid hlast
                clear hlast
                by_cases hmid : j = H
                · have dm : ((j : Int) != (H : Int)) = false := by simp only [bne_eq_false_iff_eq]; omega
                  have HNX : Hid (RwQ (N1 + 1) (E1) V N1 (false || decide (j + 1 ≤ M / 2))) := Lib.hid (by
                    have e1 : (false || decide (j ≤ M / 2)) = true := by
                      rw [Bool.false_or]
                      exact decide_eq_true (by omega)
                    have e2 : (false || decide (j + 1 ≤ M / 2)) = false := by
                      rw [Bool.false_or]
                      exact decide_eq_false (by omega)
                    have h := HRW.out
                    rw [e1] at h
                    rw [e2]
                    exact h.cut HA.out)
                  clear hmid hH
                  go_wp2_with fail
                  go_roundw
                  case rel => exact ⟨N1 + 1, E1, N1, j + 1, hlt2, by go_num, rfl, by go_num, by have := HBE.out; omega, by have := HBE.out; omega, HNX.out, fun _ => by have := HRW.out.two; omega, fun h => by have := HLT.out; omega, ⟨HR1.out.r, HR1.out.b⟩⟩
                  case measure => simp [intOf]; omega
                · have dm : ((j : Int) != (H : Int)) = true := by simp only [bne_iff_ne, ne_eq]; omega
                  have HNX : Hid (RwQ (N1 + 1) (E1 ++ [(a1, N1)]) V N1 (false || decide (j + 1 ≤ M / 2))) := Lib.hid (by
                    have e : (false || decide (j + 1 ≤ M / 2)) = (false || decide (j ≤ M / 2)) := by
                      rw [Bool.false_or, Bool.false_or]
                      exact decide_eq_decide.2 (by omega)
                    rw [e]
                    exact HRW.out.fresh HA.out)
                  clear hmid hH
                  obtain ⟨y, hy⟩ := named (wr.alloc (.cells #[.int .i64 (a1 : Int), .int .i64 (N1 : Int)] 43))
                  have hby : Below wr.heap.size wr y := by rw [hy]; exact below_alloc1 _
                  obtain ⟨gy, hgy⟩ : ∃ g, wr.heap.size = g := ⟨_, rfl⟩
                  have ky : Blk y gy #[.int .i64 (a1 : Int), .int .i64 ((N1 : Nat) : Int)] 43 := by rw [hy]; exact Blk.new _ _ _ _ hgy
                  obtain ⟨q8, n8, c8, w8, hr8, hra8⟩ := HR1.out.app (M := N1 + 1) hby ky (by have := HBE.out; have := HKM.out; omega)
                  have HR8 := Lib.hid hr8
                  have HRA8 := Lib.hid hra8
                  have e8 := hy.symm
                  clear hby ky hr8 hra8 hy
                  go_wp2_with (at_builtin; refine wpList_append_run (by rfl) _ _ _ rfl _ _ _ rfl rfl HR8.out ?_)
                  clear e8 hgy
                  go_roundw
                  case rel => exact ⟨N1 + 1, E1 ++ [(a1, N1)], N1, j + 1, hlt2, by go_num, rfl, by go_num, by have := HBE.out; omega, by rw [List.length_append, List.length_singleton]; have := HBE.out; omega, HNX.out, fun _ => by have := HRW.out.two; omega, fun h => by have := HLT.out; omega, HRA8.out⟩
                  case measure => simp [intOf]; omega
              · have d1 : decide ((j : Int) < (M : Int) - 1) = false := decide_eq_false (by omega)
                have HLA : Hid (j + 1 = M) := Lib.hid (by omega)
                clear hlast
                by_cases hmid : j = H
                · have dm : ((j : Int) != (H : Int)) = false := by simp only [bne_eq_false_iff_eq]; omega
                  have HNX : Hid (RwQ (N1) (E1) V 1 (false || decide (j + 1 ≤ M / 2))) := Lib.hid (by
                    have e1 : (false || decide (j ≤ M / 2)) = true := by
                      rw [Bool.false_or]
                      exact decide_eq_true (by omega)
                    have e2 : (false || decide (j + 1 ≤ M / 2)) = false := by
                      rw [Bool.false_or]
                      exact decide_eq_false (by omega)
                    have h := HRW.out
                    rw [e1] at h
                    rw [e2]
                    exact h.cutlast HA.out)
                  clear hmid hH
                  go_wp2_with fail
                  go_roundw
                  case rel => exact ⟨N1, E1, 1, j + 1, hlt2, rfl, rfl, by go_num, by have := HBE.out; omega, by have := HBE.out; omega, HNX.out, fun h => by have := HLA.out; omega, fun _ => rfl, ⟨HR1.out.r, HR1.out.b⟩⟩
                  case measure => simp [intOf]; omega
                · have dm : ((j : Int) != (H : Int)) = true := by simp only [bne_iff_ne, ne_eq]; omega
                  have HNX : Hid (RwQ (N1) (E1 ++ [(a1, 1)]) V 1 (false || decide (j + 1 ≤ M / 2))) := Lib.hid (by
                    have e : (false || decide (j + 1 ≤ M / 2)) = (false || decide (j ≤ M / 2)) := by
                      rw [Bool.false_or, Bool.false_or]
                      exact decide_eq_decide.2 (by omega)
                    rw [e]
                    exact HRW.out.last HA.out)
                  clear hmid hH
                  obtain ⟨y, hy⟩ := named (wr.alloc (.cells #[.int .i64 (a1 : Int), .int .i64 1] 43))
                  have hby : Below wr.heap.size wr y := by rw [hy]; exact below_alloc1 _
                  obtain ⟨gy, hgy⟩ : ∃ g, wr.heap.size = g := ⟨_, rfl⟩
                  have ky : Blk y gy #[.int .i64 (a1 : Int), .int .i64 (((1 : Nat)) : Int)] 43 := by rw [hy]; exact Blk.new _ _ _ _ hgy
                  obtain ⟨q8, n8, c8, w8, hr8, hra8⟩ := HR1.out.app (M := N1) hby ky (by have := HBE.out; have := HKM.out; omega)
                  have HR8 := Lib.hid hr8
                  have HRA8 := Lib.hid hra8
                  have e8 := hy.symm
                  clear hby ky hr8 hra8 hy
                  go_wp2_with (at_builtin; refine wpList_append_run (by rfl) _ _ _ rfl _ _ _ rfl rfl HR8.out ?_)
                  clear e8 hgy
                  go_roundw
                  case rel => exact ⟨N1, E1 ++ [(a1, 1)], 1, j + 1, hlt2, rfl, rfl, by go_num, by have := HBE.out; omega, by rw [List.length_append, List.length_singleton]; have := HBE.out; omega, HNX.out, fun h => by have := HLA.out; omega, fun _ => rfl, HRA8.out⟩
                  case measure => simp [intOf]; omega
            · obtain rfl : j = M := by omega
              obtain rfl : a1 = 1 := HON.out rfl
              have hOT : OtQ N1 E1 ((V : Nat) : Int) := by
                have h := HRW.out
                rw [show (false || decide (j ≤ j / 2)) = false from by rw [Bool.false_or]; exact decide_eq_false (by have := HKM.out; omega)] at h
                have := h.done
                simpa using this
              have HOT2 := Lib.hid hOT
              clear hOT
              have wv1 : IntKind.i64.wrap ((V : Int) + 1) = (V : Int) + 1 := IntWalk.i64_in _ (by have := HBE.out; omega)
              have wi1 : IntKind.i64.wrap ((i : Int) + 1) = (i : Int) + 1 := IntWalk.i64_in _ (by have := HBE.out; omega)
              clear HNE HON HRW hlt2 hj
              go_wp2_with fail
              go_roundw
              case rel => exact ⟨N1, E1, V, i + 1, hlt, rfl, rfl, by go_num, by have := HBE.out; have := HKM.out; omega, by have := HBE.out; have := HKM.out; omega, by have := HBD.out; omega, HOT2.out, ⟨HR1.out.r, HR1.out.b⟩⟩
              case measure => simp [intOf]; omega
      · have dl : decide ((M0.length : Int) ≤ (i : Int)) = true := decide_eq_true (by omega)
        have hcl : (M0.length : Int) ≤ (i : Int) := by omega
        have hcn : M0.length ≤ i := by omega
        clear hc
        go_wp2_with fail
        clear dl
        go_loopw [9, 10, 13, 15, 16] (fun ev nv av jv _ wr => InRel w1 i M V true ev nv av jv wr) (fun _ _ _ jv _ _ => M - (intOf jv).toNat)
        case atStart => exact ⟨N, E, 0, 0, Nat.zero_le _, rfl, rfl, rfl, by have := HBD.out; omega, by have := HBD.out; omega, by simpa using HOT.out.start, fun _ => by decide, fun h => absurd h (by have := HKM.out; omega), ⟨HRA.out.r, HRA.out.b⟩⟩
        case round =>
          obtain ⟨N1, E1, a1, j, hj, rfl, rfl, rfl, hN1, hE1, hrw, hne, hone, hra⟩ := hrel
          have HRW := Lib.hid hrw
          have HR1 := Lib.hid hra
          have HNE := Lib.hid hne
          have HON := Lib.hid hone
          have HBE : Hid (N1 ≤ 2 + 8 * i + j ∧ E1.length ≤ 8 * i + j ∧ i ≤ 11 ∧ V ≤ 11 ∧ N1 ≤ 98) := Lib.hid (by have := HBD.out; have := HKM.out; omega)
          clear hN1 hE1 hrw hne hone hra
          by_cases hlt2 : j < M
          · have hji : (j : Int) < (M : Int) := by omega
            have HA : Hid (a1 ≠ 1) := Lib.hid (HNE.out hlt2)
            have wm1 : IntKind.i64.wrap ((M : Int) - 1) = (M : Int) - 1 := IntWalk.i64_in _ (by have := HKM.out; omega)
            have wn1 : IntKind.i64.wrap ((N1 : Int) + 1) = (N1 : Int) + 1 := IntWalk.i64_in _ (by have := HBE.out; omega)
            have wj1 : IntKind.i64.wrap ((j : Int) + 1) = (j : Int) + 1 := IntWalk.i64_in _ (by have := HKM.out; omega)
            obtain ⟨H, hH⟩ : ∃ H, M / 2 = H := ⟨_, rfl⟩
            have hq2 : (M : Int).tdiv 2 = (H : Int) := by rw [Int.tdiv_eq_ediv_of_nonneg (by omega)]; omega
            have hq1 : IntKind.i64.wrap (H : Int) = (H : Int) := IntWalk.i64_in _ (by have := HKM.out; omega)
            clear HNE HON
            by_cases hlast : j + 1 < M
            · have d1 : decide ((j : Int) < (M : Int) - 1) = true := decide_eq_true (by omega)
              have HLT := Lib.hid hlast
              clear hlast
              by_cases hmid : j = H
              · have dm : ((j : Int) != (H : Int)) = false := by simp only [bne_eq_false_iff_eq]; omega
                have HNX : Hid (RwQ (N1 + 1) (E1 ++ [(a1, N1)]) V N1 (true || decide (j + 1 ≤ M / 2))) := Lib.hid (HRW.out.fresh HA.out)
                clear hmid hH
                obtain ⟨y, hy⟩ := named (wr.alloc (.cells #[.int .i64 (a1 : Int), .int .i64 (N1 : Int)] 43))
                have hby : Below wr.heap.size wr y := by rw [hy]; exact below_alloc1 _
                obtain ⟨gy, hgy⟩ : ∃ g, wr.heap.size = g := ⟨_, rfl⟩
                have ky : Blk y gy #[.int .i64 (a1 : Int), .int .i64 ((N1 : Nat) : Int)] 43 := by rw [hy]; exact Blk.new _ _ _ _ hgy
                obtain ⟨q8, n8, c8, w8, hr8, hra8⟩ := HR1.out.app (M := N1 + 1) hby ky (by have := HBE.out; have := HKM.out; omega)
                have HR8 := Lib.hid hr8
                have HRA8 := Lib.hid hra8
                have e8 := hy.symm
                clear hby ky hr8 hra8 hy
                go_wp2_with (at_builtin; refine wpList_append_run (by rfl) _ _ _ rfl _ _ _ rfl rfl HR8.out ?_)
                clear e8 hgy
                go_roundw
                case rel => exact ⟨N1 + 1, E1 ++ [(a1, N1)], N1, j + 1, hlt2, by go_num, rfl, by go_num, by have := HBE.out; omega, by rw [List.length_append, List.length_singleton]; have := HBE.out; omega, HNX.out, fun _ => by have := HRW.out.two; omega, fun h => by have := HLT.out; omega, HRA8.out⟩
                case measure => simp [intOf]; omega
              · have dm : ((j : Int) != (H : Int)) = true := by simp only [bne_iff_ne, ne_eq]; omega
                have HNX : Hid (RwQ (N1 + 1) (E1 ++ [(a1, N1)]) V N1 (true || decide (j + 1 ≤ M / 2))) := Lib.hid (HRW.out.fresh HA.out)
                clear hmid hH
                obtain ⟨y, hy⟩ := named (wr.alloc (.cells #[.int .i64 (a1 : Int), .int .i64 (N1 : Int)] 43))
                have hby : Below wr.heap.size wr y := by rw [hy]; exact below_alloc1 _
                obtain ⟨gy, hgy⟩ : ∃ g, wr.heap.size = g := ⟨_, rfl⟩
                have ky : Blk y gy #[.int .i64 (a1 : Int), .int .i64 ((N1 : Nat) : Int)] 43 := by rw [hy]; exact Blk.new _ _ _ _ hgy
                obtain ⟨q8, n8, c8, w8, hr8, hra8⟩ := HR1.out.app (M := N1 + 1) hby ky (by have := HBE.out; have := HKM.out; omega)
                have HR8 := Lib.hid hr8
                have HRA8 := Lib.hid hra8
                have e8 := hy.symm
                clear hby ky hr8 hra8 hy
                go_wp2_with (at_builtin; refine wpList_append_run (by rfl) _ _ _ rfl _ _ _ rfl rfl HR8.out ?_)
                clear e8 hgy
                go_roundw
                case rel => exact ⟨N1 + 1, E1 ++ [(a1, N1)], N1, j + 1, hlt2, by go_num, rfl, by go_num, by have := HBE.out; omega, by rw [List.length_append, List.length_singleton]; have := HBE.out; omega, HNX.out, fun _ => by have := HRW.out.two; omega, fun h => by have := HLT.out; omega, HRA8.out⟩
                case measure => simp [intOf]; omega
            · have d1 : decide ((j : Int) < (M : Int) - 1) = false := decide_eq_false (by omega)
              have HLA : Hid (j + 1 = M) := Lib.hid (by omega)
              clear hlast
              by_cases hmid : j = H
              · have dm : ((j : Int) != (H : Int)) = false := by simp only [bne_eq_false_iff_eq]; omega
                have HNX : Hid (RwQ (N1) (E1 ++ [(a1, 1)]) V 1 (true || decide (j + 1 ≤ M / 2))) := Lib.hid (HRW.out.last HA.out)
                clear hmid hH
                obtain ⟨y, hy⟩ := named (wr.alloc (.cells #[.int .i64 (a1 : Int), .int .i64 1] 43))
                have hby : Below wr.heap.size wr y := by rw [hy]; exact below_alloc1 _
                obtain ⟨gy, hgy⟩ : ∃ g, wr.heap.size = g := ⟨_, rfl⟩
                have ky : Blk y gy #[.int .i64 (a1 : Int), .int .i64 (((1 : Nat)) : Int)] 43 := by rw [hy]; exact Blk.new _ _ _ _ hgy
                obtain ⟨q8, n8, c8, w8, hr8, hra8⟩ := HR1.out.app (M := N1) hby ky (by have := HBE.out; have := HKM.out; omega)
                have HR8 := Lib.hid hr8
                have HRA8 := Lib.hid hra8
                have e8 := hy.symm
                clear hby ky hr8 hra8 hy
                go_wp2_with (at_builtin; refine wpList_append_run (by rfl) _ _ _ rfl _ _ _ rfl rfl HR8.out ?_)
                clear e8 hgy
                go_roundw
                case rel => exact ⟨N1, E1 ++ [(a1, 1)], 1, j + 1, hlt2, rfl, rfl, by go_num, by have := HBE.out; omega, by rw [List.length_append, List.length_singleton]; have := HBE.out; omega, HNX.out, fun h => by have := HLA.out; omega, fun _ => rfl, HRA8.out⟩
                case measure => simp [intOf]; omega
              · have dm : ((j : Int) != (H : Int)) = true := by simp only [bne_iff_ne, ne_eq]; omega
                have HNX : Hid (RwQ (N1) (E1 ++ [(a1, 1)]) V 1 (true || decide (j + 1 ≤ M / 2))) := Lib.hid (HRW.out.last HA.out)
                clear hmid hH
                obtain ⟨y, hy⟩ := named (wr.alloc (.cells #[.int .i64 (a1 : Int), .int .i64 1] 43))
                have hby : Below wr.heap.size wr y := by rw [hy]; exact below_alloc1 _
                obtain ⟨gy, hgy⟩ : ∃ g, wr.heap.size = g := ⟨_, rfl⟩
                have ky : Blk y gy #[.int .i64 (a1 : Int), .int .i64 (((1 : Nat)) : Int)] 43 := by rw [hy]; exact Blk.new _ _ _ _ hgy
                obtain ⟨q8, n8, c8, w8, hr8, hra8⟩ := HR1.out.app (M := N1) hby ky (by have := HBE.out; have := HKM.out; omega)
                have HR8 := Lib.hid hr8
                have HRA8 := Lib.hid hra8
                have e8 := hy.symm
                clear hby ky hr8 hra8 hy
                go_wp2_with (at_builtin; refine wpList_append_run (by rfl) _ _ _ rfl _ _ _ rfl rfl HR8.out ?_)
                clear e8 hgy
                go_roundw
                case rel => exact ⟨N1, E1 ++ [(a1, 1)], 1, j + 1, hlt2, rfl, rfl, by go_num, by have := HBE.out; omega, by rw [List.length_append, List.length_singleton]; have := HBE.out; omega, HNX.out, fun h => by have := HLA.out; omega, fun _ => rfl, HRA8.out⟩
                case measure => simp [intOf]; omega
          · obtain rfl : j = M := by omega
            obtain rfl : a1 = 1 := HON.out rfl
            have hOT : OtQ N1 E1 ((V + 1 : Nat) : Int) := by
              have h := HRW.out
              rw [show (true || decide (j ≤ j / 2)) = true from rfl] at h
              have := h.done
              simpa using this
            have HOT2 := Lib.hid hOT
            clear hOT
            have wv1 : IntKind.i64.wrap ((V : Int) + 1) = (V : Int) + 1 := IntWalk.i64_in _ (by have := HBE.out; omega)
            have wi1 : IntKind.i64.wrap ((i : Int) + 1) = (i : Int) + 1 := IntWalk.i64_in _ (by have := HBE.out; omega)
            clear HNE HON HRW hlt2 hj
            go_wp2_with fail
            go_roundw
            case rel => exact ⟨N1, E1, V + 1, i + 1, hlt, rfl, by go_num, by go_num, by have := HBE.out; have := HKM.out; omega, by have := HBE.out; have := HKM.out; omega, by have := HBD.out; omega, HOT2.out, ⟨HR1.out.r, HR1.out.b⟩⟩
            case measure => simp [intOf]; omega
    · obtain rfl : i = K := by omega
      have hb := HRA.out.b
      have HT := Lib.hid (prs_of_owns HRA.out.r (by rw [zE_len]; have := HBD.out; have := HKM.out; omega))
      have HLN : Hid (2 ≤ N ∧ N ≤ 90 ∧ E.length ≤ 88) := Lib.hid ⟨HOT.out.two, by have := HBD.out; have := HKM.out; omega, by have := HBD.out; have := HKM.out; omega⟩
      have HEI := Lib.hid HOT.out.ein
      have HOK : Hid (OkA (N : Int) (zE E) (zN [0]) (zN [1, 1])) := Lib.hid (okA_of HEI.out (in0 HLN.out.1) (in11 HLN.out.1))
      have HOK1 : Hid (OkA (N : Int) (zE E) (zN [0]) (zN [1])) := Lib.hid (okA_of HEI.out (in0 HLN.out.1) (in1 HLN.out.1))
      obtain ⟨tq, tc, rfl⟩ := HT.out.shape
      rw [zE_len] at HT
      rw [zE_len]
      clear HRA HBD hlt hi
      have HB_ := Lib.hid (bOn6 HB.out hb)
      have HST_ := Lib.hid (HST.out.below hb)
      clear HB HST
      have HB := HB_
      have HST := HST_
      clear HB_ HST_
      clear hb
      clear HST
      obtain ⟨x1, hx1⟩ := named (wr.alloc (.cells #[.int .i64 0] 3))
      have hb : Below wr.heap.size wr x1 := by rw [hx1]; exact below_alloc1 _
      obtain ⟨g1, hg1⟩ : ∃ g, wr.heap.size = g := ⟨_, rfl⟩
      have kb : Blk x1 g1 #[.int .i64 0] 3 := by rw [hx1]; exact Blk.new _ _ _ _ hg1
      have HB_ := Lib.hid (bOn6 HB.out hb)
      have HT_ := Lib.hid (HT.out.below hb)
      clear HB HT
      have HB := HB_
      have HT := HT_
      clear HB_ HT_
      have HS := Lib.hid (one_i64s (x := 0) kb)
      have e1 := hx1.symm
      have z1 : Hid (x1.heap.size = wr.heap.size + 1) := Lib.hid (by rw [hx1]; simp)
      clear hb kb hx1
      obtain ⟨x2, hx2⟩ := named (x1.alloc (.cells #[.int .i64 1, .int .i64 1] 3))
      have hb : Below x1.heap.size x1 x2 := by rw [hx2]; exact below_alloc1 _
      obtain ⟨g2, hg2⟩ : ∃ g, x1.heap.size = g := ⟨_, rfl⟩
      have kb : Blk x2 g2 #[.int .i64 1, .int .i64 1] 3 := by rw [hx2]; exact Blk.new _ _ _ _ hg2
      have HB_ := Lib.hid (bOn6 HB.out hb)
      have HT_ := Lib.hid (HT.out.below hb)
      have HS_ := Lib.hid (HS.out.below hb)
      clear HB HT HS
      have HB := HB_
      have HT := HT_
      have HS := HS_
      clear HB_ HT_ HS_
      have HD := Lib.hid ((show I64s _ _ (zN [1, 1]) from two_i64s kb))
      have e2 := hx2.symm
      have z2 : Hid (x2.heap.size = x1.heap.size + 1) := Lib.hid (by rw [hx2]; simp)
      clear hb kb hx2
      go_wp2_with fail
      clear e1 e2 z1 z2
      refine (max_is (N := N) (E := E) (S := [0]) (D := [1, 1]) HT.out HS.out HD.out (by have := HLN.out; omega) (by have := HLN.out; omega) (by decide) (by decide) (HOK.out) (HEI.out) ((in0 HLN.out.1)) ((in11 HLN.out.1))).mono ?_
      rintro e w5 ⟨hb, ⟨-, V1, f1, near1, far1, fv1, nv1, gv1, rfl, hf, hn, hg, hq⟩ | ⟨htw, -⟩⟩
      case inr => exact absurd htw twice01
      have HQ1 := Lib.hid hq
      obtain ⟨fq1, fc1, rfl⟩ := hf.shape
      obtain ⟨nq1, nc1, rfl⟩ := hn.shapeN hq.nl
      obtain ⟨gq1, gc1, rfl⟩ := hg.shapeN hq.gl
      obtain ⟨L1, hL⟩ : ∃ L, f1.length = L := ⟨_, rfl⟩
      rw [hL]
      rw [hL] at hf
      clear hL
      have HV1 : Hid (0 ≤ V1 ∧ V1 ≤ (E).length) := Lib.hid (by rw [← (hq.maxQ (HEI.out)).nearV]; exact crossTo_bd _ _ _)
      clear hq
      have HB_ := Lib.hid (bOn6 HB.out hb)
      have HT_ := Lib.hid (HT.out.below hb)
      have HS_ := Lib.hid (HS.out.below hb)
      have HD_ := Lib.hid (HD.out.below hb)
      clear HB HT HS HD
      have HB := HB_
      have HT := HT_
      have HS := HS_
      have HD := HD_
      clear HB_ HT_ HS_ HD_
      clear hb
      have HF1 := Lib.hid hf
      have HN1 := Lib.hid hn
      have HGV1 := Lib.hid hg
      clear hf hn hg
      clear HS HD
      obtain rfl : V1 = (V : Int) := HOT.out.max (HQ1.out.maxQ HEI.out)
      obtain ⟨x3, hx3⟩ := named (w5.alloc (.cells #[.int .i64 V, .slice fq1 L1 fc1, .slice nq1 N nc1, .slice gq1 N gc1] 30))
      have hb : Below w5.heap.size w5 x3 := by rw [hx3]; exact below_alloc1 _
      obtain ⟨g3, hg3⟩ : ∃ g, w5.heap.size = g := ⟨_, rfl⟩
      have kb : Blk x3 g3 #[.int .i64 V, .slice fq1 L1 fc1, .slice nq1 N nc1, .slice gq1 N gc1] 30 := by rw [hx3]; exact Blk.new _ _ _ _ hg3
      have HB_ := Lib.hid (bOn6 HB.out hb)
      have HT_ := Lib.hid (HT.out.below hb)
      have HF1_ := Lib.hid (HF1.out.below hb)
      have HN1_ := Lib.hid (HN1.out.below hb)
      have HGV1_ := Lib.hid (HGV1.out.below hb)
      clear HB HT HF1 HN1 HGV1
      have HB := HB_
      have HT := HT_
      have HF1 := HF1_
      have HN1 := HN1_
      have HGV1 := HGV1_
      clear HB_ HT_ HF1_ HN1_ HGV1_
      have KR1 := Lib.hid (kb)
      have e3 := hx3.symm
      have z3 : Hid (x3.heap.size = w5.heap.size + 1) := Lib.hid (by rw [hx3]; simp)
      clear hb kb hx3
      obtain ⟨k0, k1, k2, k3, -⟩ := KR1.out.o4
      have kl := KR1.out.lt
      go_wp2_with fail
      clear e3 z3
      clear k0 k1 k2 k3 kl
      obtain ⟨x4, hx4⟩ := named (x3.alloc (.cells #[.int .i64 0] 3))
      have hb : Below x3.heap.size x3 x4 := by rw [hx4]; exact below_alloc1 _
      obtain ⟨g4, hg4⟩ : ∃ g, x3.heap.size = g := ⟨_, rfl⟩
      have kb : Blk x4 g4 #[.int .i64 0] 3 := by rw [hx4]; exact Blk.new _ _ _ _ hg4
      have HB_ := Lib.hid (bOn6 HB.out hb)
      have HT_ := Lib.hid (HT.out.below hb)
      have HF1_ := Lib.hid (HF1.out.below hb)
      have HN1_ := Lib.hid (HN1.out.below hb)
      have HGV1_ := Lib.hid (HGV1.out.below hb)
      have KR1_ := Lib.hid (KR1.out.keep hb)
      clear HB HT HF1 HN1 HGV1 KR1
      have HB := HB_
      have HT := HT_
      have HF1 := HF1_
      have HN1 := HN1_
      have HGV1 := HGV1_
      have KR1 := KR1_
      clear HB_ HT_ HF1_ HN1_ HGV1_ KR1_
      have HS := Lib.hid (one_i64s (x := 0) kb)
      have e4 := hx4.symm
      have z4 : Hid (x4.heap.size = x3.heap.size + 1) := Lib.hid (by rw [hx4]; simp)
      clear hb kb hx4
      rw [e4]
      clear e4
      obtain ⟨x5, hx5⟩ := named (x4.alloc (.cells #[.int .i64 1] 3))
      have hb : Below x4.heap.size x4 x5 := by rw [hx5]; exact below_alloc1 _
      obtain ⟨g5, hg5⟩ : ∃ g, x4.heap.size = g := ⟨_, rfl⟩
      have kb : Blk x5 g5 #[.int .i64 1] 3 := by rw [hx5]; exact Blk.new _ _ _ _ hg5
      have HB_ := Lib.hid (bOn6 HB.out hb)
      have HT_ := Lib.hid (HT.out.below hb)
      have HF1_ := Lib.hid (HF1.out.below hb)
      have HN1_ := Lib.hid (HN1.out.below hb)
      have HGV1_ := Lib.hid (HGV1.out.below hb)
      have KR1_ := Lib.hid (KR1.out.keep hb)
      have HS_ := Lib.hid (HS.out.below hb)
      clear HB HT HF1 HN1 HGV1 KR1 HS
      have HB := HB_
      have HT := HT_
      have HF1 := HF1_
      have HN1 := HN1_
      have HGV1 := HGV1_
      have KR1 := KR1_
      have HS := HS_
      clear HB_ HT_ HF1_ HN1_ HGV1_ KR1_ HS_
      have HD := Lib.hid (one_i64s (x := 1) kb)
      have e5 := hx5.symm
      have z5 : Hid (x5.heap.size = x4.heap.size + 1) := Lib.hid (by rw [hx5]; simp)
      clear hb kb hx5
      rw [e5]
      clear e5
      try rw [show x3.heap.size + 1 = g5 from by have := z4.out; omega]
      try rw [show x3.heap.size = g4 from by omega]
      clear z4 z5
      refine (proves_is HT.out HS.out HD.out HF1.out HN1.out HGV1.out (by have := HLN.out; omega) (by rw [zE_len]; have := HLN.out; omega) (by decide) (by decide)).mono ?_
      rintro e w13 ⟨b, rfl, hbb, hb⟩
      obtain rfl : b = true := hbb.2 ((prvP_iff HOK1.out twice01').2 HQ1.out.once)
      clear hbb
      have HB_ := Lib.hid (bOn6 HB.out hb)
      have HT_ := Lib.hid (HT.out.below hb)
      have HF1_ := Lib.hid (HF1.out.below hb)
      have HN1_ := Lib.hid (HN1.out.below hb)
      have HGV1_ := Lib.hid (HGV1.out.below hb)
      have KR1_ := Lib.hid (KR1.out.keep hb)
      have HS_ := Lib.hid (HS.out.below hb)
      have HD_ := Lib.hid (HD.out.below hb)
      clear HB HT HF1 HN1 HGV1 KR1 HS HD
      have HB := HB_
      have HT := HT_
      have HF1 := HF1_
      have HN1 := HN1_
      have HGV1 := HGV1_
      have KR1 := KR1_
      have HS := HS_
      have HD := HD_
      clear HB_ HT_ HF1_ HN1_ HGV1_ KR1_ HS_ HD_
      clear hb
      go_wp2_with fail
      go_ret
      exact ⟨rfl, HB.out⟩
set_option maxRecDepth 100000 in
theorem flowRows_walks : Walks laidAll 6 Tryd.f6 := by
  intro H enc W args ds g
  obtain ⟨ps, hA⟩ := g.reads
  obtain ⟨base, hval⟩ := g.okay
  rw [Tryd.params6] at hA hval
  obtain ⟨v0, vs0, d0, ds0, p0, q0, hargs, rfl, rfl, h0, r0⟩ := trodAll_cons hA
  obtain ⟨v1, vs1, d1, ds1, p1, q1, rfl, rfl, rfl, h1, r1⟩ := trodAll_cons r0
  obtain ⟨v2, vs2, d2, ds2, p2, q2, rfl, rfl, rfl, h2, r2⟩ := trodAll_cons r1
  obtain ⟨rfl, rfl, rfl⟩ := trodAll_nil r2
  obtain rfl : args = #[v0, v1, v2] := Array.toList_inj.1 hargs
  obtain ⟨x0, rfl, rfl, rfl, w0⟩ := open_int Tryd.underlying5 (hval 0 5 v0 rfl rfl) h0
  obtain ⟨x1, rfl, rfl, rfl, w1⟩ := open_int Tryd.underlying5 (hval 1 5 v1 rfl rfl) h1
  obtain ⟨x2, w2⟩ := open_marks (hval 2 24 v2 rfl rfl) h2
  exact rows_walk x0 x1 v2 x2 W (errT_of_laid g.laid) (wfu8 w0).1 (wfu8 w0).2 (wfu8 w1).1 (wfu8 w1).2 w2

theorem flowRows_row : Rows.FlowRowsSaid :=
  OpenClaim.holds_of_wide 6 Tryd.f6 rfl rfl rfl rfl rfl rfl rfl ⟨rfl, rfl, rfl, rfl, rfl⟩ rfl rfl rfl rfl rfl (by kernel_rfl) Tryd.func6 (by kernel_rfl)
    (of_decide_eq_true (by kernel_rfl)) (by unfold Func.isWrapper; rw [if_neg (of_decide_eq_false (by kernel_rfl))]; exact ⟨rfl, rfl⟩)
    (fun os started H enc _ => law_lifted (s := Rows.flowRowsSpec) (L := laidAll) Tryd.func6 (by kernel_rfl) rfl (by kernel_rfl)
      (fun H ds hl => by
        rw [Tryd.params6] at hl
        match ds, hl with
        | [_, _, _], _ => exact ⟨rfl, rfl, rfl⟩)
      (by kernel_rfl) os started H enc
      (ChangeSpec.witness_at (enc := enc) (C := Tryd.checked) (os := os) (X := fun w _ => laidMetH Tryd.prog laidAll w) false (laidWorld os) #[.int .u8 0, .int .u8 0, .slice none 0 0] 8 rfl (by kernel_rfl) (by kernel_rfl) (by kernel_rfl) (by kernel_rfl) (by kernel_rfl) (laidWorld_met os _))
      flowRows_walks)

theorem flowRows_card : Rows.FlowRowsCardSaid :=
  Claim7.holds_tied_plain_at .later [] laidKindsAll true (Rows.flowRowsCard.stood.harness) true
    flowRows_row (fun _ h => by cases h) (by kernel_rfl) (fun _ h => by cases h) flowRows_row_tie rfl ⟨rfl, rfl⟩ (by kernel_rfl) rfl
    (fun f fn hf hfn => by
      obtain rfl : f = 6 := Option.some.inj ((show Tryd.prog.funcNamed "roundsman/roundsmanlaw9.FlowRows" = some 6 by kernel_rfl).symm.trans hf) |>.symm
      obtain rfl : fn = Tryd.f6 := (Option.some.inj (Tryd.func6.symm.trans hfn)).symm
      exact ⟨by kernel_rfl, fun j t ht => by
        rw [Tryd.params6] at ht
        exact stand_all #[5, 5, 24] (by kernel_rfl) j t ht⟩)
    (by kernel_rfl)
#print axioms flowRows_card
end Go.Proofs.YtgihaakgadmidaaDoor
