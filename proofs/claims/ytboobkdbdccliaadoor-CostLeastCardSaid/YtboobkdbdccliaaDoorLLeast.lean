/-
  PROVED: the least of a row is in it, none is less, none ahead of it is as little; a row of two parts has the least of both, and the sum of both sums. For every row, wherever it is parted. Conditions: the listed library variables hold what the program's own text lays (the card ties them).
-/
import Derived.Test.YtboobkdbdccliaaDoorKnown
import Derived.Test.YtboobkdbdccliaaDoorLaid
import Derived.Test.YtboobkdbdccliaaDoorLeastM
import Derived.Test.YtboobkdbdccliaaDoorRows1
import Derived.Test.YtboobkdbdccliaaDoorCards
import Derived.Test.YtboobkdbdccliaaDoorTie
import Derived.SevenTiedAt
import Derived.RegionTactic
import Derived.StillTactics
namespace Go.Proofs.YtboobkdbdccliaaDoor
open Go.ChangeShapes Go.WideShapes Go.ChangeAt Go.RowKit
open Go.ChangeMaps (open_string)

/-- A row of two numbers that was just laid. -/
theorem two_row (w : World) (g : Nat) (hg : w.heap.size = g) (a b : Int) : I64s (w.alloc (.cells #[.int .i64 a, .int .i64 b] 2)) (.slice (some ⟨g, 0, none⟩) 2 2) [a, b] := by
  subst hg
  refine Or.inr ⟨by simp, w.heap.size, 0, 2, by simp, by omega, rfl, fun i h => ?_⟩
  simp only [List.length_cons, List.length_nil] at h
  rw [World.cell?_alloc_at _ _ _ _ rfl]
  match i, h with
  | 0, _ => rfl
  | 1, _ => rfl

/-- A counter, at most n. -/
def UpTo (n : Nat) (v : Value) : Prop := ∃ m : Nat, m ≤ n ∧ v = .int .i64 m

set_option maxRecDepth 100000 in
set_option maxHeartbeats 4000000 in
theorem least_walk (v : Value) (l : List Int) (t : Int) (w : World) (hg : ErrT w) (hl : I64s w v l) (hin : In64 l) (t0 : 0 ≤ t) (t1 : t ≤ 255) :
    Calls Tryd.prog 7 #[v, .int .u8 t] w fun e w' => e = .returned (.bool true) ∧ Below w.heap.size w w' := by
  have hgl := hg.lt
  have HG := Lib.hid hg
  clear hg
  by_cases hlong : 200 < (l.length : Int) ∨ l.length = 0
  · obtain ⟨sq, sc, rfl⟩ := hl.shape
    have HL := Lib.hid hl
    clear hl
    rcases hlong with h200 | h0
    · go_enter Tryd.func7, Tryd.ntmps7
      go_wp2_with fail
      refine (known_any _ HG.out).mono ?_
      rintro e w1 ⟨rfl, hb1⟩
      have HB := Lib.hid hb1
      clear hb1
      go_wp2_with fail
      go_ret
      exact ⟨rfl, HB.out⟩
    · have hnil : l = [] := List.length_eq_zero_iff.1 h0
      subst hnil
      clear h0
      have HN : Hid ((leastC []).1 = -1 ∧ (leastC []).2 = 1152921504606846976) := Lib.hid ⟨rfl, rfl⟩
      simp only [List.length_nil] at *
      go_enter Tryd.func7, Tryd.ntmps7
      go_wp2_with fail
      refine (known_any _ HG.out).mono ?_
      rintro e w1 ⟨rfl, hb1⟩
      have HB := Lib.hid hb1
      clear hb1
      go_wp2_with fail
      refine (least_any _ [] _ (HL.out.below HB.out) hin).mono ?_
      rw [HN.out.1, HN.out.2]
      rintro e w' ⟨rfl, rfl⟩
      go_wp2_with fail
      go_ret
      exact ⟨rfl, HB.out⟩
  · have hsh : (l.length : Int) ≤ 200 := by omega
    have hne : ¬ (l.length : Int) = 0 := by omega
    have hne' : ((l.length : Int) == 0) = false := by simpa using hne
    have hpos : 0 < l.length := by omega
    clear hlong
    rcases hl with ⟨rfl, _⟩ | ⟨hlen, sb, so, sc, hsc, hscm, rfl, hc⟩
    · simp at hpos
    obtain ⟨i, hi, hI, hC, hall, hbef⟩ := leastC_at _ l rfl (by intro e; rw [e] at hpos; simp at hpos)
    have hbd := leastC_bd l
    have hpart := Lib.hid (leastC_parts l)
    have hsum := Lib.hid (sumC_parts l)
    generalize hP : leastC l = P at *
    obtain ⟨PI, C⟩ := P
    simp only at *
    subst hI
    have HP := Lib.hid hP
    have HA := Lib.hid hall
    have HB0 := Lib.hid hbef
    have HC := Lib.hid hc
    have HCi : Hid (hld l[i] = C) := Lib.hid (by rw [← hC]; simp [List.getD, hi])
    have c0 : 0 ≤ C := hbd.2.2.1
    have c1 : C ≤ 1152921504606846976 := hbd.2.2.2
    clear hP hall hbef hc hC hbd
    obtain ⟨K, hK0, hK1⟩ : ∃ K : Nat, t % ((l.length : Int) + 1) = (K : Int) ∧ K ≤ l.length := by
      have h1 := Int.emod_nonneg t (show ((l.length : Int) + 1) ≠ 0 by omega)
      have h2 := Int.emod_lt_of_pos t (show 0 < ((l.length : Int) + 1) by omega)
      exact ⟨(t % ((l.length : Int) + 1)).toNat, by omega, by omega⟩
    have hin1 : Hid (In64 (l.take K)) := Lib.hid (fun x hx => hin x (List.mem_of_mem_take hx))
    have hin2 : Hid (In64 (l.drop K)) := Lib.hid (fun x hx => hin x (List.mem_of_mem_drop hx))
    have i0 : (0 : Int) ≤ (i : Int) := Int.natCast_nonneg _
    have i1 : (i : Int) < (l.length : Int) := by omega
    obtain ⟨x0, x1⟩ := hin _ (List.getElem_mem hi)
    have b1 : decide ((i : Int) < 0) = false := by rw [decide_eq_false_iff_not]; omega
    have b2 : decide (l.length ≤ i) = false := by rw [decide_eq_false_iff_not]; omega
    have b3 : decide (200 < (l.length : Int)) = false := by rw [decide_eq_false_iff_not]; omega
    go_enter Tryd.func7, Tryd.ntmps7
    go_wp2_with fail
    refine (known_any _ HG.out).mono ?_
    rintro e w1 ⟨rfl, hb1⟩
    have HB := Lib.hid hb1
    clear hb1
    have HR : Hid (∀ j (h : j < l.length), w1.cell? ⟨sb, so + j, none⟩ = some (.int .i64 l[j])) := Lib.hid fun j hj => (HB.out.cell (World.block_lt_of_cell? w _ (HC.out j hj))).trans (HC.out j hj)
    have gi := HR.out i hi
    go_wp2_with fail
    refine (least_any _ l _ (Or.inr ⟨hlen, sb, so, sc, hsc, hscm, rfl, HR.out⟩) hin).mono ?_
    rw [HP.out]
    rintro e w' ⟨rfl, rfl⟩
    go_wp2_with fail
    refine (held_any _ _ x0 x1).mono ?_
    rw [HCi.out]
    rintro e w' ⟨rfl, rfl⟩
    go_wp2_with fail
    go_loop [7] (fun k => UpTo l.length k) (fun k => l.length - (intOf k).toNat)
    case atStart => exact ⟨0, Nat.zero_le _, rfl⟩
    case round =>
      obtain ⟨n, hn, rfl⟩ := hrel
      by_cases hlt : n < l.length
      · have gn := HR.out n hlt
        obtain ⟨y0, y1⟩ := hin _ (List.getElem_mem hlt)
        have m1 : C ≤ hld l[n] := by have := HA.out n hlt; simpa [List.getD, hlt] using this
        by_cases hni : (n : Int) < (i : Int)
        · have m2 : (hld l[n] == C) = false := by
            have := HB0.out n (by omega)
            rw [beq_eq_false_iff_ne]
            have e : l.getD n 0 = l[n] := by simp [List.getD, hlt]
            rw [e] at this
            omega
          go_wp2_with (go_at_call 13; refine (rheld_any _ _ y0 y1).mono ?_; rintro e w' ⟨rfl, rfl⟩)
          go_round
          case rel => exact ⟨n + 1, by omega, by go_num⟩
          case measure => simp [intOf]; omega
        · go_wp2_with (go_at_call 13; refine (rheld_any _ _ y0 y1).mono ?_; rintro e w' ⟨rfl, rfl⟩)
          go_round
          case rel => exact ⟨n + 1, by omega, by go_num⟩
          case measure => simp [intOf]; omega
      · go_wp2_with fail
        have HT1 : Hid (I64s w1 (.slice (some ⟨sb, so, none⟩) K sc) (l.take K)) := Lib.hid (I64s.take HR.out hsc hscm K hK1)
        refine (least_any _ (l.take K) _ HT1.out hin1.out).mono ?_
        rintro e w' ⟨rfl, rfl⟩
        have bd1 := leastC_bd (l.take K)
        have bd2 := leastC_bd (l.drop K)
        have p0 := bd1.2.2.1
        have p1 := bd1.2.2.2
        have q0 := bd2.2.2.1
        have q1 := bd2.2.2.2
        clear bd1 bd2
        have HPZ : Hid ((leastC [(leastC (l.take K)).2, (leastC (l.drop K)).2]).2 = C) := Lib.hid (hpart.out K)
        have HSZ := Lib.hid (hsum.out K)
        have u0 := sumC_lo 0 (Int.le_refl 0) (l.take K)
        have u1 := sumC_hi 0 (by omega) (l.take K)
        have r0 := sumC_lo 0 (Int.le_refl 0) (l.drop K)
        have r1 := sumC_hi 0 (by omega) (l.drop K)
        generalize (leastC (l.take K)).2 = X at *
        generalize hY : (leastC (l.drop K)).2 = Y at *
        generalize hSX : sumC 0 (l.take K) = SX at *
        generalize hSY : sumC 0 (l.drop K) = SY at *
        have HY := Lib.hid hY
        have HSX := Lib.hid hSX
        have HSY := Lib.hid hSY
        clear hY hSX hSY
        have hKsc : K ≤ sc := by omega
        by_cases hKc : K = sc
        · subst hKc
          have hKl : l.length = K := by omega
          have HVD : Hid (I64s w1 (.slice (some ⟨sb, so, none⟩) 0 0) (l.drop K)) := Lib.hid (Or.inl ⟨List.drop_eq_nil_of_le (by omega), _, _, rfl, fun h => by cases h⟩)
          have HFU : Hid (I64s w1 (.slice (some ⟨sb, so, none⟩) K K) l) := Lib.hid (Or.inr ⟨hlen, sb, so, K, hsc, hscm, by rw [hKl], HR.out⟩)
          go_wp2_with fail
          refine (least_any _ (l.drop K) _ HVD.out hin2.out).mono ?_
          rw [HY.out]
          rintro e w' ⟨rfl, rfl⟩
          go_wp2_with fail
          refine (least_any _ [X, Y] _ (two_row w1 _ rfl X Y) (by intro x hx; simp at hx; omega)).mono ?_
          rw [HPZ.out]
          rintro e w' ⟨rfl, rfl⟩
          go_wp2_with fail
          refine wp_region_any (by kernel_rfl) ?_
          change wpAny _ _ _ _ _ _ _ (World.drew _)
          refine wpAny_take (i := 0) (v := .int .i64 C) rfl (by kernel_rfl) (by kernel_rfl) (by kernel_rfl) (fun _ _ _ h => h) (Or.inl ⟨by kernel_rfl, ?y0⟩) ?_
          case y0 => (intro w; go_simp)
          refine wpAny_take (i := 1) (v := .int .i64 C) rfl (by kernel_rfl) (by kernel_rfl) (by kernel_rfl) (fun _ _ _ h => h) (Or.inl ⟨by kernel_rfl, ?y1⟩) ?_
          case y1 => (intro w; go_simp)
          refine wpAny_take (i := 2) (v := .bool true) rfl (by kernel_rfl) (by kernel_rfl) (by kernel_rfl) (fun _ _ _ h => h) (Or.inl ⟨by kernel_rfl, ?y2⟩) ?_
          case y2 => (intro w; go_simp)
          refine wpAny_take (i := 3) (v := .bool true) rfl (by kernel_rfl) (by kernel_rfl) (by kernel_rfl) (fun _ _ _ h => h) (Or.inl ⟨by kernel_rfl, ?y3⟩) ?_
          case y3 => (intro w; go_simp)
          refine wpAny_take (i := 4) (v := (.slice (some ⟨sb, so, none⟩) K K)) rfl (by kernel_rfl) (by kernel_rfl) (by kernel_rfl) (fun _ _ _ h => h) (Or.inl ⟨by kernel_rfl, ?y4⟩) ?_
          case y4 => (intro w; go_simp)
          refine wpAny_take (i := 5) (v := .int .i64 K) rfl (by kernel_rfl) (by kernel_rfl) (by kernel_rfl) (fun _ _ _ h => h) (Or.inl ⟨by kernel_rfl, ?y5⟩) ?_
          case y5 => (intro w; go_simp)
          refine wpAny_take (i := 6) (v := (.slice (some ⟨sb, so, none⟩) K K)) rfl (by kernel_rfl) (by kernel_rfl) (by kernel_rfl) (fun _ _ _ h => h) (Or.inl ⟨by kernel_rfl, ?y6⟩) ?_
          case y6 => (intro w; go_simp)
          refine wpAny_take (i := 8) (v := (.slice (some ⟨sb, so, none⟩) K K)) rfl (by kernel_rfl) (by kernel_rfl) (by kernel_rfl) (fun _ _ _ h => h) (Or.inl ⟨by kernel_rfl, ?y8⟩) ?_
          case y8 => (intro w; go_simp)
          refine wpAny_take (i := 9) (v := .int .i64 K) rfl (by kernel_rfl) (by kernel_rfl) (by kernel_rfl) (fun _ _ _ h => h) (Or.inl ⟨by kernel_rfl, ?y9⟩) ?_
          case y9 => (intro w; go_simp)
          refine wpAny_take (i := 10) (v := (.slice (some ⟨sb, so, none⟩) 0 0)) rfl (by kernel_rfl) (by kernel_rfl) (by kernel_rfl) (fun _ _ _ h => h) (Or.inl ⟨by kernel_rfl, ?y10⟩) ?_
          case y10 => (intro w; go_simp; all_goals (intro h; omega))
          refine wpAny_take (i := 14) (v := (.slice (some ⟨sb, so, none⟩) K K)) rfl (by kernel_rfl) (by kernel_rfl) (by kernel_rfl) (fun _ _ _ h => h) (Or.inl ⟨by kernel_rfl, ?y14⟩) ?_
          case y14 => (intro w; go_simp)
          refine wpAny_ready (rs := [7]) (by kernel_rfl) (by simp) (AllReady.cons rfl (fun J hJ => ?_) AllReady.nil)
          go_simp
          go_wp2_with (go_at_call 16; refine (sum_any _ (l.take K) _ ?hh hin1.out).mono ?_; (case hh => exact HT1.out.below (((Below.refl _ _).alloc (Nat.le_refl _) _).drew)); rw [HSX.out]; rintro e w' ⟨rfl, rfl⟩)
          refine wpAny_ready (rs := [11]) (by kernel_rfl) (by simp) (AllReady.cons rfl (fun J hJ => ?_) AllReady.nil)
          go_simp
          go_wp2_with (go_at_call 16; refine (sum_any _ (l.drop K) _ ?hh hin2.out).mono ?_; (case hh => exact HVD.out.below (((Below.refl _ _).alloc (Nat.le_refl _) _).drew)); rw [HSY.out]; rintro e w' ⟨rfl, rfl⟩)
          refine wpAny_ready (rs := [12]) (by kernel_rfl) (by simp) (AllReady.cons rfl (fun J hJ => ?_) AllReady.nil)
          go_simp
          refine hJ _ _ ?_
          clear hJ J
          refine wpAny_ready (rs := [13]) (by kernel_rfl) (by simp) (AllReady.cons rfl (fun J hJ => ?_) AllReady.nil)
          go_simp
          go_wp2_with (go_at_call 16; refine (sum_any _ [SX, SY] _ ?hh ?hi).mono ?_; (case hh => exact (two_row (w1.alloc (.cells #[.int .i64 X, .int .i64 Y] 2)) _ (by simp) SX SY).below ((Below.refl _ _).drew)); (case hi => (intro x hx; simp at hx; omega)); rw [HSZ.out]; rintro e w' ⟨rfl, rfl⟩)
          refine wpAny_ready (rs := [15]) (by kernel_rfl) (by simp) (AllReady.cons rfl (fun J hJ => ?_) AllReady.nil)
          go_simp
          go_wp2_with (go_at_call 16; refine (sum_any _ l _ ?hh hin).mono ?_; (case hh => exact HFU.out.below ((((Below.refl _ _).alloc (Nat.le_refl _) _).alloc (by simp) _).drew)); rintro e w' ⟨rfl, rfl⟩)
          refine wpAny_ready (rs := [16]) (by kernel_rfl) (by simp) (AllReady.cons rfl (fun J hJ => ?_) AllReady.nil)
          go_simp
          refine hJ _ _ ?_
          clear hJ J
          refine wpAny_ready (rs := [17]) (by kernel_rfl) (by simp) (AllReady.cons rfl (fun J hJ => ?_) AllReady.nil)
          go_simp
          refine hJ _ _ ?_
          clear hJ J
          refine wpAny_ready (rs := [18]) (by kernel_rfl) (by simp) (AllReady.cons rfl (fun J hJ => ?_) AllReady.nil)
          go_simp
          refine hJ _ _ ?_
          clear hJ J
          refine wpAny_done (by kernel_rfl) ?_ _
          go_wp2_with fail
          go_ret
          exact ⟨ret_boolT (by simp), HB.out.trans ((((((Below.refl _ _).alloc (Nat.le_refl _) _).alloc (by simp) _).drew)).mono HB.out.size)⟩
        · have HVD : Hid (I64s w1 (.slice (some ⟨sb, so + K, none⟩) (l.length - K) (sc - K)) (l.drop K)) := Lib.hid (I64s.drop HR.out hsc hscm K hK1)
          have HFU : Hid (I64s w1 (.slice (some ⟨sb, so, none⟩) l.length sc) l) := Lib.hid (Or.inr ⟨hlen, sb, so, sc, hsc, hscm, rfl, HR.out⟩)
          go_wp2_with fail
          refine (least_any _ (l.drop K) _ HVD.out hin2.out).mono ?_
          rw [HY.out]
          rintro e w' ⟨rfl, rfl⟩
          go_wp2_with fail
          refine (least_any _ [X, Y] _ (two_row w1 _ rfl X Y) (by intro x hx; simp at hx; omega)).mono ?_
          rw [HPZ.out]
          rintro e w' ⟨rfl, rfl⟩
          go_wp2_with fail
          refine wp_region_any (by kernel_rfl) ?_
          change wpAny _ _ _ _ _ _ _ (World.drew _)
          refine wpAny_take (i := 0) (v := .int .i64 C) rfl (by kernel_rfl) (by kernel_rfl) (by kernel_rfl) (fun _ _ _ h => h) (Or.inl ⟨by kernel_rfl, ?y0⟩) ?_
          case y0 => (intro w; go_simp)
          refine wpAny_take (i := 1) (v := .int .i64 C) rfl (by kernel_rfl) (by kernel_rfl) (by kernel_rfl) (fun _ _ _ h => h) (Or.inl ⟨by kernel_rfl, ?y1⟩) ?_
          case y1 => (intro w; go_simp)
          refine wpAny_take (i := 2) (v := .bool true) rfl (by kernel_rfl) (by kernel_rfl) (by kernel_rfl) (fun _ _ _ h => h) (Or.inl ⟨by kernel_rfl, ?y2⟩) ?_
          case y2 => (intro w; go_simp)
          refine wpAny_take (i := 3) (v := .bool true) rfl (by kernel_rfl) (by kernel_rfl) (by kernel_rfl) (fun _ _ _ h => h) (Or.inl ⟨by kernel_rfl, ?y3⟩) ?_
          case y3 => (intro w; go_simp)
          refine wpAny_take (i := 4) (v := (.slice (some ⟨sb, so, none⟩) l.length sc)) rfl (by kernel_rfl) (by kernel_rfl) (by kernel_rfl) (fun _ _ _ h => h) (Or.inl ⟨by kernel_rfl, ?y4⟩) ?_
          case y4 => (intro w; go_simp)
          refine wpAny_take (i := 5) (v := .int .i64 K) rfl (by kernel_rfl) (by kernel_rfl) (by kernel_rfl) (fun _ _ _ h => h) (Or.inl ⟨by kernel_rfl, ?y5⟩) ?_
          case y5 => (intro w; go_simp)
          refine wpAny_take (i := 6) (v := (.slice (some ⟨sb, so, none⟩) K sc)) rfl (by kernel_rfl) (by kernel_rfl) (by kernel_rfl) (fun _ _ _ h => h) (Or.inl ⟨by kernel_rfl, ?y6⟩) ?_
          case y6 => (intro w; go_simp)
          refine wpAny_take (i := 8) (v := (.slice (some ⟨sb, so, none⟩) l.length sc)) rfl (by kernel_rfl) (by kernel_rfl) (by kernel_rfl) (fun _ _ _ h => h) (Or.inl ⟨by kernel_rfl, ?y8⟩) ?_
          case y8 => (intro w; go_simp)
          refine wpAny_take (i := 9) (v := .int .i64 K) rfl (by kernel_rfl) (by kernel_rfl) (by kernel_rfl) (fun _ _ _ h => h) (Or.inl ⟨by kernel_rfl, ?y9⟩) ?_
          case y9 => (intro w; go_simp)
          refine wpAny_take (i := 10) (v := (.slice (some ⟨sb, so + K, none⟩) (l.length - K) (sc - K))) rfl (by kernel_rfl) (by kernel_rfl) (by kernel_rfl) (fun _ _ _ h => h) (Or.inl ⟨by kernel_rfl, ?y10⟩) ?_
          case y10 => (intro w; go_simp; all_goals (intro h; omega))
          refine wpAny_take (i := 14) (v := (.slice (some ⟨sb, so, none⟩) l.length sc)) rfl (by kernel_rfl) (by kernel_rfl) (by kernel_rfl) (fun _ _ _ h => h) (Or.inl ⟨by kernel_rfl, ?y14⟩) ?_
          case y14 => (intro w; go_simp)
          refine wpAny_ready (rs := [7]) (by kernel_rfl) (by simp) (AllReady.cons rfl (fun J hJ => ?_) AllReady.nil)
          go_simp
          go_wp2_with (go_at_call 16; refine (sum_any _ (l.take K) _ ?hh hin1.out).mono ?_; (case hh => exact HT1.out.below (((Below.refl _ _).alloc (Nat.le_refl _) _).drew)); rw [HSX.out]; rintro e w' ⟨rfl, rfl⟩)
          refine wpAny_ready (rs := [11]) (by kernel_rfl) (by simp) (AllReady.cons rfl (fun J hJ => ?_) AllReady.nil)
          go_simp
          go_wp2_with (go_at_call 16; refine (sum_any _ (l.drop K) _ ?hh hin2.out).mono ?_; (case hh => exact HVD.out.below (((Below.refl _ _).alloc (Nat.le_refl _) _).drew)); rw [HSY.out]; rintro e w' ⟨rfl, rfl⟩)
          refine wpAny_ready (rs := [12]) (by kernel_rfl) (by simp) (AllReady.cons rfl (fun J hJ => ?_) AllReady.nil)
          go_simp
          refine hJ _ _ ?_
          clear hJ J
          refine wpAny_ready (rs := [13]) (by kernel_rfl) (by simp) (AllReady.cons rfl (fun J hJ => ?_) AllReady.nil)
          go_simp
          go_wp2_with (go_at_call 16; refine (sum_any _ [SX, SY] _ ?hh ?hi).mono ?_; (case hh => exact (two_row (w1.alloc (.cells #[.int .i64 X, .int .i64 Y] 2)) _ (by simp) SX SY).below ((Below.refl _ _).drew)); (case hi => (intro x hx; simp at hx; omega)); rw [HSZ.out]; rintro e w' ⟨rfl, rfl⟩)
          refine wpAny_ready (rs := [15]) (by kernel_rfl) (by simp) (AllReady.cons rfl (fun J hJ => ?_) AllReady.nil)
          go_simp
          go_wp2_with (go_at_call 16; refine (sum_any _ l _ ?hh hin).mono ?_; (case hh => exact HFU.out.below ((((Below.refl _ _).alloc (Nat.le_refl _) _).alloc (by simp) _).drew)); rintro e w' ⟨rfl, rfl⟩)
          refine wpAny_ready (rs := [16]) (by kernel_rfl) (by simp) (AllReady.cons rfl (fun J hJ => ?_) AllReady.nil)
          go_simp
          refine hJ _ _ ?_
          clear hJ J
          refine wpAny_ready (rs := [17]) (by kernel_rfl) (by simp) (AllReady.cons rfl (fun J hJ => ?_) AllReady.nil)
          go_simp
          refine hJ _ _ ?_
          clear hJ J
          refine wpAny_ready (rs := [18]) (by kernel_rfl) (by simp) (AllReady.cons rfl (fun J hJ => ?_) AllReady.nil)
          go_simp
          refine hJ _ _ ?_
          clear hJ J
          refine wpAny_done (by kernel_rfl) ?_ _
          go_wp2_with fail
          go_ret
          exact ⟨ret_boolT (by simp), HB.out.trans ((((((Below.refl _ _).alloc (Nat.le_refl _) _).alloc (by simp) _).drew)).mono HB.out.size)⟩

set_option maxRecDepth 100000 in
theorem costLeast_walks : Walks laidAll 7 Tryd.f7 := by
  intro H enc W args ds g
  obtain ⟨ps, hA⟩ := g.reads
  obtain ⟨base, hval⟩ := g.okay
  rw [Tryd.params7] at hA hval
  obtain ⟨v0, vs0, d0, ds0, p0, q0, hargs, rfl, rfl, h0, r0⟩ := trodAll_cons hA
  obtain ⟨v1, vs1, d1, ds1, p1, q1, rfl, rfl, rfl, h1, r1⟩ := trodAll_cons r0
  obtain ⟨rfl, rfl, rfl⟩ := trodAll_nil r1
  obtain rfl : args = #[v0, v1] := Array.toList_inj.1 hargs
  obtain ⟨x0, w0, u0⟩ := open_i64s (hval 0 22 v0 rfl rfl) h0
  obtain ⟨x1, rfl, rfl, rfl, w1⟩ := open_int Tryd.underlying5 (hval 1 5 v1 rfl rfl) h1
  exact least_walk v0 x0 x1 W (errT_of_laid g.laid) w0 u0 (wfu8 w1).1 (wfu8 w1).2

theorem costLeast_row : Rows.CostLeastSaid :=
  OpenClaim.holds_of_wide 7 Tryd.f7 rfl rfl rfl rfl rfl rfl rfl ⟨rfl, rfl, rfl, rfl, rfl⟩ rfl rfl rfl rfl rfl (by kernel_rfl) Tryd.func7 (by kernel_rfl)
    (of_decide_eq_true (by kernel_rfl)) (by unfold Func.isWrapper; rw [if_neg (of_decide_eq_false (by kernel_rfl))]; exact ⟨rfl, rfl⟩)
    (fun os started H enc _ => law_lifted (s := Rows.costLeastSpec) (L := laidAll) Tryd.func7 (by kernel_rfl) rfl (by kernel_rfl)
      (fun H ds hl => by
        rw [Tryd.params7] at hl
        match ds, hl with
        | [_, _], _ => exact ⟨rfl, rfl, rfl⟩)
      (by kernel_rfl) os started H enc
      (ChangeSpec.witness_at (enc := enc) (C := Tryd.checked) (os := os) (X := fun w _ => laidMetH Tryd.prog laidAll w) false (laidWorld os) #[.slice none 0 0, .int .u8 0] 8 rfl (by kernel_rfl) (by kernel_rfl) (by kernel_rfl) (by kernel_rfl) (by kernel_rfl) (laidWorld_met os _))
      costLeast_walks)

theorem costLeast_card : Rows.CostLeastCardSaid :=
  Claim7.holds_tied_plain_at .later [] laidKindsAll true (Rows.costLeastCard.stood.harness) true
    costLeast_row (fun _ h => by cases h) (by kernel_rfl) (fun _ h => by cases h) costLeast_row_tie rfl ⟨rfl, rfl⟩ (by kernel_rfl) rfl
    (fun f fn hf hfn => by
      obtain rfl : f = 7 := Option.some.inj ((show Tryd.prog.funcNamed "roundsman/roundsmanlaw1.CostLeast" = some 7 by kernel_rfl).symm.trans hf) |>.symm
      obtain rfl : fn = Tryd.f7 := (Option.some.inj (Tryd.func7.symm.trans hfn)).symm
      exact ⟨by kernel_rfl, fun j t ht => by
        rw [Tryd.params7] at ht
        exact stand_all #[22, 5] (by kernel_rfl) j t ht⟩)
    (by kernel_rfl)
#print axioms costLeast_card

end Go.Proofs.YtboobkdbdccliaaDoor
