/-
  The program's own tables of turns: With, of any turn and cost.
-/
import Derived.Test.YtboimdgldjimpaaDoorTurnC
namespace Go.Proofs.YtboimdgldjimpaaDoor
open Go.RowKit

set_option maxHeartbeats 1000000 in
set_option maxRecDepth 100000 in
theorem twith_in (I O : Int) (u : Value) (l : List Int) (x y c : Int) (w : World) (hck : chkT I O l = (0, 0)) (hu : I64s w u l) (hin : In64 l) (h : x < 0 ∨ I ≤ x) :
    Calls Tryd.prog 15 #[.agg #[.int .i64 I, .int .i64 O, u], .int .i64 x, .int .i64 y, .int .i64 c] w (TEPost 0 0 [] [(turnB, 0)] 5 w) := by
  have d1 : decide (0 ≤ x ∧ x < I) = false := by simp; omega
  have D1 := Lib.hid d1
  clear d1
  have HCK := Lib.hid hck
  obtain ⟨q, cu, rfl⟩ := hu.shape
  have HU := Lib.hid hu
  clear hck hu
  go_enter Tryd.func15, Tryd.ntmps15
  go_wp2_with fail
  refine (tcheck_any I O _ l _ (HU.out.below (below_alloc2 _ _)) hin).mono ?_
  rw [HCK.out]
  rintro e w1 ⟨v, rfl, hF, hb⟩
  obtain rfl := FaultV.none hF
  have hz : w.heap.size + 1 + 1 ≤ w1.heap.size := by have := hb.size; simpa using this
  have a0 : w1.cell? ⟨w.heap.size, 0, none⟩ = some (.int .i64 I) := (hb.cell (by simp; omega)).trans (by go_simp)
  have a1 : w1.cell? ⟨w.heap.size, 1, none⟩ = some (.int .i64 O) := (hb.cell (by simp; omega)).trans (by go_simp)
  have r0 : w1.cell? ⟨w.heap.size + 1, 0, none⟩ = some (.int .i64 0) := (hb.cell (by simp)).trans (by go_simp)
  have r1 : w1.cell? ⟨w.heap.size + 1, 1, none⟩ = some (.int .i64 0) := (hb.cell (by simp)).trans (by go_simp)
  have r2 : w1.cell? ⟨w.heap.size + 1, 2, none⟩ = some (.slice none 0 0) := (hb.cell (by simp)).trans (by go_simp)
  have f0 : w1.frozen? ⟨w.heap.size + 1, 0, none⟩ = false := (hb.frozen (by simp)).trans (by go_simp)
  have f1 : w1.frozen? ⟨w.heap.size + 1, 1, none⟩ = false := (hb.frozen (by simp)).trans (by go_simp)
  have f2 : w1.frozen? ⟨w.heap.size + 1, 2, none⟩ = false := (hb.frozen (by simp)).trans (by go_simp)
  have HB1 : Hid (Below w.heap.size w w1) := Lib.hid ((below_alloc2 _ _).trans (hb.mono (by simp; omega)))
  clear hF hb
  go_wp2_with fail
  refine (among_any x I _).mono ?_
  rw [D1.out]
  rintro e w' ⟨rfl, rfl⟩
  go_wp2_with fail
  refine (tfault_any _ _ _).mono ?_
  rintro e w' ⟨rfl, rfl⟩
  have hb2 : Below w1.heap.size w1 (w1.alloc (.cells #[.string turnB, .int .i64 0, .iface 60 (.int .i64 5)] 65)) := below_alloc1 _
  have hF2 := fault_laid w1 w1.heap.size rfl turnB 0 5
  obtain ⟨w2, hw2⟩ : ∃ w2, w2 = w1.alloc (.cells #[.string turnB, .int .i64 0, .iface 60 (.int .i64 5)] 65) := ⟨_, rfl⟩
  rw [← hw2] at hb2 hF2 ⊢
  have u0 := (hb2.cell (p := ⟨w.heap.size + 1, 0, none⟩) (by simp only []; omega)).trans r0
  have u1 := (hb2.cell (p := ⟨w.heap.size + 1, 1, none⟩) (by simp only []; omega)).trans r1
  have u2 := (hb2.cell (p := ⟨w.heap.size + 1, 2, none⟩) (by simp only []; omega)).trans r2
  have g0 := (hb2.frozen (p := ⟨w.heap.size + 1, 0, none⟩) (by simp only []; omega)).trans f0
  have g1 := (hb2.frozen (p := ⟨w.heap.size + 1, 1, none⟩) (by simp only []; omega)).trans f1
  have g2 := (hb2.frozen (p := ⟨w.heap.size + 1, 2, none⟩) (by simp only []; omega)).trans f2
  have HB2 : Hid (Below w.heap.size w w2) := Lib.hid (HB1.out.trans (hb2.mono (by omega)))
  obtain ⟨b, hbv, hE⟩ := hF2.iface
  obtain rfl : w1.heap.size = b := by injection hbv with _ e; injection e with e; injection e with e; injection e
  have HE := Lib.hid hE
  have HW := Lib.hid hw2
  clear hw2 hF2 hE hbv hb2 a0 a1 r0 r1 r2 f0 f1 f2
  go_wp2_with fail
  refine bodyPost_ret (v := .tuple #[.agg #[.int .i64 0, .int .i64 0, .slice none 0 0], .iface 61 (.pointer (some ⟨w1.heap.size, 0, none⟩))]) (by simp [results, Tryd.results15, go_sem]; go_simp) rfl ⟨_, _, rfl, tab_zero _, Or.inr ⟨by simp, HE.out.setTab u0 rfl⟩, ?_⟩
  exact (((HB2.out.setCell (by simp only []; omega) _).setCell (by simp only []; omega) _).setCell (by simp only []; omega) _)

set_option maxHeartbeats 1000000 in
set_option maxRecDepth 100000 in
theorem twith_out (I O : Int) (u : Value) (l : List Int) (x y c : Int) (w : World) (hck : chkT I O l = (0, 0)) (hu : I64s w u l) (hin : In64 l) (h0 : ¬ (x < 0 ∨ I ≤ x)) (h : y < 0 ∨ O ≤ y) :
    Calls Tryd.prog 15 #[.agg #[.int .i64 I, .int .i64 O, u], .int .i64 x, .int .i64 y, .int .i64 c] w (TEPost 0 0 [] [(turnB, 1)] 5 w) := by
  have d1 : decide (0 ≤ x ∧ x < I) = true := by simp; omega
  have d2 : decide (0 ≤ y ∧ y < O) = false := by simp; omega
  have D1 := Lib.hid d1
  have D2 := Lib.hid d2
  clear d1 d2
  have HCK := Lib.hid hck
  obtain ⟨q, cu, rfl⟩ := hu.shape
  have HU := Lib.hid hu
  clear hck hu
  go_enter Tryd.func15, Tryd.ntmps15
  go_wp2_with fail
  refine (tcheck_any I O _ l _ (HU.out.below (below_alloc2 _ _)) hin).mono ?_
  rw [HCK.out]
  rintro e w1 ⟨v, rfl, hF, hb⟩
  obtain rfl := FaultV.none hF
  have hz : w.heap.size + 1 + 1 ≤ w1.heap.size := by have := hb.size; simpa using this
  have a0 : w1.cell? ⟨w.heap.size, 0, none⟩ = some (.int .i64 I) := (hb.cell (by simp; omega)).trans (by go_simp)
  have a1 : w1.cell? ⟨w.heap.size, 1, none⟩ = some (.int .i64 O) := (hb.cell (by simp; omega)).trans (by go_simp)
  have r0 : w1.cell? ⟨w.heap.size + 1, 0, none⟩ = some (.int .i64 0) := (hb.cell (by simp)).trans (by go_simp)
  have r1 : w1.cell? ⟨w.heap.size + 1, 1, none⟩ = some (.int .i64 0) := (hb.cell (by simp)).trans (by go_simp)
  have r2 : w1.cell? ⟨w.heap.size + 1, 2, none⟩ = some (.slice none 0 0) := (hb.cell (by simp)).trans (by go_simp)
  have f0 : w1.frozen? ⟨w.heap.size + 1, 0, none⟩ = false := (hb.frozen (by simp)).trans (by go_simp)
  have f1 : w1.frozen? ⟨w.heap.size + 1, 1, none⟩ = false := (hb.frozen (by simp)).trans (by go_simp)
  have f2 : w1.frozen? ⟨w.heap.size + 1, 2, none⟩ = false := (hb.frozen (by simp)).trans (by go_simp)
  have HB1 : Hid (Below w.heap.size w w1) := Lib.hid ((below_alloc2 _ _).trans (hb.mono (by simp; omega)))
  clear hF hb
  go_wp2_with fail
  refine (among_any x I _).mono ?_
  rw [D1.out]
  rintro e w' ⟨rfl, rfl⟩
  go_wp2_with fail
  refine (among_any y O _).mono ?_
  rw [D2.out]
  rintro e w' ⟨rfl, rfl⟩
  go_wp2_with fail
  refine (tfault_any _ _ _).mono ?_
  rintro e w' ⟨rfl, rfl⟩
  have hb2 : Below w1.heap.size w1 (w1.alloc (.cells #[.string turnB, .int .i64 1, .iface 60 (.int .i64 5)] 65)) := below_alloc1 _
  have hF2 := fault_laid w1 w1.heap.size rfl turnB 1 5
  obtain ⟨w2, hw2⟩ : ∃ w2, w2 = w1.alloc (.cells #[.string turnB, .int .i64 1, .iface 60 (.int .i64 5)] 65) := ⟨_, rfl⟩
  rw [← hw2] at hb2 hF2 ⊢
  have u0 := (hb2.cell (p := ⟨w.heap.size + 1, 0, none⟩) (by simp only []; omega)).trans r0
  have u1 := (hb2.cell (p := ⟨w.heap.size + 1, 1, none⟩) (by simp only []; omega)).trans r1
  have u2 := (hb2.cell (p := ⟨w.heap.size + 1, 2, none⟩) (by simp only []; omega)).trans r2
  have g0 := (hb2.frozen (p := ⟨w.heap.size + 1, 0, none⟩) (by simp only []; omega)).trans f0
  have g1 := (hb2.frozen (p := ⟨w.heap.size + 1, 1, none⟩) (by simp only []; omega)).trans f1
  have g2 := (hb2.frozen (p := ⟨w.heap.size + 1, 2, none⟩) (by simp only []; omega)).trans f2
  have HB2 : Hid (Below w.heap.size w w2) := Lib.hid (HB1.out.trans (hb2.mono (by omega)))
  obtain ⟨b, hbv, hE⟩ := hF2.iface
  obtain rfl : w1.heap.size = b := by injection hbv with _ e; injection e with e; injection e with e; injection e
  have HE := Lib.hid hE
  have HW := Lib.hid hw2
  clear hw2 hF2 hE hbv hb2 a0 a1 r0 r1 r2 f0 f1 f2
  go_wp2_with fail
  refine bodyPost_ret (v := .tuple #[.agg #[.int .i64 0, .int .i64 0, .slice none 0 0], .iface 61 (.pointer (some ⟨w1.heap.size, 0, none⟩))]) (by simp [results, Tryd.results15, go_sem]; go_simp) rfl ⟨_, _, rfl, tab_zero _, Or.inr ⟨by simp, HE.out.setTab u0 rfl⟩, ?_⟩
  exact (((HB2.out.setCell (by simp only []; omega) _).setCell (by simp only []; omega) _).setCell (by simp only []; omega) _)

set_option maxHeartbeats 1000000 in
set_option maxRecDepth 100000 in
theorem twith_range (I O : Int) (u : Value) (l : List Int) (x y c : Int) (w : World) (hck : chkT I O l = (0, 0)) (hu : I64s w u l) (hin : In64 l) (c0 : -9223372036854775808 ≤ c) (c1 : c ≤ 9223372036854775807) (h0 : ¬ (x < 0 ∨ I ≤ x)) (h : ¬ (y < 0 ∨ O ≤ y)) (hc : wgt c = false) :
    Calls Tryd.prog 15 #[.agg #[.int .i64 I, .int .i64 O, u], .int .i64 x, .int .i64 y, .int .i64 c] w (TEPost 0 0 [] [(turnB, 2)] 8 w) := by
  have d1 : decide (0 ≤ x ∧ x < I) = true := by simp; omega
  have d2 : decide (0 ≤ y ∧ y < O) = true := by simp; omega
  have D1 := Lib.hid d1
  have D2 := Lib.hid d2
  clear d1 d2
  have HCK := Lib.hid hck
  obtain ⟨q, cu, rfl⟩ := hu.shape
  have HU := Lib.hid hu
  clear hck hu
  go_enter Tryd.func15, Tryd.ntmps15
  go_wp2_with fail
  refine (tcheck_any I O _ l _ (HU.out.below (below_alloc2 _ _)) hin).mono ?_
  rw [HCK.out]
  rintro e w1 ⟨v, rfl, hF, hb⟩
  obtain rfl := FaultV.none hF
  have hz : w.heap.size + 1 + 1 ≤ w1.heap.size := by have := hb.size; simpa using this
  have a0 : w1.cell? ⟨w.heap.size, 0, none⟩ = some (.int .i64 I) := (hb.cell (by simp; omega)).trans (by go_simp)
  have a1 : w1.cell? ⟨w.heap.size, 1, none⟩ = some (.int .i64 O) := (hb.cell (by simp; omega)).trans (by go_simp)
  have r0 : w1.cell? ⟨w.heap.size + 1, 0, none⟩ = some (.int .i64 0) := (hb.cell (by simp)).trans (by go_simp)
  have r1 : w1.cell? ⟨w.heap.size + 1, 1, none⟩ = some (.int .i64 0) := (hb.cell (by simp)).trans (by go_simp)
  have r2 : w1.cell? ⟨w.heap.size + 1, 2, none⟩ = some (.slice none 0 0) := (hb.cell (by simp)).trans (by go_simp)
  have f0 : w1.frozen? ⟨w.heap.size + 1, 0, none⟩ = false := (hb.frozen (by simp)).trans (by go_simp)
  have f1 : w1.frozen? ⟨w.heap.size + 1, 1, none⟩ = false := (hb.frozen (by simp)).trans (by go_simp)
  have f2 : w1.frozen? ⟨w.heap.size + 1, 2, none⟩ = false := (hb.frozen (by simp)).trans (by go_simp)
  have HB1 : Hid (Below w.heap.size w w1) := Lib.hid ((below_alloc2 _ _).trans (hb.mono (by simp; omega)))
  clear hF hb
  go_wp2_with fail
  refine (among_any x I _).mono ?_
  rw [D1.out]
  rintro e w' ⟨rfl, rfl⟩
  go_wp2_with fail
  refine (among_any y O _).mono ?_
  rw [D2.out]
  rintro e w' ⟨rfl, rfl⟩
  go_wp2_with fail
  refine (weight_any _ _ c0 c1).mono ?_
  rw [hc]
  rintro e w' ⟨rfl, rfl⟩
  go_wp2_with fail
  refine (tfault_any _ _ _).mono ?_
  rintro e w' ⟨rfl, rfl⟩
  have hb2 : Below w1.heap.size w1 (w1.alloc (.cells #[.string turnB, .int .i64 2, .iface 60 (.int .i64 8)] 65)) := below_alloc1 _
  have hF2 := fault_laid w1 w1.heap.size rfl turnB 2 8
  obtain ⟨w2, hw2⟩ : ∃ w2, w2 = w1.alloc (.cells #[.string turnB, .int .i64 2, .iface 60 (.int .i64 8)] 65) := ⟨_, rfl⟩
  rw [← hw2] at hb2 hF2 ⊢
  have u0 := (hb2.cell (p := ⟨w.heap.size + 1, 0, none⟩) (by simp only []; omega)).trans r0
  have u1 := (hb2.cell (p := ⟨w.heap.size + 1, 1, none⟩) (by simp only []; omega)).trans r1
  have u2 := (hb2.cell (p := ⟨w.heap.size + 1, 2, none⟩) (by simp only []; omega)).trans r2
  have g0 := (hb2.frozen (p := ⟨w.heap.size + 1, 0, none⟩) (by simp only []; omega)).trans f0
  have g1 := (hb2.frozen (p := ⟨w.heap.size + 1, 1, none⟩) (by simp only []; omega)).trans f1
  have g2 := (hb2.frozen (p := ⟨w.heap.size + 1, 2, none⟩) (by simp only []; omega)).trans f2
  have HB2 : Hid (Below w.heap.size w w2) := Lib.hid (HB1.out.trans (hb2.mono (by omega)))
  obtain ⟨b, hbv, hE⟩ := hF2.iface
  obtain rfl : w1.heap.size = b := by injection hbv with _ e; injection e with e; injection e with e; injection e
  have HE := Lib.hid hE
  have HW := Lib.hid hw2
  clear hw2 hF2 hE hbv hb2 a0 a1 r0 r1 r2 f0 f1 f2
  go_wp2_with fail
  refine bodyPost_ret (v := .tuple #[.agg #[.int .i64 0, .int .i64 0, .slice none 0 0], .iface 61 (.pointer (some ⟨w1.heap.size, 0, none⟩))]) (by simp [results, Tryd.results15, go_sem]; go_simp) rfl ⟨_, _, rfl, tab_zero _, Or.inr ⟨by simp, HE.out.setTab u0 rfl⟩, ?_⟩
  exact (((HB2.out.setCell (by simp only []; omega) _).setCell (by simp only []; omega) _).setCell (by simp only []; omega) _)

/-- What With answers: a table of its own, or an error. -/
def WithPost (I O : Int) (l : List Int) (x y c : Int) (w : World) (ev : Ending) (w' : World) : Prop :=
  ∃ tv v, ev = .returned (.tuple #[tv, v]) ∧ TabV w' tv (withT I O l x y c).1 (withT I O l x y c).2.1 (withT I O l x y c).2.2 ∧ FaultV w' v (turnW (withW I O x y c)) (withW I O x y c).2 ∧ Below w.heap.size w w'

theorem twith_any (I O : Int) (u : Value) (l : List Int) (x y c : Int) (w : World) (hck : chkT I O l = (0, 0)) (hu : I64s w u l) (hin : In64 l) (c0 : -9223372036854775808 ≤ c) (c1 : c ≤ 9223372036854775807) :
    Calls Tryd.prog 15 #[.agg #[.int .i64 I, .int .i64 O, u], .int .i64 x, .int .i64 y, .int .i64 c] w (WithPost I O l x y c w) := by
  unfold WithPost withT withW
  by_cases h0 : x < 0 ∨ I ≤ x
  · simp only [if_pos h0]; exact twith_in I O u l x y c w hck hu hin h0
  by_cases h1 : y < 0 ∨ O ≤ y
  · simp only [if_neg h0, if_pos h1]; exact twith_out I O u l x y c w hck hu hin h0 h1
  by_cases h2 : wgt c = false
  · simp only [if_neg h0, if_neg h1, if_pos h2]; exact twith_range I O u l x y c w hck hu hin c0 c1 h0 h1 h2
  · simp only [if_neg h0, if_neg h1, if_neg h2]
    obtain ⟨q0, q1, q2, q3, hn, hall⟩ := chkT_ok (I := I) (O := O) (l := l) (by rw [hck])
    obtain ⟨s0, s1⟩ := size_le (I := I) (O := O) ⟨q0, q1, q2, q3⟩
    refine (twith_ok I O u l x y c w hck hu hin (by omega) c0 c1 (by simpa using h2)).mono ?_
    rintro e w' ⟨tv, rfl, hO, hb⟩
    exact ⟨tv, .nilIface, rfl, hO.tab (by rw [List.length_set]; omega), Or.inl ⟨rfl, rfl⟩, hb⟩

end Go.Proofs.YtboimdgldjimpaaDoor
