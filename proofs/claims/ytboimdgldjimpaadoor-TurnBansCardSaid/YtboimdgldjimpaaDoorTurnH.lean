/-
  Tables without a way back where there is no turn at all, or none may be; and what is made, in one word each.
-/
import Derived.Test.YtboimdgldjimpaaDoorTurnG
namespace Go.Proofs.YtboimdgldjimpaaDoor
open Go.RowKit

set_option maxHeartbeats 2000000 in
set_option maxRecDepth 100000 in
/-- The document's Back, where Free tells a table of no turn. -/
theorem rback_of (n : Int) (ps : List (ByteArray × Int)) (er : Int) (w : World)
    (hc : ∀ w, Calls Tryd.prog 23 #[.int .i64 n, .int .i64 n] w (TWPost 0 0 [] ps er w)) :
    Calls Tryd.prog 25 #[.int .i64 n] w (TWPost 0 0 [] ps er w) := by
  have HC := Lib.hid hc
  clear hc
  go_enter Tryd.func25, Tryd.ntmps25
  go_wp2_with fail
  refine (HC.out _).mono ?_
  rintro e w3 ⟨tv, wv, rfl, ⟨u, rfl, hU⟩, hW, hb⟩
  obtain ⟨uq, uc, rfl⟩ := hU.shape
  obtain ⟨wq, wn, wc, rfl⟩ := hW.shape
  have z3 : w.heap.size + 1 + 1 ≤ w3.heap.size := by have := hb.size; simpa using this
  have br := (Blk.new w #[.int .i64 0, .int .i64 0, .slice none 0 0] 24 w.heap.size rfl).old (.cells #[.slice none 0 0, .int .i64 0] 28) |>.keep hb
  have be := (Blk.new (w.alloc (.cells #[.int .i64 0, .int .i64 0, .slice none 0 0] 24)) #[.slice none 0 0, .int .i64 0] 28 (w.heap.size + 1) (by simp)) |>.keep hb
  have HB3 : Hid (Below w.heap.size w w3) := Lib.hid ((below_alloc2 _ _).trans (hb.mono (by simp; omega)))
  have HW := Lib.hid hW
  have HU := Lib.hid hU
  have HR := Lib.hid br
  have HE := Lib.hid be
  clear hb hW hU br be HC
  go_wp2_with fail
  obtain ⟨w4, hw4⟩ := named ((w3.alloc (.cells #[.int .i64 0, .int .i64 0, .slice uq 0 uc] 24)).alloc (.cells #[.slice wq wn wc, .int .i64 er] 28))
  rw [← hw4]
  have HT : Hid (Blk w4 w3.heap.size #[.int .i64 0, .int .i64 0, .slice uq 0 uc] 24) := by rw [hw4]; exact Lib.hid ((Blk.new _ _ _ _ rfl).old _)
  have HX : Hid (Blk w4 (w3.heap.size + 1) #[.slice wq wn wc, .int .i64 er] 28) := by rw [hw4]; exact Lib.hid (Blk.new _ _ _ _ (by simp))
  have hb4 : Below w3.heap.size w3 w4 := by rw [hw4]; exact below_alloc2 _ _
  have HNS : Hid (NoStr w4 [w.heap.size, w.heap.size + 1]) := Lib.hid (NoStr.cons (HR.out.keep hb4) (by simp) (NoStr.cons (HE.out.keep hb4) (by simp) (NoStr.nil _)))
  obtain ⟨c0, c1, c2, -, -, -⟩ := HT.out.o3
  obtain ⟨d0, d1, -, -⟩ := HX.out.o2
  obtain ⟨t0, t1, t2, f0, f1, f2⟩ := (HR.out.keep hb4).o3
  obtain ⟨s0, s1, f3, f4⟩ := (HE.out.keep hb4).o2
  have HB4 : Hid (Below w.heap.size w w4) := Lib.hid (HB3.out.trans (hb4.mono (by omega)))
  have HW4 := Lib.hid (HW.out.below hb4)
  have HU4 := Lib.hid (HU.out.below hb4)
  clear hw4 hb4 HR HE HB3 HT HX HU HW
  refine wp_loop_rounds 1 ?_
  rw [rounds_succ]
  go_wp2
  go_region
  all_goals
    go_wp2_with fail
    refine bodyPost_ret (v := .tuple #[.agg #[.int .i64 0, .int .i64 0, .slice uq 0 uc], .agg #[.slice wq wn wc, .int .i64 er]]) (by simp [results, Tryd.results25, go_sem]; go_simp) rfl ⟨_, _, rfl, ⟨_, rfl, ?_⟩, HW4.out.only (ks := [w.heap.size, w.heap.size + 1]) ?_ HNS.out, ?_⟩
    · exact Or.inl ⟨rfl, uq, uc, rfl, fun h => by subst h; rcases HU4.out with ⟨_, p, c, e, h⟩ | ⟨_, b, o, c, _, _, e, _⟩
                                                  · injection e with e1 _ e3; rw [e3]; exact h e1.symm
                                                  · injection e with e1; cases e1⟩
    · refine Only.drew ?_
      iterate 5 (refine Only.setCell ?_ _ _ (by simp))
      exact Only.refl _ _
    · refine Below.drew ?_
      iterate 5 (refine Below.setCell ?_ (by simp only []; omega) _)
      exact HB4.out

set_option maxHeartbeats 2000000 in
set_option maxRecDepth 100000 in
/-- The program's Back, of none. -/
theorem tback_zero (w : World) : Calls Tryd.prog 24 #[.int .i64 0] w (FreePost 0 0 [] w) := by
  go_enter Tryd.func24, Tryd.ntmps24
  go_wp2_with fail
  refine (tfree_ok 0 0 _ (by omega) (by omega)).mono ?_
  rintro e w3 ⟨tv, rfl, ⟨u, rfl, hO⟩, hb⟩
  have hO' : w3.ownsRow (w.heap.size + 1) 2 1 u 0 [] := by simpa using hO
  obtain ⟨uq, uc, rfl⟩ : ∃ q c, u = .slice q 0 c := by
    rcases hO'.2 with ⟨h, _⟩ | ⟨g, cap, cur, e, _⟩
    · exact ⟨_, _, h⟩
    · exact ⟨_, _, e⟩
  have z3 : w.heap.size + 1 ≤ w3.heap.size := by have := hb.size; simpa using this
  have br := (Blk.new w #[.int .i64 0, .int .i64 0, .slice none 0 0] 34 w.heap.size rfl) |>.keep hb
  have HB3 : Hid (Below w.heap.size w w3) := Lib.hid ((below_alloc1 _).trans (hb.mono (by simp)))
  have HO := Lib.hid hO'
  have HR := Lib.hid br
  clear hO hO' hb br
  go_wp2_with fail
  obtain ⟨w4, hw4⟩ := named (w3.alloc (.cells #[.int .i64 0, .int .i64 0, .slice uq 0 uc] 34))
  rw [← hw4]
  have HT : Hid (Blk w4 w3.heap.size #[.int .i64 0, .int .i64 0, .slice uq 0 uc] 34) := by rw [hw4]; exact Lib.hid (Blk.new _ _ _ _ rfl)
  have hb4 : Below w3.heap.size w3 w4 := by rw [hw4]; exact below_alloc1 _
  obtain ⟨c0, c1, c2, -, -, -⟩ := HT.out.o3
  obtain ⟨t0, t1, t2, f0, f1, f2⟩ := (HR.out.keep hb4).o3
  have HO4 := Lib.hid (owns_below HO.out hb4)
  have HB4 : Hid (Below w.heap.size w w4) := Lib.hid (HB3.out.trans (hb4.mono (by omega)))
  clear hw4 hb4 HR HO HB3 HT
  refine wp_loop_rounds 1 ?_
  rw [rounds_succ]
  go_wp2
  refine bodyPost_ret (v := .tuple #[.agg #[.int .i64 0, .int .i64 0, .slice uq 0 uc], .nilIface]) (by simp [results, Tryd.results24, go_sem]; go_simp) rfl ⟨_, rfl, ⟨_, rfl, ?_⟩, ?_⟩
  · have o1 := ownsRow_setCell_below (base := w.heap.size + 1) HO4.out (a := ⟨w.heap.size, 0, none⟩) (by show w.heap.size < w.heap.size + 1; omega) (.int .i64 0)
    have o2 := ownsRow_setCell_below o1 (a := ⟨w.heap.size, 1, none⟩) (by show w.heap.size < w.heap.size + 1; omega) (.int .i64 0)
    have o3 := ownsRow_setCell_below o2 (a := ⟨w.heap.size, 2, none⟩) (by show w.heap.size < w.heap.size + 1; omega) (.slice uq 0 uc)
    exact owns_base o3 (by omega)
  · iterate 3 (refine Below.setCell ?_ (by simp only []; omega) _)
    exact HB4.out

set_option maxHeartbeats 2000000 in
set_option maxRecDepth 100000 in
/-- .. of as many as may not be. -/
theorem tback_bad (n : Int) (w : World) (h : n < 0 ∨ 16 < n) : Calls Tryd.prog 24 #[.int .i64 n] w (TEPost 0 0 [] [(turnB, 0)] 1 w) := by
  go_enter Tryd.func24, Tryd.ntmps24
  go_wp2_with fail
  refine (tfree_in n n _ h).mono ?_
  rintro e w3 ⟨tv, v, rfl, ⟨u, rfl, hU⟩, hF, hb⟩
  obtain ⟨uq, uc, rfl⟩ := hU.shape
  obtain ⟨b, rfl, hE⟩ := hF.iface
  have z3 : w.heap.size + 1 ≤ w3.heap.size := by have := hb.size; simpa using this
  have br := (Blk.new w #[.int .i64 0, .int .i64 0, .slice none 0 0] 34 w.heap.size rfl) |>.keep hb
  have hb4 := below_alloc1 (w := w3) (.cells #[.int .i64 0, .int .i64 0, .slice uq 0 uc] 34)
  have HE := Lib.hid (hE.below hb4)
  have HB4 : Hid (Below w.heap.size w (w3.alloc (.cells #[.int .i64 0, .int .i64 0, .slice uq 0 uc] 34))) := Lib.hid (((below_alloc1 _).trans (hb.mono (by simp))).trans (hb4.mono (by omega)))
  have HR := Lib.hid (br.keep hb4)
  clear hb hF hE hU br hb4 h
  obtain ⟨t0, t1, t2, f0, f1, f2⟩ := HR.out.o3
  go_wp2_with fail
  refine bodyPost_ret (v := .tuple #[.agg #[.int .i64 0, .int .i64 0, .slice none 0 0], .iface 61 (.pointer (some ⟨b, 0, none⟩))]) (by simp [results, Tryd.results24, go_sem]; go_simp) rfl ⟨_, _, rfl, tab_zero _, Or.inr ⟨by simp, HE.out.setTab t0 rfl⟩, ?_⟩
  exact (((HB4.out.setCell (by simp only []; omega) _).setCell (by simp only []; omega) _).setCell (by simp only []; omega) _)

/-! ### in one word each -/
/-- What Free tells: ins, outs, costs; where and what is wrong. -/
def freeS (I O : Int) : (Int × Int × List Int) × (Int × Int) :=
  if I < 0 ∨ 16 < I then ((0, 0, []), (0, 1)) else if O < 0 ∨ 16 < O then ((0, 0, []), (1, 1)) else ((I, O, List.replicate (I * O).toNat 0), (0, 0))
/-- What Back tells. -/
def backS (n : Int) : (Int × Int × List Int) × (Int × Int) :=
  if n < 0 ∨ 16 < n then ((0, 0, []), (0, 1)) else ((n, n, backL n.toNat n.toNat), (0, 0))

theorem tfree_any (I O : Int) (w : World) : Calls Tryd.prog 22 #[.int .i64 I, .int .i64 O] w (TEPost (freeS I O).1.1 (freeS I O).1.2.1 (freeS I O).1.2.2 (turnW (freeS I O).2) (freeS I O).2.2 w) := by
  unfold freeS
  by_cases h0 : I < 0 ∨ 16 < I
  · simp only [if_pos h0]; exact tfree_in I O w h0
  by_cases h1 : O < 0 ∨ 16 < O
  · simp only [if_neg h0, if_pos h1]; exact tfree_out I O w h0 h1
  · simp only [if_neg h0, if_neg h1]
    have s := size_le (I := I) (O := O) ⟨by omega, by omega, by omega, by omega⟩
    refine (tfree_ok I O w h0 h1).mono ?_
    rintro e w' ⟨tv, rfl, hO, hb⟩
    exact ⟨tv, .nilIface, rfl, hO.tab (by rw [List.length_replicate]; omega), Or.inl ⟨rfl, rfl⟩, hb⟩
theorem rfree_any (I O : Int) (w : World) : Calls Tryd.prog 23 #[.int .i64 I, .int .i64 O] w (TWPost (freeS I O).1.1 (freeS I O).1.2.1 (freeS I O).1.2.2 (turnW (freeS I O).2) (freeS I O).2.2 w) := by
  unfold freeS
  by_cases h0 : I < 0 ∨ 16 < I
  · simp only [if_pos h0]
    exact rfree_bad I O w (0, 1) (by unfold chkT; rw [if_pos h0]) (by simp) (by omega)
  by_cases h1 : O < 0 ∨ 16 < O
  · simp only [if_neg h0, if_pos h1]
    exact rfree_bad I O w (1, 1) (by unfold chkT; rw [if_neg h0, if_pos h1]) (by simp) (by omega)
  · simp only [if_neg h0, if_neg h1]
    have s := size_le (I := I) (O := O) ⟨by omega, by omega, by omega, by omega⟩
    refine (rfree_ok I O w h0 h1).mono ?_
    rintro e w' ⟨tv, wv, rfl, hO, hW, hb⟩
    exact ⟨tv, wv, rfl, hO.tab (by rw [List.length_replicate]; omega), hW, hb⟩
theorem tback_any (n : Int) (w : World) : Calls Tryd.prog 24 #[.int .i64 n] w (TEPost (backS n).1.1 (backS n).1.2.1 (backS n).1.2.2 (turnW (backS n).2) (backS n).2.2 w) := by
  unfold backS
  by_cases h0 : n < 0 ∨ 16 < n
  · simp only [if_pos h0]; exact tback_bad n w h0
  · simp only [if_neg h0]
    by_cases hz : n = 0
    · subst hz
      refine (tback_zero w).mono ?_
      rintro e w' ⟨tv, rfl, hO, hb⟩
      exact ⟨tv, .nilIface, rfl, hO.tab (by simp), Or.inl ⟨rfl, rfl⟩, hb⟩
    · obtain ⟨m, rfl⟩ : ∃ m : Nat, n = m := ⟨n.toNat, by omega⟩
      have hm : m ≤ 16 := by omega
      refine (tback_pos m w (by omega) hm).mono ?_
      rintro e w' ⟨tv, rfl, hO, hb⟩
      rw [Int.toNat_natCast]
      exact ⟨tv, .nilIface, rfl, hO.tab (by rw [backL_length]; have := Nat.mul_le_mul hm hm; omega), Or.inl ⟨rfl, rfl⟩, hb⟩
theorem rback_any (n : Int) (w : World) : Calls Tryd.prog 25 #[.int .i64 n] w (TWPost (backS n).1.1 (backS n).1.2.1 (backS n).1.2.2 (turnW (backS n).2) (backS n).2.2 w) := by
  unfold backS
  by_cases h0 : n < 0 ∨ 16 < n
  · simp only [if_pos h0]
    exact rback_of n _ _ w (fun w => rfree_bad n n w (0, 1) (by unfold chkT; rw [if_pos h0]) (by simp) (by omega))
  · simp only [if_neg h0]
    by_cases hz : n = 0
    · subst hz
      refine rback_of 0 _ _ w (fun w => ?_)
      have h := rfree_any 0 0 w
      exact h
    · obtain ⟨m, rfl⟩ : ∃ m : Nat, n = m := ⟨n.toNat, by omega⟩
      have hm : m ≤ 16 := by omega
      refine (rback_pos m w (by omega) hm).mono ?_
      rintro e w' ⟨tv, wv, rfl, hO, hW, hb⟩
      rw [Int.toNat_natCast]
      exact ⟨tv, wv, rfl, hO.tab (by rw [backL_length]; have := Nat.mul_le_mul hm hm; omega), hW, hb⟩

end Go.Proofs.YtboimdgldjimpaaDoor
