/-
  Tables without a way back: the program's, and both where there is no turn at all, or none may be.
-/
import Derived.Test.YtboimdgldjimpaaDoorTurnF
namespace Go.Proofs.YtboimdgldjimpaaDoor
open Go.RowKit

set_option maxHeartbeats 2000000 in
set_option maxRecDepth 100000 in
theorem tback_pos (n : Nat) (w : World) (h0 : 0 < n) (h1 : n ≤ 16) :
    Calls Tryd.prog 24 #[.int .i64 (n : Int)] w (FreePost n n (backL n n) w) := by
  have hnn : ((n : Int) * (n : Int)).toNat = n * n := by have : ((n : Int) * (n : Int)) = ((n * n : Nat) : Int) := by simp
                                                         rw [this, Int.toNat_natCast]
  have hle : n * n ≤ 256 := Nat.mul_le_mul h1 h1
  go_enter Tryd.func24, Tryd.ntmps24
  go_wp2_with fail
  refine (tfree_ok n n _ (by omega) (by omega)).mono ?_
  rintro e w3 ⟨tv, rfl, ⟨u, rfl, hO⟩, hb⟩
  rw [hnn] at hO
  have hO' : w3.ownsRow (w.heap.size + 1) 2 1 u (n * n) ((backL n 0).map (Value.int .i64)) := by simpa [backL] using hO
  obtain ⟨g, cap, cur, rfl, hg0, hg1, hg2, hg3⟩ : ∃ g cap cur, u = .slice (some ⟨g, 0, none⟩) (n * n) cap ∧ w.heap.size + 1 ≤ g ∧ w3.heap[g]? = some (.cells cur 2 (0, 0)) ∧ n * n ≤ cap ∧ cap ≤ maxLen := by
    rcases hO'.2 with ⟨_, hz⟩ | ⟨g, cap, cur, e, h1, h2, h3, h4, _, _⟩
    · exact absurd hz (by have := Nat.mul_pos h0 h0; omega)
    · exact ⟨g, cap, cur, e, h1, h2, h3, h4⟩
  have hgl : g < w3.heap.size := (Array.getElem?_eq_some_iff.1 hg1).1
  have z3 : w.heap.size + 1 ≤ w3.heap.size := by have := hb.size; simpa using this
  have br := (Blk.new w #[.int .i64 0, .int .i64 0, .slice none 0 0] 34 w.heap.size rfl) |>.keep hb
  have HB3 : Hid (Below w.heap.size w w3) := Lib.hid ((below_alloc1 _).trans (hb.mono (by simp)))
  have HO := Lib.hid hO'
  have HR := Lib.hid br
  clear hO hO' hb br hg1
  go_wp2_with fail
  obtain ⟨w4, hw4⟩ := named (w3.alloc (.cells #[.int .i64 (n : Int), .int .i64 (n : Int), .slice (some ⟨g, 0, none⟩) (n * n) cap] 34))
  rw [← hw4]
  have HT : Hid (Blk w4 w3.heap.size #[.int .i64 (n : Int), .int .i64 (n : Int), .slice (some ⟨g, 0, none⟩) (n * n) cap] 34) := by rw [hw4]; exact Lib.hid (Blk.new _ _ _ _ rfl)
  have hb4 : Below w3.heap.size w3 w4 := by rw [hw4]; exact below_alloc1 _
  have z4 : w4.heap.size = w3.heap.size + 1 := by rw [hw4]; simp
  have HR4 := Lib.hid (HR.out.keep hb4)
  have HO4 := Lib.hid (owns_below HO.out hb4)
  have HB4 : Hid (Below w.heap.size w w4) := Lib.hid (HB3.out.trans (hb4.mono (by omega)))
  clear hw4 hb4 HR HO HB3
  go_loopw [6, 18] (fun _ i wr => ∃ k : Nat, k ≤ n ∧ i = .int .i64 k ∧ BackAt w4 (w.heap.size + 1) n g cap k wr) (fun _ i _ => n - (intOf i).toNat)
  case atStart => exact ⟨0, Nat.zero_le _, rfl, ⟨HO4.out, grown_refl _ _⟩⟩
  case round =>
    obtain ⟨k, hk, rfl, hA⟩ := hrel
    have hT := HT.out.grown hA.grown (by omega)
    obtain ⟨c0, c1, c2, -, -, -⟩ := hT.o3
    have hzr := hA.grown.size
    by_cases hlt : k < n
    · have hix := backL_lt n k hlt
      have hcell : wr.cell? ⟨g, k * n + k, none⟩ = some (.int .i64 ((backL n k)[k * n + k]'(by rw [backL_length]; exact hix))) := by
        rw [hA.own.cellAt _ (by omega)]; simp [backL_length, hix]
      have hfr := hA.own.frozenAt (k * n + k)
      have hic : ((k : Int) * (n : Int) + (k : Int)).toNat = k * n + k := by
        have : ((k : Int) * (n : Int) + (k : Int)) = ((k * n + k : Nat) : Int) := by simp
        rw [this, Int.toNat_natCast]
      have hcell2 : wr.cell? ⟨g, ((k : Int) * (n : Int) + (k : Int)).toNat, none⟩ = some (.int .i64 ((backL n k)[k * n + k]'(by rw [backL_length]; exact hix))) := by rw [hic]; exact hcell
      have hfr2 : wr.frozen? ⟨g, ((k : Int) * (n : Int) + (k : Int)).toNat, none⟩ = false := by rw [hic]; exact hfr
      have HIC := Lib.hid hic
      clear hic
      have p0 : (0 : Int) ≤ (k : Int) * (n : Int) := Int.mul_nonneg (by omega) (by omega)
      have p1 : (k : Int) * (n : Int) + (k : Int) < ((n * n : Nat) : Int) := by have : ((k : Int) * (n : Int) + (k : Int)) = ((k * n + k : Nat) : Int) := by simp
                                                                                rw [this]; omega
      have hgn : ((n * n : Nat) : Int) ≤ 256 := by omega
      have p2 : (k : Int) * (n : Int) + (k : Int) < (n : Int) * (n : Int) := by simpa using p1
      have p3 : (n : Int) * (n : Int) ≤ 256 := by simpa using hgn
      have p4 : (k : Int) < (n : Int) := by omega
      have p5 : (k : Int) * (n : Int) + (k : Int) ≤ 1000000 := by omega
      have p6 : (0 : Int) ≤ (k : Int) * (n : Int) + (k : Int) := by omega
      have m0 : ¬ g = w3.heap.size := by omega
      have m1 : ¬ w3.heap.size = g := by omega
      have n0 := World.new_ne wr _ c0
      have n1 := World.new_ne wr _ c1
      have n2 := World.new_ne wr _ c2
      have n3 := World.new_ne wr _ hcell
      have HA := Lib.hid hA
      have hgr : g < wr.heap.size := World.block_lt_of_cell? wr _ hcell
      clear hA hT
      go_wp2_with fail
      go_region_held3 (fun w' => w'.cell? ⟨w3.heap.size, 0, none⟩ = some (.int .i64 n) ∧ w'.cell? ⟨w3.heap.size, 1, none⟩ = some (.int .i64 n) ∧ w'.cell? ⟨w3.heap.size, 2, none⟩ = some (.slice (some ⟨g, 0, none⟩) (n * n) cap)) (go_keep)
        (first | (go_at_call 37; refine (place_any _ _ _ _ _ _ p0 (by omega) p5).mono ?_; rintro e w' ⟨rfl, rfl⟩))
      all_goals
        go_wp2_with fail
        go_roundw
        case rel =>
          refine ⟨k + 1, by omega, by go_num, ⟨?_, ?_⟩⟩
          · exact ((back_step HA.out.own).alloc _).drew
          · exact grown_drew (grown_alloc (grown_set HA.out.grown _ _) _)
        case measure => simp [intOf]; omega
    · obtain rfl : k = n := by omega
      obtain ⟨t0, t1, t2, f0, f1, f2⟩ := (HR4.out.grown hA.grown (by omega)).o3
      have HA := Lib.hid hA
      have HBr : Hid (Below w.heap.size w wr) := Lib.hid (below_of_grown HB4.out hA.grown (by omega))
      clear hA hT
      go_wp2_with fail
      refine bodyPost_ret (v := .tuple #[.agg #[.int .i64 (k : Int), .int .i64 (k : Int), .slice (some ⟨g, 0, none⟩) (k * k) cap], .nilIface]) (by simp [results, Tryd.results24, go_sem]; go_simp) rfl ⟨_, rfl, ⟨_, rfl, ?_⟩, ?_⟩
      · rw [backL_length]
        have o1 := owns_setCell_ne HA.out.own (k := w.heap.size) 0 (.int .i64 (k : Int)) (by omega)
        have o2 := owns_setCell_ne o1 (k := w.heap.size) 1 (.int .i64 (k : Int)) (by omega)
        have o3 := owns_setCell_ne o2 (k := w.heap.size) 2 (.slice (some ⟨g, 0, none⟩) (k * k) cap) (by omega)
        exact owns_base o3 (by omega)
      · iterate 3 (refine Below.setCell ?_ (by simp only []; omega) _)
        exact HBr.out

end Go.Proofs.YtboimdgldjimpaaDoor
