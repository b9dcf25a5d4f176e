/-
  Tables without a way back: the document's own.
-/
import Derived.Test.YtboimdgldjimpaaDoorTurnE
namespace Go.Proofs.YtboimdgldjimpaaDoor
open Go.RowKit

theorem grown_set {W0 wr : World} {g : Nat} (hg : W0.grownBy wr (some g)) (o : Nat) (v : Value) : W0.grownBy (wr.setCell ⟨g, o, none⟩ v) (some g) :=
  ⟨hg.os, hg.tape, hg.output, by simpa using hg.size, fun k hk hne => (heap_setCell_other wr ⟨g, o, none⟩ k v (fun e => hne (by rw [e]))).trans (hg.block k hk hne)⟩
theorem grown_alloc {W0 wr : World} {r : Option Nat} (hg : W0.grownBy wr r) (o : Obj) : W0.grownBy (wr.alloc o) r :=
  ⟨hg.os, hg.tape, hg.output, Nat.le_trans hg.size (by simp), fun k hk hne => (Below.heap_alloc wr o k (Nat.lt_of_lt_of_le hk hg.size)).trans (hg.block k hk hne)⟩
theorem grown_drew {W0 wr : World} {r : Option Nat} (hg : W0.grownBy wr r) : W0.grownBy wr.drew r := ⟨hg.os, hg.tape, hg.output, hg.size, hg.block⟩
theorem grown_refl (w : World) (r : Option Nat) : w.grownBy w r := ⟨rfl, rfl, rfl, Nat.le_refl _, fun _ _ _ => rfl⟩
theorem Blk.grown {w w' : World} {b : Nat} {cs : Array Value} {t : TypeId} {g : Nat} (h : Blk w b cs t) (hg : w.grownBy w' (some g)) (hne : b ≠ g) : Blk w' b cs t := (hg.block b h.lt (by simpa using hne)).trans h
theorem below_of_grown {w W0 wr : World} {g : Nat} (hb : Below w.heap.size w W0) (hg : W0.grownBy wr (some g)) (h : w.heap.size ≤ g) : Below w.heap.size w wr :=
  ⟨hg.os.trans hb.os, hg.tape.trans hb.tape, hg.output.trans hb.output, Nat.le_trans hb.size hg.size, fun k hk => (hg.block k (Nat.lt_of_lt_of_le hk hb.size) (by simp; omega)).trans (hb.block k hk)⟩
theorem back_step {wr : World} {base n k g cap : Nat} (ho : wr.ownsRow base 2 1 (.slice (some ⟨g, 0, none⟩) (n * n) cap) (n * n) ((backL n k).map (Value.int .i64))) :
    (wr.setCell ⟨g, k * n + k, none⟩ (.int .i64 1152921504606846976)).ownsRow base 2 1 (.slice (some ⟨g, 0, none⟩) (n * n) cap) (n * n) ((backL n (k + 1)).map (Value.int .i64)) := by
  have h := (ho.stored (k * n + k) (.int .i64 1152921504606846976)).1
  rw [← List.map_set] at h
  exact h

/-- Ahead of round k. -/
structure BackAt (W0 : World) (base n : Nat) (g cap : Nat) (k : Nat) (wr : World) : Prop where
  own : wr.ownsRow base 2 1 (.slice (some ⟨g, 0, none⟩) (n * n) cap) (n * n) ((backL n k).map (Value.int .i64))
  grown : W0.grownBy wr (some g)

set_option maxHeartbeats 2000000 in
set_option maxRecDepth 100000 in
theorem rback_pos (n : Nat) (w : World) (h0 : 0 < n) (h1 : n ≤ 16) :
    Calls Tryd.prog 25 #[.int .i64 (n : Int)] w (RFreePost n n (backL n n) w) := by
  have hnn : ((n : Int) * (n : Int)).toNat = n * n := by have : ((n : Int) * (n : Int)) = ((n * n : Nat) : Int) := by simp
                                                         rw [this, Int.toNat_natCast]
  have hle : n * n ≤ 256 := Nat.mul_le_mul h1 h1
  go_enter Tryd.func25, Tryd.ntmps25
  go_wp2_with fail
  refine (rfree_ok n n _ (by omega) (by omega)).mono ?_
  rintro e w3 ⟨tv, wv, rfl, ⟨u, rfl, hO⟩, hW, hb⟩
  rw [hnn] at hO
  have hO' : w3.ownsRow (w.heap.size + 1 + 1) 2 1 u (n * n) ((backL n 0).map (Value.int .i64)) := by simpa [backL] using hO
  obtain ⟨g, cap, cur, rfl, hg0, hg1, hg2, hg3⟩ : ∃ g cap cur, u = .slice (some ⟨g, 0, none⟩) (n * n) cap ∧ w.heap.size + 1 + 1 ≤ g ∧ w3.heap[g]? = some (.cells cur 2 (0, 0)) ∧ n * n ≤ cap ∧ cap ≤ maxLen := by
    rcases hO'.2 with ⟨_, hz⟩ | ⟨g, cap, cur, e, h1, h2, h3, h4, _, _⟩
    · exact absurd hz (by have := Nat.mul_pos h0 h0; omega)
    · exact ⟨g, cap, cur, e, h1, h2, h3, h4⟩
  obtain ⟨wq, wc, rfl⟩ := hW.none
  have hgl : g < w3.heap.size := (Array.getElem?_eq_some_iff.1 hg1).1
  have z3 : w.heap.size + 1 + 1 ≤ w3.heap.size := by have := hb.size; simpa using this
  have br := (Blk.new w #[.int .i64 0, .int .i64 0, .slice none 0 0] 24 w.heap.size rfl).old (.cells #[.slice none 0 0, .int .i64 0] 28) |>.keep hb
  have be := (Blk.new (w.alloc (.cells #[.int .i64 0, .int .i64 0, .slice none 0 0] 24)) #[.slice none 0 0, .int .i64 0] 28 (w.heap.size + 1) (by simp)) |>.keep hb
  have HB3 : Hid (Below w.heap.size w w3) := Lib.hid ((below_alloc2 _ _).trans (hb.mono (by simp; omega)))
  have HW := Lib.hid hW
  have HO := Lib.hid hO'
  have HR := Lib.hid br
  have HE := Lib.hid be
  clear hO hO' hb hW br be hg1
  go_wp2_with fail
  obtain ⟨w4, hw4⟩ := named ((w3.alloc (.cells #[.int .i64 (n : Int), .int .i64 (n : Int), .slice (some ⟨g, 0, none⟩) (n * n) cap] 24)).alloc (.cells #[.slice wq 0 wc, .int .i64 0] 28))
  rw [← hw4]
  have HT : Hid (Blk w4 w3.heap.size #[.int .i64 (n : Int), .int .i64 (n : Int), .slice (some ⟨g, 0, none⟩) (n * n) cap] 24) := by rw [hw4]; exact Lib.hid ((Blk.new _ _ _ _ rfl).old _)
  have HX : Hid (Blk w4 (w3.heap.size + 1) #[.slice wq 0 wc, .int .i64 0] 28) := by rw [hw4]; exact Lib.hid (Blk.new _ _ _ _ (by simp))
  have hb4 : Below w3.heap.size w3 w4 := by rw [hw4]; exact below_alloc2 _ _
  have z4 : w4.heap.size = w3.heap.size + 1 + 1 := by rw [hw4]; simp
  have HR4 := Lib.hid (HR.out.keep hb4)
  have HE4 := Lib.hid (HE.out.keep hb4)
  have HO4 := Lib.hid (owns_below HO.out hb4)
  have HB4 : Hid (Below w.heap.size w w4) := Lib.hid (HB3.out.trans (hb4.mono (by omega)))
  clear hw4 hb4 HR HE HO HB3
  go_loopw [6] (fun i wr => ∃ k : Nat, k ≤ n ∧ i = .int .i64 k ∧ BackAt w4 (w.heap.size + 1 + 1) n g cap k wr) (fun i _ => n - (intOf i).toNat)
  case atStart => exact ⟨0, Nat.zero_le _, rfl, ⟨HO4.out, grown_refl _ _⟩⟩
  case round =>
    obtain ⟨k, hk, rfl, hA⟩ := hrel
    obtain ⟨c0, c1, c2, -, -, -⟩ := (HT.out.grown hA.grown (by omega)).o3
    by_cases hlt : k < n
    · have hix := backL_lt n k hlt
      have hcell : wr.cell? ⟨g, k * n + k, none⟩ = some (.int .i64 ((backL n k)[k * n + k]'(by rw [backL_length]; exact hix))) := by
        rw [hA.own.cellAt _ (by omega)]; simp [backL_length, hix]
      have hfr := hA.own.frozenAt (k * n + k)
      have p0 : (0 : Int) ≤ (k : Int) * (n : Int) := Int.mul_nonneg (by omega) (by omega)
      have p1 : (k : Int) * (n : Int) + (k : Int) < ((n * n : Nat) : Int) := by have : ((k : Int) * (n : Int) + (k : Int)) = ((k * n + k : Nat) : Int) := by simp
                                                                                rw [this]; omega
      have hgn : ((n * n : Nat) : Int) ≤ 256 := by omega
      have p2 : (k : Int) * (n : Int) + (k : Int) < (n : Int) * (n : Int) := by simpa using p1
      have p3 : (n : Int) * (n : Int) ≤ 256 := by simpa using hgn
      have p4 : (k : Int) < (n : Int) := by omega
      have HA := Lib.hid hA
      clear hA
      go_wp2_with fail
      go_roundw
      case rel => exact ⟨k + 1, by omega, by go_num, ⟨back_step HA.out.own, grown_set HA.out.grown _ _⟩⟩
      case measure => simp [intOf]; omega
    · obtain rfl : k = n := by omega
      obtain ⟨d0, d1, -, -⟩ := (HX.out.grown hA.grown (by omega)).o2
      obtain ⟨t0, t1, t2, f0, f1, f2⟩ := (HR4.out.grown hA.grown (by omega)).o3
      obtain ⟨s0, s1, f3, f4⟩ := (HE4.out.grown hA.grown (by omega)).o2
      have HA := Lib.hid hA
      have HBr : Hid (Below w.heap.size w wr) := Lib.hid (below_of_grown HB4.out hA.grown (by omega))
      clear hA
      go_wp2
      go_region
      all_goals
        go_wp2_with fail
        refine bodyPost_ret (v := .tuple #[.agg #[.int .i64 (k : Int), .int .i64 (k : Int), .slice (some ⟨g, 0, none⟩) (k * k) cap], .agg #[.slice wq 0 wc, .int .i64 0]]) (by simp [results, Tryd.results25, go_sem]; go_simp) rfl ⟨_, _, rfl, ⟨_, rfl, ?_⟩, HW.out.any, ?_⟩
        · rw [backL_length]
          have o1 := owns_setCell_ne HA.out.own (k := w.heap.size) 0 (.int .i64 (k : Int)) (by omega)
          have o2 := owns_setCell_ne o1 (k := w.heap.size) 1 (.int .i64 (k : Int)) (by omega)
          have o3 := owns_setCell_ne o2 (k := w.heap.size) 2 (.slice (some ⟨g, 0, none⟩) (k * k) cap) (by omega)
          have o4 := owns_setCell_ne o3 (k := w.heap.size + 1) 0 (.slice wq 0 wc) (by omega)
          have o5 := owns_setCell_ne o4 (k := w.heap.size + 1) 1 (.int .i64 0) (by omega)
          exact owns_base o5.drew (by omega)
        · refine Below.drew ?_
          iterate 5 (refine Below.setCell ?_ (by simp only []; omega) _)
          exact HBr.out

end Go.Proofs.YtboimdgldjimpaaDoor
