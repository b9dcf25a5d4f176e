/-
  The document's word of what may be cut: CheckCut.
-/
import Derived.Test.YthfljimgpcignaaGreatDoorG20
import Derived.Test.YthfljimgpcignaaGreatDoorG16
import Derived.Test.YthfljimgpcignaaGreatDoorG22
namespace Go.Proofs.YthfljimgpcignaaGreatDoor
open Go.RowKit

/-- What may be cut. -/
structure OkC (l e : List (Int × Int)) : Prop where
  two : 2 ≤ l.length
  most : l.length ≤ 4096
  edges : e.length ≤ 16384
  p : ∀ x, x ∈ l → coordB x.1 = true ∧ coordB x.2 = true
  e : ∀ x, x ∈ e → zPair l.length x
set_option maxHeartbeats 8000000 in
set_option maxRecDepth 100000 in
theorem checkCut_is {w : World} {pv ev : Value} {l es : List (Int × Int)} (hp : Prs w pv l) (he : Prs w ev es) :
    Calls Tryz.prog 6 #[pv, ev] w (WrPost w (OkC l es)) := by
  obtain ⟨pq, pc, rfl⟩ := hp.shape
  obtain ⟨eq0, ec0, rfl⟩ := he.shape
  obtain ⟨W0, hW0⟩ := named (w.alloc (.cells #[.slice none 0 0, .int .i64 0] 28))
  have hb0 : Below w.heap.size w W0 := by rw [hW0]; exact below_alloc1 _
  obtain ⟨qb, hqb⟩ : ∃ qb, w.heap.size = qb := ⟨_, rfl⟩
  have kq : Blk W0 qb #[.slice none 0 0, .int .i64 0] 28 := by rw [hW0]; exact Blk.new _ _ _ _ hqb
  have HP0 := Lib.hid hp
  have HE := Lib.hid he
  have HWB : Hid (WrB w qb W0) := Lib.hid ⟨kq, hb0, by omega⟩
  have e0 := hW0.symm
  clear hp he hb0 kq hW0
  go_enter Tryz.func6, Tryz.ntmps6
  by_cases h0 : l.length < 2
  · have d0 : decide ((l.length : Int) < 2) = true := decide_eq_true (by omega)
    have HNO : Hid (¬ OkC l es) := Lib.hid (fun h => by have := h.two; omega)
    go_wp2_with fail
    clear e0
    refine (atW _ _ _ HWB.out).mono ?_
    rintro e w1 ⟨g, rfl, hb1⟩
    obtain ⟨c0, c1, f0, f1⟩ := hb1.k.o2
    have hql := hb1.k.lt
    have hpt := hb1.put (.slice (some ⟨g, 0, none⟩) 1 1) (.int .i64 1)
    obtain ⟨w9, hw9⟩ := named ((w1.setCell ⟨qb, 0, none⟩ (.slice (some ⟨g, 0, none⟩) 1 1)).setCell ⟨qb, 1, none⟩ (.int .i64 1))
    rw [← hw9] at hpt
    obtain ⟨r0, r1, hbz⟩ := hpt
    have HP : Hid (WrPost w (OkC l es) (.returned (.agg #[.slice (some ⟨g, 0, none⟩) 1 1, .int .i64 1])) w9) := Lib.hid ⟨_, _, _, 1, rfl, by simp only [HNO.out]; decide, hbz⟩
    clear hb1 hbz
    go_wp2_with fail
    rw [← hw9]
    exact bodyPost_ret (v := .agg #[.slice (some ⟨g, 0, none⟩) 1 1, .int .i64 1]) (by simp [results, Tryz.results6, go_sem, r0, r1]) rfl HP.out
  have d0 : decide ((l.length : Int) < 2) = false := decide_eq_false (by omega)
  by_cases h1 : 4096 < l.length
  · have d1 : decide ((4096 : Int) < (l.length : Int)) = true := decide_eq_true (by omega)
    have HNO : Hid (¬ OkC l es) := Lib.hid (fun h => by have := h.most; omega)
    go_wp2_with fail
    clear e0
    refine (atW _ _ _ HWB.out).mono ?_
    rintro e w1 ⟨g, rfl, hb1⟩
    obtain ⟨c0, c1, f0, f1⟩ := hb1.k.o2
    have hql := hb1.k.lt
    have hpt := hb1.put (.slice (some ⟨g, 0, none⟩) 1 1) (.int .i64 4)
    obtain ⟨w9, hw9⟩ := named ((w1.setCell ⟨qb, 0, none⟩ (.slice (some ⟨g, 0, none⟩) 1 1)).setCell ⟨qb, 1, none⟩ (.int .i64 4))
    rw [← hw9] at hpt
    obtain ⟨r0, r1, hbz⟩ := hpt
    have HP : Hid (WrPost w (OkC l es) (.returned (.agg #[.slice (some ⟨g, 0, none⟩) 1 1, .int .i64 4])) w9) := Lib.hid ⟨_, _, _, 4, rfl, by simp only [HNO.out]; decide, hbz⟩
    clear hb1 hbz
    go_wp2_with fail
    rw [← hw9]
    exact bodyPost_ret (v := .agg #[.slice (some ⟨g, 0, none⟩) 1 1, .int .i64 4]) (by simp [results, Tryz.results6, go_sem, r0, r1]) rfl HP.out
  have d1 : decide ((4096 : Int) < (l.length : Int)) = false := decide_eq_false (by omega)
  by_cases h2 : 16384 < es.length
  · have d2 : decide ((16384 : Int) < (es.length : Int)) = true := decide_eq_true (by omega)
    have HNO : Hid (¬ OkC l es) := Lib.hid (fun h => by have := h.edges; omega)
    go_wp2_with fail
    clear e0
    refine (atW _ _ _ HWB.out).mono ?_
    rintro e w1 ⟨g, rfl, hb1⟩
    obtain ⟨c0, c1, f0, f1⟩ := hb1.k.o2
    have hql := hb1.k.lt
    have hpt := hb1.put (.slice (some ⟨g, 0, none⟩) 1 1) (.int .i64 4)
    obtain ⟨w9, hw9⟩ := named ((w1.setCell ⟨qb, 0, none⟩ (.slice (some ⟨g, 0, none⟩) 1 1)).setCell ⟨qb, 1, none⟩ (.int .i64 4))
    rw [← hw9] at hpt
    obtain ⟨r0, r1, hbz⟩ := hpt
    have HP : Hid (WrPost w (OkC l es) (.returned (.agg #[.slice (some ⟨g, 0, none⟩) 1 1, .int .i64 4])) w9) := Lib.hid ⟨_, _, _, 4, rfl, by simp only [HNO.out]; decide, hbz⟩
    clear hb1 hbz
    go_wp2_with fail
    rw [← hw9]
    exact bodyPost_ret (v := .agg #[.slice (some ⟨g, 0, none⟩) 1 1, .int .i64 4]) (by simp [results, Tryz.results6, go_sem, r0, r1]) rfl HP.out
  have d2 : decide ((16384 : Int) < (es.length : Int)) = false := decide_eq_false (by omega)
  have hl4 : l.length ≤ 4096 := by omega
  have he4 : es.length ≤ 16384 := by omega
  go_wp2_with fail
  clear e0 d0 d1 d2
  go_loopw [5] (fun iv wr => ∃ k : Nat, k ≤ l.length ∧ iv = .int .i64 k ∧ Hid (∀ x, x ∈ l.take k → coordB x.1 = true ∧ coordB x.2 = true) ∧ Hid (WrB w qb wr)) (fun iv _ => l.length - (intOf iv).toNat)
  case atStart => exact ⟨0, Nat.zero_le _, rfl, Lib.hid (by simp), HWB⟩
  case round =>
    clear HWB
    obtain ⟨k, hk, rfl, HK, HWB⟩ := hrel
    by_cases hlt : k < l.length
    · have hki : (k : Int) < (l.length : Int) := by omega
      obtain ⟨eb, eo, rfl, c0, c1⟩ := (HP0.out.below HWB.out.b).at hlt
      obtain ⟨⟨a, c⟩, hx⟩ : ∃ x, l[k] = x := ⟨_, rfl⟩
      rw [hx] at c0 c1
      simp only at c0 c1
      have hel := World.block_lt_of_cell? wr _ c0
      have HBAD : Hid (¬ (coordB a = true ∧ coordB c = true) → ¬ OkC l es) := Lib.hid fun hb h => hb (by have := h.p _ (List.getElem_mem hlt); rwa [hx] at this)
      have HNEXT : Hid ((coordB a = true ∧ coordB c = true) → ∀ x, x ∈ l.take (k + 1) → coordB x.1 = true ∧ coordB x.2 = true) := Lib.hid fun hz x hx' => by
        rw [List.take_succ_eq_append_getElem hlt, hx] at hx'
        rcases List.mem_append.1 hx' with h | h
        · exact HK.out x h
        · simp at h
          exact h ▸ hz
      clear hx
      cases ca : coordB a with
      | false =>
        have CA := Lib.hid ca
        have HNO : Hid (¬ OkC l es) := Lib.hid (HBAD.out (fun h => by rw [ca] at h; cases h.1))
        clear ca
        go_wp2_with fail
        refine (rcoord_is _ _ _ CA.out).mono ?_
        rintro e w1 ⟨rfl, rfl⟩
        go_wp2_with fail
        refine (atW _ _ _ HWB.out).mono ?_
        rintro e w1 ⟨g, rfl, hb1⟩
        obtain ⟨c0, c1, f0, f1⟩ := hb1.k.o2
        have hql := hb1.k.lt
        have hpt := hb1.put (.slice (some ⟨g, 0, none⟩) 1 1) (.int .i64 1)
        obtain ⟨w9, hw9⟩ := named ((w1.setCell ⟨qb, 0, none⟩ (.slice (some ⟨g, 0, none⟩) 1 1)).setCell ⟨qb, 1, none⟩ (.int .i64 1))
        rw [← hw9] at hpt
        obtain ⟨r0, r1, hbz⟩ := hpt
        have HP : Hid (WrPost w (OkC l es) (.returned (.agg #[.slice (some ⟨g, 0, none⟩) 1 1, .int .i64 1])) w9) := Lib.hid ⟨_, _, _, 1, rfl, by simp only [HNO.out]; decide, hbz⟩
        clear hb1 hbz
        go_wp2_with fail
        rw [← hw9]
        exact bodyPost_ret (v := .agg #[.slice (some ⟨g, 0, none⟩) 1 1, .int .i64 1]) (by simp [results, Tryz.results6, go_sem, r0, r1]) rfl HP.out
      | true =>
        cases cc : coordB c with
        | false =>
          have CA := Lib.hid ca
          have CC := Lib.hid cc
          have HNO : Hid (¬ OkC l es) := Lib.hid (HBAD.out (fun h => by rw [cc] at h; cases h.2))
          clear ca cc
          go_wp2_with fail
          refine (rcoord_is _ _ _ CA.out).mono ?_
          rintro e w1 ⟨rfl, rfl⟩
          go_wp2_with fail
          refine (rcoord_is _ _ _ CC.out).mono ?_
          rintro e w1 ⟨rfl, rfl⟩
          go_wp2_with fail
          refine (atW _ _ _ HWB.out).mono ?_
          rintro e w1 ⟨g, rfl, hb1⟩
          obtain ⟨c0, c1, f0, f1⟩ := hb1.k.o2
          have hql := hb1.k.lt
          have hpt := hb1.put (.slice (some ⟨g, 0, none⟩) 1 1) (.int .i64 1)
          obtain ⟨w9, hw9⟩ := named ((w1.setCell ⟨qb, 0, none⟩ (.slice (some ⟨g, 0, none⟩) 1 1)).setCell ⟨qb, 1, none⟩ (.int .i64 1))
          rw [← hw9] at hpt
          obtain ⟨r0, r1, hbz⟩ := hpt
          have HP : Hid (WrPost w (OkC l es) (.returned (.agg #[.slice (some ⟨g, 0, none⟩) 1 1, .int .i64 1])) w9) := Lib.hid ⟨_, _, _, 1, rfl, by simp only [HNO.out]; decide, hbz⟩
          clear hb1 hbz
          go_wp2_with fail
          rw [← hw9]
          exact bodyPost_ret (v := .agg #[.slice (some ⟨g, 0, none⟩) 1 1, .int .i64 1]) (by simp [results, Tryz.results6, go_sem, r0, r1]) rfl HP.out
        | true =>
          have HN := Lib.hid (HNEXT.out ⟨ca, cc⟩)
          have CA := Lib.hid ca
          have CC := Lib.hid cc
          clear HBAD HNEXT ca cc
          go_wp2_with fail
          refine (rcoord_is _ _ _ CA.out).mono ?_
          rintro e w1 ⟨rfl, rfl⟩
          go_wp2_with fail
          refine (rcoord_is _ _ _ CC.out).mono ?_
          rintro e w1 ⟨rfl, rfl⟩
          go_wp2_with fail
          go_roundw
          case rel => exact ⟨k + 1, hlt, by go_num, HN, HWB⟩
          case measure => simp [intOf]; omega
    · obtain rfl : k = l.length := by omega
      have HLA : Hid (∀ x, x ∈ l → coordB x.1 = true ∧ coordB x.2 = true) := Lib.hid (by have := HK.out; rwa [List.take_length] at this)
      clear HK
      go_wp2_with fail
      go_loopw [6] (fun iv wr2 => ∃ k : Nat, k ≤ es.length ∧ iv = .int .i64 k ∧ Hid (∀ x, x ∈ es.take k → zPair l.length x) ∧ Hid (WrB w qb wr2)) (fun iv _ => es.length - (intOf iv).toNat)
      case atStart => exact ⟨0, Nat.zero_le _, rfl, Lib.hid (by simp), HWB⟩
      case round =>
        clear HWB
        obtain ⟨k, hk, rfl, HK, HWB⟩ := hrel
        by_cases hlt : k < es.length
        · have hki : (k : Int) < (es.length : Int) := by omega
          obtain ⟨eb, eo, rfl, c0, c1⟩ := (HE.out.below HWB.out.b).at hlt
          obtain ⟨⟨a, c⟩, hx⟩ : ∃ x, es[k] = x := ⟨_, rfl⟩
          rw [hx] at c0 c1
          simp only at c0 c1
          have hel := World.block_lt_of_cell? _ _ c0
          have HBAD : Hid (¬ zPair l.length (a, c) → ¬ OkC l es) := Lib.hid fun hb h => hb (by rw [← hx]; exact h.e _ (List.getElem_mem hlt))
          have HNEXT : Hid (zPair l.length (a, c) → ∀ x, x ∈ es.take (k + 1) → zPair l.length x) := Lib.hid fun hz x hx' => by
            rw [List.take_succ_eq_append_getElem hlt, hx] at hx'
            rcases List.mem_append.1 hx' with h | h
            · exact HK.out x h
            · simp at h
              exact h ▸ hz
          clear hx
          by_cases a0 : a < 0
          · have HNO : Hid (¬ OkC l es) := Lib.hid (HBAD.out fun h => by have := h.1.1; simp only at this; omega)
            go_wp2_with fail
            refine (atW _ _ _ HWB.out).mono ?_
            rintro e w1 ⟨g, rfl, hb1⟩
            obtain ⟨c0, c1, f0, f1⟩ := hb1.k.o2
            have hql := hb1.k.lt
            have hpt := hb1.put (.slice (some ⟨g, 0, none⟩) 1 1) (.int .i64 5)
            obtain ⟨w9, hw9⟩ := named ((w1.setCell ⟨qb, 0, none⟩ (.slice (some ⟨g, 0, none⟩) 1 1)).setCell ⟨qb, 1, none⟩ (.int .i64 5))
            rw [← hw9] at hpt
            obtain ⟨r0, r1, hbz⟩ := hpt
            have HP : Hid (WrPost w (OkC l es) (.returned (.agg #[.slice (some ⟨g, 0, none⟩) 1 1, .int .i64 5])) w9) := Lib.hid ⟨_, _, _, 5, rfl, by simp only [HNO.out]; decide, hbz⟩
            clear hb1 hbz
            go_wp2_with fail
            rw [← hw9]
            exact bodyPost_ret (v := .agg #[.slice (some ⟨g, 0, none⟩) 1 1, .int .i64 5]) (by simp [results, Tryz.results6, go_sem, r0, r1]) rfl HP.out
          have d0 : decide (a < 0) = false := by simpa using a0
          by_cases a1 : (l.length : Int) ≤ a
          · have HNO : Hid (¬ OkC l es) := Lib.hid (HBAD.out fun h => by have := h.1.2; simp only at this; omega)
            go_wp2_with fail
            refine (atW _ _ _ HWB.out).mono ?_
            rintro e w1 ⟨g, rfl, hb1⟩
            obtain ⟨c0, c1, f0, f1⟩ := hb1.k.o2
            have hql := hb1.k.lt
            have hpt := hb1.put (.slice (some ⟨g, 0, none⟩) 1 1) (.int .i64 5)
            obtain ⟨w9, hw9⟩ := named ((w1.setCell ⟨qb, 0, none⟩ (.slice (some ⟨g, 0, none⟩) 1 1)).setCell ⟨qb, 1, none⟩ (.int .i64 5))
            rw [← hw9] at hpt
            obtain ⟨r0, r1, hbz⟩ := hpt
            have HP : Hid (WrPost w (OkC l es) (.returned (.agg #[.slice (some ⟨g, 0, none⟩) 1 1, .int .i64 5])) w9) := Lib.hid ⟨_, _, _, 5, rfl, by simp only [HNO.out]; decide, hbz⟩
            clear hb1 hbz
            go_wp2_with fail
            rw [← hw9]
            exact bodyPost_ret (v := .agg #[.slice (some ⟨g, 0, none⟩) 1 1, .int .i64 5]) (by simp [results, Tryz.results6, go_sem, r0, r1]) rfl HP.out
          have d1 : decide ((l.length : Int) ≤ a) = false := by simpa using a1
          by_cases a2 : c < 0
          · have HNO : Hid (¬ OkC l es) := Lib.hid (HBAD.out fun h => by have := h.2.1; simp only at this; omega)
            go_wp2_with fail
            refine (atW _ _ _ HWB.out).mono ?_
            rintro e w1 ⟨g, rfl, hb1⟩
            obtain ⟨c0, c1, f0, f1⟩ := hb1.k.o2
            have hql := hb1.k.lt
            have hpt := hb1.put (.slice (some ⟨g, 0, none⟩) 1 1) (.int .i64 5)
            obtain ⟨w9, hw9⟩ := named ((w1.setCell ⟨qb, 0, none⟩ (.slice (some ⟨g, 0, none⟩) 1 1)).setCell ⟨qb, 1, none⟩ (.int .i64 5))
            rw [← hw9] at hpt
            obtain ⟨r0, r1, hbz⟩ := hpt
            have HP : Hid (WrPost w (OkC l es) (.returned (.agg #[.slice (some ⟨g, 0, none⟩) 1 1, .int .i64 5])) w9) := Lib.hid ⟨_, _, _, 5, rfl, by simp only [HNO.out]; decide, hbz⟩
            clear hb1 hbz
            go_wp2_with fail
            rw [← hw9]
            exact bodyPost_ret (v := .agg #[.slice (some ⟨g, 0, none⟩) 1 1, .int .i64 5]) (by simp [results, Tryz.results6, go_sem, r0, r1]) rfl HP.out
          have d2 : decide (c < 0) = false := by simpa using a2
          by_cases a3 : (l.length : Int) ≤ c
          · have HNO : Hid (¬ OkC l es) := Lib.hid (HBAD.out fun h => by have := h.2.2; simp only at this; omega)
            go_wp2_with fail
            refine (atW _ _ _ HWB.out).mono ?_
            rintro e w1 ⟨g, rfl, hb1⟩
            obtain ⟨c0, c1, f0, f1⟩ := hb1.k.o2
            have hql := hb1.k.lt
            have hpt := hb1.put (.slice (some ⟨g, 0, none⟩) 1 1) (.int .i64 5)
            obtain ⟨w9, hw9⟩ := named ((w1.setCell ⟨qb, 0, none⟩ (.slice (some ⟨g, 0, none⟩) 1 1)).setCell ⟨qb, 1, none⟩ (.int .i64 5))
            rw [← hw9] at hpt
            obtain ⟨r0, r1, hbz⟩ := hpt
            have HP : Hid (WrPost w (OkC l es) (.returned (.agg #[.slice (some ⟨g, 0, none⟩) 1 1, .int .i64 5])) w9) := Lib.hid ⟨_, _, _, 5, rfl, by simp only [HNO.out]; decide, hbz⟩
            clear hb1 hbz
            go_wp2_with fail
            rw [← hw9]
            exact bodyPost_ret (v := .agg #[.slice (some ⟨g, 0, none⟩) 1 1, .int .i64 5]) (by simp [results, Tryz.results6, go_sem, r0, r1]) rfl HP.out
          have d3 : decide ((l.length : Int) ≤ c) = false := by simpa using a3
          have HN := Lib.hid (HNEXT.out ⟨⟨by simp only; omega, by simp only; omega⟩, by simp only; omega, by simp only; omega⟩)
          clear HBAD HNEXT a0 a1 a2 a3
          go_wp2_with fail
          go_roundw
          case rel => exact ⟨k + 1, hlt, by go_num, HN, HWB⟩
          case measure => simp [intOf]; omega
        · obtain rfl : k = es.length := by omega
          have HQ : Hid (OkC l es) := Lib.hid ⟨by omega, by omega, by omega, HLA.out, by have := HK.out; rwa [List.take_length] at this⟩
          obtain ⟨c0, c1, f0, f1⟩ := HWB.out.k.o2
          have hql := HWB.out.k.lt
          have hpt := HWB.out.put (.slice none 0 0) (.int .i64 0)
          obtain ⟨r0, r1, hbz⟩ := hpt
          have HP := Lib.hid (show WrPost w (OkC l es) (.returned (.agg #[.slice none 0 0, .int .i64 0])) _ from ⟨_, _, _, 0, rfl, ⟨fun _ => HQ.out, fun _ => rfl⟩, hbz⟩)
          have R0 := Lib.hid r0
          have R1 := Lib.hid r1
          clear hbz r0 r1
          go_wp2_with fail
          have r0 := R0.out
          have r1 := R1.out
          exact bodyPost_ret (v := .agg #[.slice none 0 0, .int .i64 0]) (by simp [results, Tryz.results6, go_sem, r0, r1]) rfl HP.out
end Go.Proofs.YthfljimgpcignaaGreatDoor

/-
  The twelve splits, and the best of them: what is asked of them, and how they lie in memory.
-/
namespace Go.Proofs.YthfljimgpcignaaGreatDoor
open Go.RowKit

structure Spl where
  side : List Bool
  cross : Int
  dir : Int
  kind : Int
/-- The three of one way. -/
def WayQ (l : List (Int × Int)) (E : Edg) (d : Nat) (a b c : Spl) : Prop :=
  ∃ o V near far, OrdL l (d : Int) o ∧ MaxQ l.length E (setB (markL l.length (srcL o))) (setB (markL l.length (dstL o))) V (setB near) (setB far) ∧ near.length = l.length ∧ far.length = l.length ∧
    a = ⟨near, V, d, 0⟩ ∧ b = ⟨far, V, d, 1⟩ ∧ c = ⟨markL l.length (hlfL o), crossS (setB (markL l.length (hlfL o))) E, d, 2⟩
/-- All of them. -/
structure SplitsQ (l : List (Int × Int)) (E : Edg) (L : List Spl) : Prop where
  len : L.length = 12
  way : ∀ d, d < 4 → ∃ a b c, L[3 * d]? = some a ∧ L[3 * d + 1]? = some b ∧ L[3 * d + 2]? = some c ∧ WayQ l E d a b c
/-- How far from half. -/
def unevL (S : List Bool) : Int := if 2 * (cntT S : Int) - S.length < 0 then 0 - (2 * (cntT S : Int) - S.length) else 2 * (cntT S : Int) - S.length
/-- The best of a row of splits is at a place. -/
structure BestAt (L : List Spl) (n : Nat) (s : Spl) : Prop where
  at' : L[n]? = some s
  best : ∀ i x, L[i]? = some x → s.cross < x.cross ∨ s.cross = x.cross ∧ (unevL s.side < unevL x.side ∨ unevL s.side = unevL x.side ∧ n ≤ i)
section
variable {l m : List (Int × Int)} {E F : Edg} {L M : List Spl} {a b c a' b' c' s : Spl} {d n : Nat}
theorem WayQ.same (h : WayQ l E d a b c) (k : WayQ m F d a' b' c') (hl : l.length = m.length) (ho : ∀ o p, OrdL l (d : Int) o → OrdL m (d : Int) p → o = p) (hc : ∀ S, crossS S F = crossS S E) : a = a' ∧ b = b' ∧ c = c' := by
  obtain ⟨o, V, near, far, h1, h2, h3, h4, rfl, rfl, rfl⟩ := h
  obtain ⟨p, W, near', far', k1, k2, k3, k4, rfl, rfl, rfl⟩ := k
  obtain rfl := ho o p h1 k1
  rw [← hl] at k2 k3 k4
  obtain ⟨rfl, rfl, rfl⟩ := same_sides h2 k2 hc h3 h4 k3 k4
  refine ⟨rfl, rfl, ?_⟩
  rw [← hl, hc]
theorem three (i : Nat) (hi : i < 12) : ∃ d, d < 4 ∧ (i = 3 * d ∨ i = 3 * d + 1 ∨ i = 3 * d + 2) := ⟨i / 3, by omega, by omega⟩
/-- Splits of points in the same rows, over edges that cross alike, are the same. -/
theorem SplitsQ.same (h : SplitsQ l E L) (k : SplitsQ m F M) (hl : l.length = m.length) (ho : ∀ d o p, d < 4 → OrdL l ((d : Nat) : Int) o → OrdL m ((d : Nat) : Int) p → o = p) (hc : ∀ S, crossS S F = crossS S E) : L = M := by
  refine List.ext_getElem? fun i => ?_
  by_cases hi : i < 12
  · obtain ⟨d, hd, e⟩ := three i hi
    obtain ⟨a, b, c, h1, h2, h3, h4⟩ := h.way d hd
    obtain ⟨a', b', c', k1, k2, k3, k4⟩ := k.way d hd
    obtain ⟨e1, e2, e3⟩ := h4.same k4 hl (fun o p => ho d o p hd) hc
    rcases e with rfl | rfl | rfl
    · rw [h1, k1, e1]
    · rw [h2, k2, e2]
    · rw [h3, k3, e3]
  · rw [List.getElem?_eq_none (by rw [h.len]; omega), List.getElem?_eq_none (by rw [k.len]; omega)]
theorem SplitsQ.uniq (h : SplitsQ l E L) (k : SplitsQ l E M) : L = M := h.same k rfl (fun _ _ _ _ h1 h2 => h1.uniq h2 rfl fun _ _ _ _ h => h) fun _ => rfl
theorem BestAt.uniq {r : Spl} {p : Nat} (h : BestAt L n s) (k : BestAt L p r) : n = p ∧ s = r := by
  have h1 := h.best p r k.at'
  have k1 := k.best n s h.at'
  have e : n = p := by
    rcases h1 with h1 | ⟨h1, h2 | ⟨h2, h3⟩⟩ <;> rcases k1 with k1 | ⟨k1, k2 | ⟨k2, k3⟩⟩ <;> omega
  subst e
  exact ⟨rfl, Option.some.inj (h.at'.symm.trans k.at')⟩
/-- What is told of each of them. -/
structure OneQ (l : List (Int × Int)) (E : Edg) (i : Nat) (s : Spl) : Prop where
  len : s.side.length = l.length
  fair : 2 ≤ l.length → fairL s.side = true
  cross : s.cross = crossS (setB s.side) E
  dir : s.dir = ((i / 3 : Nat) : Int)
  kind : s.kind = ((i % 3 : Nat) : Int)
theorem SplitsQ.kind (h : SplitsQ l E L) {i : Nat} (hi : L[i]? = some s) : s.kind = ((i % 3 : Nat) : Int) := by
  have hlt : i < 12 := by have := (List.getElem?_eq_some_iff.1 hi).1; rwa [h.len] at this
  obtain ⟨d, hd, e⟩ := three i hlt
  obtain ⟨a, b, c, h1, h2, h3, o, V, near, far, ho, hq, hn, hf, rfl, rfl, rfl⟩ := h.way d hd
  rcases e with rfl | rfl | rfl
  · rw [h1] at hi
    obtain rfl := Option.some.inj hi
    show (0 : Int) = _
    omega
  · rw [h2] at hi
    obtain rfl := Option.some.inj hi
    show (1 : Int) = _
    omega
  · rw [h3] at hi
    obtain rfl := Option.some.inj hi
    show (2 : Int) = _
    omega
theorem SplitsQ.one (h : SplitsQ l E L) {i : Nat} (hi : L[i]? = some s) : OneQ l E i s := by
  have hlt : i < 12 := by have := (List.getElem?_eq_some_iff.1 hi).1; rwa [h.len] at this
  obtain ⟨d, hd, e⟩ := three i hlt
  obtain ⟨a, b, c, h1, h2, h3, o, V, near, far, ho, hq, hn, hf, rfl, rfl, rfl⟩ := h.way d hd
  rcases e with rfl | rfl | rfl
  · obtain rfl := Option.some.inj (hi.symm.trans h1)
    exact ⟨hn, fun h2 => near_fair ho h2 hq hn, hq.nearV.symm, by show (d : Int) = _; omega, by show (0 : Int) = _; omega⟩
  · obtain rfl := Option.some.inj (hi.symm.trans h2)
    exact ⟨hf, fun h2 => far_fair ho h2 hq hf, hq.farV.symm, by show (d : Int) = _; omega, by show (1 : Int) = _; omega⟩
  · obtain rfl := Option.some.inj (hi.symm.trans h3)
    exact ⟨markL_len, fun h2 => half_fair ho h2, rfl, by show (d : Int) = _; omega, by show (2 : Int) = _; omega⟩
/-- What is fair parts the points. -/
theorem fair_parts {S : List Bool} (h : fairL S = true) : (∃ v, v < S.length ∧ setB S v = true) ∧ ∃ v, v < S.length ∧ setB S v = false := by
  unfold fairL at h
  simp only [Bool.and_eq_true, decide_eq_true_eq] at h
  constructor
  · refine Classical.byContradiction fun hn => ?_
    have : cntT S = 0 := List.countP_eq_zero.2 fun x hx => by
      obtain ⟨i, hi, rfl⟩ := List.getElem_of_mem hx
      intro hb
      exact hn ⟨i, hi, by rw [setB_at hi]; exact hb⟩
    omega
  · refine Classical.byContradiction fun hn => ?_
    have : cntT S = S.length := List.countP_eq_length.2 fun x hx => by
      obtain ⟨i, hi, rfl⟩ := List.getElem_of_mem hx
      cases hb : S[i] with
      | true => rfl
      | false => exact absurd ⟨i, hi, by rw [setB_at hi]; exact hb⟩ hn
    omega
end
/-! ### in memory -/
/-- A row of splits. -/
def Spls (w : World) (v : Value) (L : List Spl) : Prop := ∃ b o c, v = .slice (some ⟨b, o, none⟩) L.length c ∧ ∀ i s, L[i]? = some s → ∃ sv, w.cell? ⟨b, o + i * 4, none⟩ = some sv ∧ Bools w sv s.side ∧ w.cell? ⟨b, o + i * 4 + 1, none⟩ = some (.int .i64 s.cross) ∧ w.cell? ⟨b, o + i * 4 + 2, none⟩ = some (.int .i64 s.dir) ∧ w.cell? ⟨b, o + i * 4 + 3, none⟩ = some (.int .i64 s.kind)
theorem Spls.below {w w' : World} {v : Value} {L : List Spl} (h : Spls w v L) (hb : Below w.heap.size w w') : Spls w' v L := by
  obtain ⟨b, o, c, rfl, h1⟩ := h
  refine ⟨b, o, c, rfl, fun i s hs => ?_⟩
  obtain ⟨sv, c0, h2, c1, c2, c3⟩ := h1 i s hs
  exact ⟨sv, keep hb c0, h2.below hb, keep hb c1, keep hb c2, keep hb c3⟩
/-- What All answers of what may be cut. -/
def AllPost (w : World) (l : List (Int × Int)) (E : Edg) (e : Ending) (w' : World) : Prop := ∃ v L, e = .returned (.tuple #[v, .nilIface]) ∧ Spls w' v L ∧ SplitsQ l E L ∧ Below w.heap.size w w'
/-- .. and Best. -/
def BestPost (w : World) (l : List (Int × Int)) (E : Edg) (e : Ending) (w' : World) : Prop := ∃ sv s n L, e = .returned (.tuple #[.agg #[sv, .int .i64 s.cross, .int .i64 s.dir, .int .i64 s.kind], .nilIface]) ∧ Bools w' sv s.side ∧ SplitsQ l E L ∧ BestAt L n s ∧ Below w.heap.size w w'
end Go.Proofs.YthfljimgpcignaaGreatDoor
