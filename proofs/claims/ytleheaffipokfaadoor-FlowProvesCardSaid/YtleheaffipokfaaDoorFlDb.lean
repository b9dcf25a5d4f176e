/-
  The document's word of what may be handed in: CheckFlow.
-/
import Derived.Test.YtleheaffipokfaaDoorFlDa
import Derived.Test.YtleheaffipokfaaDoorAtW
namespace Go.Proofs.YtleheaffipokfaaDoor
open Go.RowKit

/-- What CheckFlow answers: 0 just where Q holds. -/
def WrPost (w : World) (Q : Prop) (e : Ending) (w' : World) : Prop := ∃ q n c m, e = .returned (.agg #[.slice q n c, .int .i64 m]) ∧ (m = 0 ↔ Q) ∧ Below w.heap.size w w'
/-- The box that the answer is put to. -/
structure WrB (w : World) (qb : Nat) (wr : World) : Prop where
  k : Blk wr qb #[.slice none 0 0, .int .i64 0] 42
  b : Below w.heap.size w wr
  lo : w.heap.size ≤ qb
theorem WrB.old {w wr wr' : World} {qb : Nat} (h : WrB w qb wr) (hb : Below wr.heap.size wr wr') : WrB w qb wr' := ⟨h.k.keep hb, bOn6 h.b hb, h.lo⟩
theorem atW {w : World} {qb : Nat} (p : ByteArray) (n m : Int) {wr : World} (h : WrB w qb wr) :
    Calls Tryd.prog 12 #[.string p, .int .i64 n, .int .i64 m] wr fun e w' => ∃ g, e = .returned (.agg #[.slice (some ⟨g, 0, none⟩) 1 1, .int .i64 m]) ∧ WrB w qb w' :=
  (at_any p n m wr).mono fun e w' h' => ⟨_, h'.1, h.old (by rw [h'.2]; exact ((Below.refl _ _).alloc (Nat.le_refl _) _).alloc (by simp) _)⟩
theorem WrB.put {w : World} {qb : Nat} {wr : World} (h : WrB w qb wr) (x y : Value) : ((wr.setCell ⟨qb, 0, none⟩ x).setCell ⟨qb, 1, none⟩ y).cell? ⟨qb, 0, none⟩ = some x ∧ ((wr.setCell ⟨qb, 0, none⟩ x).setCell ⟨qb, 1, none⟩ y).cell? ⟨qb, 1, none⟩ = some y ∧ Below w.heap.size w ((wr.setCell ⟨qb, 0, none⟩ x).setCell ⟨qb, 1, none⟩ y) := by
  have hk := (h.k.set 0 x).set 1 y
  have hk' : Blk ((wr.setCell ⟨qb, 0, none⟩ x).setCell ⟨qb, 1, none⟩ y) qb #[x, y] 42 := by simpa using hk
  exact ⟨hk'.o2.1, hk'.o2.2.1, (h.b.setCell h.lo _).setCell h.lo _⟩

section
variable {w : World} {n : Int} {l : List (Int × Int)} {src dst : List Int} {ev sv dv : Value}
set_option maxHeartbeats 8000000 in
set_option maxRecDepth 100000 in
theorem checkFlow_is (he : Prs w ev l) (hs : I64s w sv src) (hd : I64s w dv dst) (hn : n ≤ 4096) (hl : l.length ≤ 16384) (hsl : src.length ≤ 1000000) (hdl : dst.length ≤ 1000000) :
    Calls Tryd.prog 20 #[.int .i64 n, ev, sv, dv] w (WrPost w (OkA n l src dst ∧ ¬ Twice src dst)) := by
  obtain ⟨eq0, ec0, rfl⟩ := he.shape
  obtain ⟨sq, sc, rfl⟩ := hs.shape
  obtain ⟨dq, dc, rfl⟩ := hd.shape
  obtain ⟨W0, hW0⟩ := named (w.alloc (.cells #[.slice none 0 0, .int .i64 0] 42))
  have hb0 : Below w.heap.size w W0 := by rw [hW0]; exact below_alloc1 _
  obtain ⟨qb, hqb⟩ : ∃ qb, w.heap.size = qb := ⟨_, rfl⟩
  have kq : Blk W0 qb #[.slice none 0 0, .int .i64 0] 42 := by rw [hW0]; exact Blk.new _ _ _ _ hqb
  have HE := Lib.hid he
  have HS := Lib.hid hs
  have HD := Lib.hid hd
  have HWB : Hid (WrB w qb W0) := Lib.hid ⟨kq, hb0, by omega⟩
  have e0 := hW0.symm
  clear he hs hd hb0 kq hW0
  go_enter Tryd.func20, Tryd.ntmps20
  by_cases h0 : n < 0
  · have HNO : Hid (¬ (OkA n l src dst ∧ ¬ Twice src dst)) := Lib.hid (fun h => by have := h.1.n0; omega)
    go_wp2_with fail
    clear e0
    refine (atW _ _ _ HWB.out).mono ?_
    rintro e w1 ⟨g, rfl, hb1⟩
    obtain ⟨c0, c1, f0, f1⟩ := hb1.k.o2
    have hql := hb1.k.lt
    have hpt := hb1.put (.slice (some ⟨g, 0, none⟩) 1 1) (.int .i64 1)
    obtain ⟨w9, hw9⟩ := named ((w1.setCell ⟨qb, 0, none⟩ (.slice (some ⟨g, 0, none⟩) 1 1)).setCell ⟨qb, 1, none⟩ (.int .i64 1))
    rw [← hw9] at hpt
    obtain ⟨r0, r1, hbz⟩ := hpt
    have HP : Hid (WrPost w (OkA n l src dst ∧ ¬ Twice src dst) (.returned (.agg #[.slice (some ⟨g, 0, none⟩) 1 1, .int .i64 1])) w9) := Lib.hid ⟨_, _, _, 1, rfl, by simp only [HNO.out]; decide, hbz⟩
    clear hb1 hbz
    go_wp2_with fail
    rw [← hw9]
    exact bodyPost_ret (v := .agg #[.slice (some ⟨g, 0, none⟩) 1 1, .int .i64 1]) (by simp [results, Tryd.results20, go_sem, r0, r1]) rfl HP.out
  have hd0 : decide (n < 0) = false := by simpa using h0
  have hd1 : decide (4096 < n) = false := by simpa using hn
  have hd2 : decide ((16384 : Int) < (l.length : Int)) = false := by simp; omega
  go_wp2_with fail
  clear e0 hd0 hd1 hd2
  go_loopw [9] (fun iv wr => ∃ k : Nat, k ≤ l.length ∧ iv = .int .i64 k ∧ Hid (∀ x, x ∈ l.take k → zPair n x) ∧ Hid (WrB w qb wr)) (fun iv _ => l.length - (intOf iv).toNat)
  case atStart => exact ⟨0, Nat.zero_le _, rfl, Lib.hid (by simp), HWB⟩
  case round =>
    clear HWB
    obtain ⟨k, hk, rfl, HK, HWB⟩ := hrel
    by_cases hlt : k < l.length
    · have hki : (k : Int) < (l.length : Int) := by omega
      obtain ⟨eb, eo, rfl, c0, c1⟩ := (HE.out.below HWB.out.b).at hlt
      obtain ⟨⟨a, c⟩, hx⟩ : ∃ x, l[k] = x := ⟨_, rfl⟩
      rw [hx] at c0 c1
      simp only at c0 c1
      have hel := World.block_lt_of_cell? wr _ c0
      have HBAD : Hid (¬ zPair n (a, c) → ¬ (OkA n l src dst ∧ ¬ Twice src dst)) := Lib.hid fun hb h => hb (by rw [← hx]; exact h.1.e _ (List.getElem_mem hlt))
      have HNEXT : Hid (zPair n (a, c) → ∀ x, x ∈ l.take (k + 1) → zPair n x) := Lib.hid fun hz x hx' => by
        rw [List.take_succ_eq_append_getElem hlt, hx] at hx'
        rcases List.mem_append.1 hx' with h | h
        · exact HK.out x h
        · simp at h
          exact h ▸ hz
      clear hx
      by_cases a0 : a < 0
      · have HNO : Hid (¬ (OkA n l src dst ∧ ¬ Twice src dst)) := Lib.hid (HBAD.out fun h => by have := h.1.1; simp only at this; omega)
        go_wp2_with fail
        refine (atW _ _ _ HWB.out).mono ?_
        rintro e w1 ⟨g, rfl, hb1⟩
        obtain ⟨c0, c1, f0, f1⟩ := hb1.k.o2
        have hql := hb1.k.lt
        have hpt := hb1.put (.slice (some ⟨g, 0, none⟩) 1 1) (.int .i64 5)
        obtain ⟨w9, hw9⟩ := named ((w1.setCell ⟨qb, 0, none⟩ (.slice (some ⟨g, 0, none⟩) 1 1)).setCell ⟨qb, 1, none⟩ (.int .i64 5))
        rw [← hw9] at hpt
        obtain ⟨r0, r1, hbz⟩ := hpt
        have HP : Hid (WrPost w (OkA n l src dst ∧ ¬ Twice src dst) (.returned (.agg #[.slice (some ⟨g, 0, none⟩) 1 1, .int .i64 5])) w9) := Lib.hid ⟨_, _, _, 5, rfl, by simp only [HNO.out]; decide, hbz⟩
        clear hb1 hbz
        go_wp2_with fail
        rw [← hw9]
        exact bodyPost_ret (v := .agg #[.slice (some ⟨g, 0, none⟩) 1 1, .int .i64 5]) (by simp [results, Tryd.results20, go_sem, r0, r1]) rfl HP.out
      have d0 : decide (a < 0) = false := by simpa using a0
      by_cases a1 : n ≤ a
      · have HNO : Hid (¬ (OkA n l src dst ∧ ¬ Twice src dst)) := Lib.hid (HBAD.out fun h => by have := h.1.2; simp only at this; omega)
        go_wp2_with fail
        refine (atW _ _ _ HWB.out).mono ?_
        rintro e w1 ⟨g, rfl, hb1⟩
        obtain ⟨c0, c1, f0, f1⟩ := hb1.k.o2
        have hql := hb1.k.lt
        have hpt := hb1.put (.slice (some ⟨g, 0, none⟩) 1 1) (.int .i64 5)
        obtain ⟨w9, hw9⟩ := named ((w1.setCell ⟨qb, 0, none⟩ (.slice (some ⟨g, 0, none⟩) 1 1)).setCell ⟨qb, 1, none⟩ (.int .i64 5))
        rw [← hw9] at hpt
        obtain ⟨r0, r1, hbz⟩ := hpt
        have HP : Hid (WrPost w (OkA n l src dst ∧ ¬ Twice src dst) (.returned (.agg #[.slice (some ⟨g, 0, none⟩) 1 1, .int .i64 5])) w9) := Lib.hid ⟨_, _, _, 5, rfl, by simp only [HNO.out]; decide, hbz⟩
        clear hb1 hbz
        go_wp2_with fail
        rw [← hw9]
        exact bodyPost_ret (v := .agg #[.slice (some ⟨g, 0, none⟩) 1 1, .int .i64 5]) (by simp [results, Tryd.results20, go_sem, r0, r1]) rfl HP.out
      have d1 : decide (n ≤ a) = false := by simpa using a1
      by_cases a2 : c < 0
      · have HNO : Hid (¬ (OkA n l src dst ∧ ¬ Twice src dst)) := Lib.hid (HBAD.out fun h => by have := h.2.1; simp only at this; omega)
        go_wp2_with fail
        refine (atW _ _ _ HWB.out).mono ?_
        rintro e w1 ⟨g, rfl, hb1⟩
        obtain ⟨c0, c1, f0, f1⟩ := hb1.k.o2
        have hql := hb1.k.lt
        have hpt := hb1.put (.slice (some ⟨g, 0, none⟩) 1 1) (.int .i64 5)
        obtain ⟨w9, hw9⟩ := named ((w1.setCell ⟨qb, 0, none⟩ (.slice (some ⟨g, 0, none⟩) 1 1)).setCell ⟨qb, 1, none⟩ (.int .i64 5))
        rw [← hw9] at hpt
        obtain ⟨r0, r1, hbz⟩ := hpt
        have HP : Hid (WrPost w (OkA n l src dst ∧ ¬ Twice src dst) (.returned (.agg #[.slice (some ⟨g, 0, none⟩) 1 1, .int .i64 5])) w9) := Lib.hid ⟨_, _, _, 5, rfl, by simp only [HNO.out]; decide, hbz⟩
        clear hb1 hbz
        go_wp2_with fail
        rw [← hw9]
        exact bodyPost_ret (v := .agg #[.slice (some ⟨g, 0, none⟩) 1 1, .int .i64 5]) (by simp [results, Tryd.results20, go_sem, r0, r1]) rfl HP.out
      have d2 : decide (c < 0) = false := by simpa using a2
      by_cases a3 : n ≤ c
      · have HNO : Hid (¬ (OkA n l src dst ∧ ¬ Twice src dst)) := Lib.hid (HBAD.out fun h => by have := h.2.2; simp only at this; omega)
        go_wp2_with fail
        refine (atW _ _ _ HWB.out).mono ?_
        rintro e w1 ⟨g, rfl, hb1⟩
        obtain ⟨c0, c1, f0, f1⟩ := hb1.k.o2
        have hql := hb1.k.lt
        have hpt := hb1.put (.slice (some ⟨g, 0, none⟩) 1 1) (.int .i64 5)
        obtain ⟨w9, hw9⟩ := named ((w1.setCell ⟨qb, 0, none⟩ (.slice (some ⟨g, 0, none⟩) 1 1)).setCell ⟨qb, 1, none⟩ (.int .i64 5))
        rw [← hw9] at hpt
        obtain ⟨r0, r1, hbz⟩ := hpt
        have HP : Hid (WrPost w (OkA n l src dst ∧ ¬ Twice src dst) (.returned (.agg #[.slice (some ⟨g, 0, none⟩) 1 1, .int .i64 5])) w9) := Lib.hid ⟨_, _, _, 5, rfl, by simp only [HNO.out]; decide, hbz⟩
        clear hb1 hbz
        go_wp2_with fail
        rw [← hw9]
        exact bodyPost_ret (v := .agg #[.slice (some ⟨g, 0, none⟩) 1 1, .int .i64 5]) (by simp [results, Tryd.results20, go_sem, r0, r1]) rfl HP.out
      have d3 : decide (n ≤ c) = false := by simpa using a3
      have HN := Lib.hid (HNEXT.out ⟨⟨by simp only; omega, by simp only; omega⟩, by simp only; omega, by simp only; omega⟩)
      clear HBAD HNEXT a0 a1 a2 a3
      go_wp2_with fail
      go_roundw
      case rel => exact ⟨k + 1, hlt, by go_num, HN, HWB⟩
      case measure => simp [intOf]; omega
    · obtain rfl : k = l.length := by omega
      have HLA : Hid (∀ x, x ∈ l → zPair n x) := Lib.hid (by have := HK.out; rwa [List.take_length] at this)
      clear HK
      go_wp2_with fail
      go_loopw [10] (fun iv wr2 => ∃ k : Nat, k ≤ src.length ∧ iv = .int .i64 k ∧ Hid (∀ x, x ∈ src.take k → 0 ≤ x ∧ x < n) ∧ Hid (WrB w qb wr2)) (fun iv _ => src.length - (intOf iv).toNat)
      case atStart => exact ⟨0, Nat.zero_le _, rfl, Lib.hid (by simp), HWB⟩
      case round =>
        clear HWB
        obtain ⟨k, hk, rfl, HK, HWB⟩ := hrel
        by_cases hlt : k < src.length
        · have hki : (k : Int) < (src.length : Int) := by omega
          obtain ⟨eb, eo, rfl, c0⟩ := (HS.out.below HWB.out.b).at hlt
          obtain ⟨a, hx⟩ : ∃ x, src[k] = x := ⟨_, rfl⟩
          rw [hx] at c0
          have hel := World.block_lt_of_cell? _ _ c0
          have HBAD : Hid (¬ (0 ≤ a ∧ a < n) → ¬ (OkA n l src dst ∧ ¬ Twice src dst)) := Lib.hid fun hb h => hb (by rw [← hx]; exact h.1.s _ (List.getElem_mem hlt))
          have HNEXT : Hid ((0 ≤ a ∧ a < n) → ∀ x, x ∈ src.take (k + 1) → 0 ≤ x ∧ x < n) := Lib.hid fun hz x hx' => by
            rw [List.take_succ_eq_append_getElem hlt, hx] at hx'
            rcases List.mem_append.1 hx' with h | h
            · exact HK.out x h
            · simp at h
              exact h ▸ hz
          clear hx
          by_cases a0 : a < 0
          · have HNO : Hid (¬ (OkA n l src dst ∧ ¬ Twice src dst)) := Lib.hid (HBAD.out fun h => by omega)
            go_wp2_with fail
            refine (atW _ _ _ HWB.out).mono ?_
            rintro e w1 ⟨g, rfl, hb1⟩
            obtain ⟨c0, c1, f0, f1⟩ := hb1.k.o2
            have hql := hb1.k.lt
            have hpt := hb1.put (.slice (some ⟨g, 0, none⟩) 1 1) (.int .i64 5)
            obtain ⟨w9, hw9⟩ := named ((w1.setCell ⟨qb, 0, none⟩ (.slice (some ⟨g, 0, none⟩) 1 1)).setCell ⟨qb, 1, none⟩ (.int .i64 5))
            rw [← hw9] at hpt
            obtain ⟨r0, r1, hbz⟩ := hpt
            have HP : Hid (WrPost w (OkA n l src dst ∧ ¬ Twice src dst) (.returned (.agg #[.slice (some ⟨g, 0, none⟩) 1 1, .int .i64 5])) w9) := Lib.hid ⟨_, _, _, 5, rfl, by simp only [HNO.out]; decide, hbz⟩
            clear hb1 hbz
            go_wp2_with fail
            rw [← hw9]
            exact bodyPost_ret (v := .agg #[.slice (some ⟨g, 0, none⟩) 1 1, .int .i64 5]) (by simp [results, Tryd.results20, go_sem, r0, r1]) rfl HP.out
          have d0 : decide (a < 0) = false := by simpa using a0
          by_cases a1 : n ≤ a
          · have HNO : Hid (¬ (OkA n l src dst ∧ ¬ Twice src dst)) := Lib.hid (HBAD.out fun h => by omega)
            go_wp2_with fail
            refine (atW _ _ _ HWB.out).mono ?_
            rintro e w1 ⟨g, rfl, hb1⟩
            obtain ⟨c0, c1, f0, f1⟩ := hb1.k.o2
            have hql := hb1.k.lt
            have hpt := hb1.put (.slice (some ⟨g, 0, none⟩) 1 1) (.int .i64 5)
            obtain ⟨w9, hw9⟩ := named ((w1.setCell ⟨qb, 0, none⟩ (.slice (some ⟨g, 0, none⟩) 1 1)).setCell ⟨qb, 1, none⟩ (.int .i64 5))
            rw [← hw9] at hpt
            obtain ⟨r0, r1, hbz⟩ := hpt
            have HP : Hid (WrPost w (OkA n l src dst ∧ ¬ Twice src dst) (.returned (.agg #[.slice (some ⟨g, 0, none⟩) 1 1, .int .i64 5])) w9) := Lib.hid ⟨_, _, _, 5, rfl, by simp only [HNO.out]; decide, hbz⟩
            clear hb1 hbz
            go_wp2_with fail
            rw [← hw9]
            exact bodyPost_ret (v := .agg #[.slice (some ⟨g, 0, none⟩) 1 1, .int .i64 5]) (by simp [results, Tryd.results20, go_sem, r0, r1]) rfl HP.out
          have d1 : decide (n ≤ a) = false := by simpa using a1
          have HN := Lib.hid (HNEXT.out ⟨by omega, by omega⟩)
          clear HBAD HNEXT a0 a1
          go_wp2_with fail
          go_roundw
          case rel => exact ⟨k + 1, hlt, by go_num, HN, HWB⟩
          case measure => simp [intOf]; omega
        · obtain rfl : k = src.length := by omega
          have HSA : Hid (∀ x, x ∈ src → 0 ≤ x ∧ x < n) := Lib.hid (by have := HK.out; rwa [List.take_length] at this)
          clear HK
          go_wp2_with fail
          go_loopw [11] (fun iv wr2 => ∃ k : Nat, k ≤ dst.length ∧ iv = .int .i64 k ∧ Hid (∀ x, x ∈ dst.take k → 0 ≤ x ∧ x < n) ∧ Hid (WrB w qb wr2)) (fun iv _ => dst.length - (intOf iv).toNat)
          case atStart => exact ⟨0, Nat.zero_le _, rfl, Lib.hid (by simp), HWB⟩
          case round =>
            clear HWB
            obtain ⟨k, hk, rfl, HK, HWB⟩ := hrel
            by_cases hlt : k < dst.length
            · have hki : (k : Int) < (dst.length : Int) := by omega
              obtain ⟨eb, eo, rfl, c0⟩ := (HD.out.below HWB.out.b).at hlt
              obtain ⟨a, hx⟩ : ∃ x, dst[k] = x := ⟨_, rfl⟩
              rw [hx] at c0
              have hel := World.block_lt_of_cell? _ _ c0
              have HBAD : Hid (¬ (0 ≤ a ∧ a < n) → ¬ (OkA n l src dst ∧ ¬ Twice src dst)) := Lib.hid fun hb h => hb (by rw [← hx]; exact h.1.d _ (List.getElem_mem hlt))
              have HNEXT : Hid ((0 ≤ a ∧ a < n) → ∀ x, x ∈ dst.take (k + 1) → 0 ≤ x ∧ x < n) := Lib.hid fun hz x hx' => by
                rw [List.take_succ_eq_append_getElem hlt, hx] at hx'
                rcases List.mem_append.1 hx' with h | h
                · exact HK.out x h
                · simp at h
                  exact h ▸ hz
              clear hx
              by_cases a0 : a < 0
              · have HNO : Hid (¬ (OkA n l src dst ∧ ¬ Twice src dst)) := Lib.hid (HBAD.out fun h => by omega)
                go_wp2_with fail
                refine (atW _ _ _ HWB.out).mono ?_
                rintro e w1 ⟨g, rfl, hb1⟩
                obtain ⟨c0, c1, f0, f1⟩ := hb1.k.o2
                have hql := hb1.k.lt
                have hpt := hb1.put (.slice (some ⟨g, 0, none⟩) 1 1) (.int .i64 5)
                obtain ⟨w9, hw9⟩ := named ((w1.setCell ⟨qb, 0, none⟩ (.slice (some ⟨g, 0, none⟩) 1 1)).setCell ⟨qb, 1, none⟩ (.int .i64 5))
                rw [← hw9] at hpt
                obtain ⟨r0, r1, hbz⟩ := hpt
                have HP : Hid (WrPost w (OkA n l src dst ∧ ¬ Twice src dst) (.returned (.agg #[.slice (some ⟨g, 0, none⟩) 1 1, .int .i64 5])) w9) := Lib.hid ⟨_, _, _, 5, rfl, by simp only [HNO.out]; decide, hbz⟩
                clear hb1 hbz
                go_wp2_with fail
                rw [← hw9]
                exact bodyPost_ret (v := .agg #[.slice (some ⟨g, 0, none⟩) 1 1, .int .i64 5]) (by simp [results, Tryd.results20, go_sem, r0, r1]) rfl HP.out
              have d0 : decide (a < 0) = false := by simpa using a0
              by_cases a1 : n ≤ a
              · have HNO : Hid (¬ (OkA n l src dst ∧ ¬ Twice src dst)) := Lib.hid (HBAD.out fun h => by omega)
                go_wp2_with fail
                refine (atW _ _ _ HWB.out).mono ?_
                rintro e w1 ⟨g, rfl, hb1⟩
                obtain ⟨c0, c1, f0, f1⟩ := hb1.k.o2
                have hql := hb1.k.lt
                have hpt := hb1.put (.slice (some ⟨g, 0, none⟩) 1 1) (.int .i64 5)
                obtain ⟨w9, hw9⟩ := named ((w1.setCell ⟨qb, 0, none⟩ (.slice (some ⟨g, 0, none⟩) 1 1)).setCell ⟨qb, 1, none⟩ (.int .i64 5))
                rw [← hw9] at hpt
                obtain ⟨r0, r1, hbz⟩ := hpt
                have HP : Hid (WrPost w (OkA n l src dst ∧ ¬ Twice src dst) (.returned (.agg #[.slice (some ⟨g, 0, none⟩) 1 1, .int .i64 5])) w9) := Lib.hid ⟨_, _, _, 5, rfl, by simp only [HNO.out]; decide, hbz⟩
                clear hb1 hbz
                go_wp2_with fail
                rw [← hw9]
                exact bodyPost_ret (v := .agg #[.slice (some ⟨g, 0, none⟩) 1 1, .int .i64 5]) (by simp [results, Tryd.results20, go_sem, r0, r1]) rfl HP.out
              have d1 : decide (n ≤ a) = false := by simpa using a1
              have HN := Lib.hid (HNEXT.out ⟨by omega, by omega⟩)
              clear HBAD HNEXT a0 a1
              go_wp2_with fail
              go_roundw
              case rel => exact ⟨k + 1, hlt, by go_num, HN, HWB⟩
              case measure => simp [intOf]; omega
            · obtain rfl : k = dst.length := by omega
              have HDA : Hid (∀ x, x ∈ dst → 0 ≤ x ∧ x < n) := Lib.hid (by have := HK.out; rwa [List.take_length] at this)
              clear HK
              go_wp2_with fail
              have HOK : Hid (OkA n l src dst) := Lib.hid ⟨by omega, HLA.out, HSA.out, HDA.out⟩
              go_loopw [12] (fun iv wr2 => ∃ k : Nat, k ≤ src.length ∧ iv = .int .i64 k ∧ Hid (∀ x, x ∈ src.take k → x ∉ dst) ∧ Hid (WrB w qb wr2)) (fun iv _ => src.length - (intOf iv).toNat)
              case atStart => exact ⟨0, Nat.zero_le _, rfl, Lib.hid (by simp), HWB⟩
              case round =>
                clear HWB
                obtain ⟨k, hk, rfl, HK, HWB⟩ := hrel
                by_cases hlt : k < src.length
                · have hki : (k : Int) < (src.length : Int) := by omega
                  obtain ⟨eb, eo, rfl, c0⟩ := (HS.out.below HWB.out.b).at hlt
                  obtain ⟨a, hx⟩ : ∃ x, src[k] = x := ⟨_, rfl⟩
                  rw [hx] at c0
                  have hel := World.block_lt_of_cell? _ _ c0
                  have HX := Lib.hid hx
                  have HPM := Lib.hid (placeL_mem dst a)
                  have HPL := Lib.hid (rplace_any _ dst a _ (HD.out.below HWB.out.b))
                  generalize placeL dst a = pl at HPM HPL
                  clear hx
                  by_cases hp : 0 ≤ pl
                  · have HTW : Hid (Twice src dst) := Lib.hid ⟨a, by rw [← HX.out]; exact List.getElem_mem hlt, HPM.out.1 hp⟩
                    go_wp2_with fail
                    refine HPL.out.mono ?_
                    rintro e w2 ⟨rfl, rfl⟩
                    have HNO : Hid (¬ (OkA n l src dst ∧ ¬ Twice src dst)) := Lib.hid (fun h => h.2 HTW.out)
                    go_wp2_with fail
                    refine (atW _ _ _ HWB.out).mono ?_
                    rintro e w1 ⟨g, rfl, hb1⟩
                    obtain ⟨c0, c1, f0, f1⟩ := hb1.k.o2
                    have hql := hb1.k.lt
                    have hpt := hb1.put (.slice (some ⟨g, 0, none⟩) 1 1) (.int .i64 6)
                    obtain ⟨w9, hw9⟩ := named ((w1.setCell ⟨qb, 0, none⟩ (.slice (some ⟨g, 0, none⟩) 1 1)).setCell ⟨qb, 1, none⟩ (.int .i64 6))
                    rw [← hw9] at hpt
                    obtain ⟨r0, r1, hbz⟩ := hpt
                    have HP : Hid (WrPost w (OkA n l src dst ∧ ¬ Twice src dst) (.returned (.agg #[.slice (some ⟨g, 0, none⟩) 1 1, .int .i64 6])) w9) := Lib.hid ⟨_, _, _, 6, rfl, by simp only [HNO.out]; decide, hbz⟩
                    clear hb1 hbz
                    go_wp2_with fail
                    rw [← hw9]
                    exact bodyPost_ret (v := .agg #[.slice (some ⟨g, 0, none⟩) 1 1, .int .i64 6]) (by simp [results, Tryd.results20, go_sem, r0, r1]) rfl HP.out
                  · have hd9 : decide (0 ≤ pl) = false := by simpa using hp
                    have HN : Hid (∀ x, x ∈ src.take (k + 1) → x ∉ dst) := Lib.hid fun x hx' => by
                      rw [List.take_succ_eq_append_getElem hlt, HX.out] at hx'
                      rcases List.mem_append.1 hx' with h | h
                      · exact HK.out x h
                      · simp at h
                        rw [h]
                        exact fun hm => hp (HPM.out.2 hm)
                    go_wp2_with fail
                    refine HPL.out.mono ?_
                    rintro e w2 ⟨rfl, rfl⟩
                    go_wp2_with fail
                    go_roundw
                    case rel => exact ⟨k + 1, hlt, by go_num, HN, HWB⟩
                    case measure => simp [intOf]; omega
                · obtain rfl : k = src.length := by omega
                  have HQ : Hid (OkA n l src dst ∧ ¬ Twice src dst) := Lib.hid ⟨HOK.out, fun ⟨x, h1, h2⟩ => HK.out x (by rw [List.take_length]; exact h1) h2⟩
                  obtain ⟨c0, c1, f0, f1⟩ := HWB.out.k.o2
                  have hql := HWB.out.k.lt
                  have hpt := HWB.out.put (.slice none 0 0) (.int .i64 0)
                  obtain ⟨r0, r1, hbz⟩ := hpt
                  have HP := Lib.hid (show WrPost w (OkA n l src dst ∧ ¬ Twice src dst) (.returned (.agg #[.slice none 0 0, .int .i64 0])) _ from ⟨_, _, _, 0, rfl, by simp only [HQ.out]; decide, hbz⟩)
                  have R0 := Lib.hid r0
                  have R1 := Lib.hid r1
                  clear hbz r0 r1
                  go_wp2_with fail
                  have r0 := R0.out
                  have r1 := R1.out
                  exact bodyPost_ret (v := .agg #[.slice none 0 0, .int .i64 0]) (by simp [results, Tryd.results20, go_sem, r0, r1]) rfl HP.out
end
end Go.Proofs.YtleheaffipokfaaDoor
