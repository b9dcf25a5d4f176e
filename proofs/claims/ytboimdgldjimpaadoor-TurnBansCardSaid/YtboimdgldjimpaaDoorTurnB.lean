/-
  The program's own tables of turns: Bans, Same, At, Free.
-/
import Derived.Test.YtboimdgldjimpaaDoorTurnA
namespace Go.Proofs.YtboimdgldjimpaaDoor
open Go.RowKit

set_option maxHeartbeats 1000000 in
theorem tbans_any (I O : Int) (u : Value) (l : List Int) (w : World) (hu : I64s w u l) :
    Calls Tryd.prog 19 #[.agg #[.int .i64 I, .int .i64 O, u]] w fun e w' => e = .returned (.int .i64 (bansC l)) ∧ Below w.heap.size w w' := by
  rcases hu with ⟨rfl, p, c, rfl, -⟩ | ⟨hl, b, o, c, -, -, rfl, hc⟩
  · go_enter Tryd.func19, Tryd.ntmps19
    go_wp2
    refine wp_loop_rounds 1 ?_
    rw [rounds_succ]
    go_wp2
    go_ret
    exact ⟨rfl, (Below.refl _ _).alloc (Nat.le_refl _) _⟩
  have HC := Lib.hid hc
  clear hc
  go_enter Tryd.func19, Tryd.ntmps19
  go_wp2
  go_loop [3, 9] (fun s i => ∃ k : Nat, k ≤ l.length ∧ i = .int .i64 k ∧ s = .int .i64 (bansC (l.take k))) (fun _ i => l.length - (intOf i).toNat)
  case atStart => exact ⟨0, Nat.zero_le _, rfl, rfl⟩
  case round =>
    obtain ⟨k, hk, rfl, rfl⟩ := hrel
    have s0 := bansC_lo (l.take k)
    have s1 := bansC_hi (l.take k)
    have s2 := List.length_take (i := k) (l := l)
    by_cases hlt : k < l.length
    · have g := HC.out k hlt
      have hb := World.block_lt_of_cell? w _ g
      have HS : Hid (bansC (l.take (k + 1)) = bansC (l.take k) + (if l[k] = 1152921504606846976 then 1 else 0)) := by rw [take_snoc l k hlt]; exact bansC_snoc _ _
      by_cases he : l[k] = 1152921504606846976
      · have HT : Hid (bansC (l.take (k + 1)) = bansC (l.take k) + 1) := by have := HS.out; rw [if_pos he] at this; exact this
        go_wp2
        go_round
        case rel => exact ⟨k + 1, by omega, by go_num, by rw [HT.out]⟩
        case measure => simp [intOf]; omega
      · have HT : Hid (bansC (l.take (k + 1)) = bansC (l.take k)) := by have := HS.out; rw [if_neg he, Int.add_zero] at this; exact this
        go_wp2
        go_round
        case rel => exact ⟨k + 1, by omega, by go_num, by rw [HT.out]⟩
        case measure => simp [intOf]; omega
    · go_wp2
      go_ret
      exact ⟨ret_int (by rw [List.take_of_length_le (by omega)]), (Below.refl _ _).alloc (Nat.le_refl _) _⟩

/-! ### are two alike? -/
set_option maxHeartbeats 1000000 in
theorem equal_any (v u : Value) (l m : List Int) (w : World) (hv : I64s w v l) (hu : I64s w u m) :
    Calls Tryd.prog 33 #[v, u] w fun e w' => e = .returned (.bool (decide (l = m))) ∧ Below w.heap.size w w' := by
  by_cases hlen : l.length = m.length
  case neg =>
    have hne : Hid (decide (l = m) = false) := decide_eq_false (fun h => hlen (by rw [h]))
    obtain ⟨q, c, rfl⟩ := hv.shape
    obtain ⟨q', c', rfl⟩ := hu.shape
    clear hv hu
    have hlen' : ¬ (l.length : Int) = m.length := by omega
    go_enter Tryd.func33, Tryd.ntmps33
    go_wp2
    go_ret
    exact ⟨ret_bool hne.out.symm, Below.refl _ _⟩
  case pos =>
  rcases hv with ⟨rfl, p, c, rfl, -⟩ | ⟨hl, b, o, c, -, -, rfl, hc⟩
  · obtain ⟨q', c', rfl⟩ := hu.shape
    obtain rfl : m = [] := List.eq_nil_of_length_eq_zero (by simpa using hlen.symm)
    clear hu hlen
    go_enter Tryd.func33, Tryd.ntmps33
    go_wp2
    refine wp_loop_rounds 1 ?_
    rw [rounds_succ]
    go_wp2
    go_ret
    exact ⟨rfl, Below.refl _ _⟩
  rcases hu with ⟨rfl, p, c', rfl, -⟩ | ⟨hl', b', o', c', -, -, rfl, hc'⟩
  · obtain rfl : l = [] := List.eq_nil_of_length_eq_zero (by simpa using hlen)
    clear hc hlen
    go_enter Tryd.func33, Tryd.ntmps33
    go_wp2
    refine wp_loop_rounds 1 ?_
    rw [rounds_succ]
    go_wp2
    go_ret
    exact ⟨rfl, Below.refl _ _⟩
  have HC := Lib.hid hc
  have HC' := Lib.hid hc'
  have HL := Lib.hid hlen
  clear hc hc'
  have hz : (l.length : Int) = m.length := by omega
  rw [← hlen] at hl' ⊢
  clear hlen hz
  go_enter Tryd.func33, Tryd.ntmps33
  go_wp2
  go_loopw [13] (fun i wr => ∃ k : Nat, k ≤ l.length ∧ i = .int .i64 k ∧ Hid (l.take k = m.take k) ∧ Hid (Below w.heap.size w wr)) (fun i _ => l.length - (intOf i).toNat)
  case atStart => exact ⟨0, Nat.zero_le _, rfl, rfl, Below.refl _ _⟩
  case round =>
    obtain ⟨k, hk, rfl, HS, HB⟩ := hrel
    by_cases hlt : k < l.length
    · have hlt' : k < m.length := by rw [← HL.out]; exact hlt
      have g := (HB.out.cell (World.block_lt_of_cell? w _ (HC.out k hlt))).trans (HC.out k hlt)
      have g' := (HB.out.cell (World.block_lt_of_cell? w _ (HC'.out k hlt'))).trans (HC'.out k hlt')
      have hki : (k : Int) < l.length := by omega
      by_cases he : l[k] = m[k]
      · have HN : Hid (l.take (k + 1) = m.take (k + 1)) := by rw [take_snoc l k hlt, take_snoc m k hlt', HS.out, he]; exact rfl
        go_wp2
        go_quiet (fail)
        go_wp2
        go_roundw
        case rel => exact ⟨k + 1, by omega, by go_num, HN, below_drewN HB.out _⟩
        case measure => simp [intOf]; omega
      · have HN : Hid (decide (l = m) = false) := decide_eq_false (fun h => he (by subst h; rfl))
        go_wp2
        go_quiet (fail)
        go_wp2
        go_ret
        exact ⟨ret_bool HN.out.symm, below_drewN HB.out _⟩
    · have HN : Hid (decide (l = m) = true) := by
        have := HS.out
        rw [List.take_of_length_le (by omega), List.take_of_length_le (by rw [← HL.out]; omega)] at this
        exact decide_eq_true this
      go_wp2
      go_ret
      exact ⟨ret_bool HN.out.symm, HB.out⟩

set_option maxHeartbeats 1000000 in
theorem tsame_any (I O I' O' : Int) (v u : Value) (l m : List Int) (w : World) (hv : I64s w v l) (hu : I64s w u m) :
    Calls Tryd.prog 13 #[.agg #[.int .i64 I, .int .i64 O, v], .agg #[.int .i64 I', .int .i64 O', u]] w fun e w' => e = .returned (.bool (decide (I = I' ∧ O = O' ∧ l = m))) ∧ Below w.heap.size w w' := by
  have hv2 := hv.below (below_alloc2 (.cells #[.int .i64 I, .int .i64 O, v] 34) (.cells #[.int .i64 I', .int .i64 O', u] 34))
  have hu2 := hu.below (below_alloc2 (.cells #[.int .i64 I, .int .i64 O, v] 34) (.cells #[.int .i64 I', .int .i64 O', u] 34))
  obtain ⟨q, c, rfl⟩ := hv.shape
  obtain ⟨q', c', rfl⟩ := hu.shape
  have HV := Lib.hid hv2
  have HU := Lib.hid hu2
  clear hv hu hv2 hu2
  by_cases hI : I = I'
  case neg =>
    have hne : Hid (decide (I = I' ∧ O = O' ∧ l = m) = false) := decide_eq_false (fun h => hI h.1)
    have hI' : decide (I = I') = false := decide_eq_false hI
    go_enter Tryd.func13, Tryd.ntmps13
    go_wp2_with fail
    go_ret
    refine ⟨?_, below_alloc2 _ _⟩
    first | rfl | exact ret_bool hne.out.symm
  by_cases hO : O = O'
  case neg =>
    have hne : Hid (decide (I = I' ∧ O = O' ∧ l = m) = false) := decide_eq_false (fun h => hO h.2.1)
    have hO' : decide (O = O') = false := decide_eq_false hO
    subst hI
    go_enter Tryd.func13, Tryd.ntmps13
    go_wp2_with fail
    go_ret
    refine ⟨?_, below_alloc2 _ _⟩
    first | rfl | exact ret_bool hne.out.symm
  subst hI
  subst hO
  have heq : Hid (decide (I = I ∧ O = O ∧ l = m) = decide (l = m)) := by apply Lib.hid; simp
  go_enter Tryd.func13, Tryd.ntmps13
  go_wp2_with fail
  refine (equal_any _ _ l m _ HV.out HU.out).mono ?_
  rintro e w' ⟨rfl, hb⟩
  have HB := Lib.hid hb
  clear hb
  go_wp2_with fail
  go_ret
  exact ⟨ret_bool heq.out.symm, (below_alloc2 _ _).trans (HB.out.mono (by simp; omega))⟩

/-! ### what a turn costs -/
set_option maxHeartbeats 1000000 in
theorem tat_out (I O : Int) (u : Value) (x y : Int) (w : World) (h : x < 0 ∨ I ≤ x ∨ y < 0 ∨ O ≤ y) :
    Calls Tryd.prog 17 #[.agg #[.int .i64 I, .int .i64 O, u], .int .i64 x, .int .i64 y] w fun e w' => e = .returned (.int .i64 1152921504606846976) ∧ Below w.heap.size w w' := by
  by_cases h1 : 0 ≤ x ∧ x < I
  · have d1 : decide (0 ≤ x ∧ x < I) = true := by simpa using h1
    have d2 : decide (0 ≤ y ∧ y < O) = false := by simp; omega
    have D1 := Lib.hid d1
    have D2 := Lib.hid d2
    clear d1 d2 h h1
    go_enter Tryd.func17, Tryd.ntmps17
    go_wp2_with fail
    refine (among_any x I _).mono ?_
    rw [D1.out]
    rintro e w' ⟨rfl, rfl⟩
    go_wp2_with fail
    refine (among_any y O _).mono ?_
    rw [D2.out]
    rintro e w' ⟨rfl, rfl⟩
    go_wp2_with fail
    go_ret
    exact ⟨rfl, below_alloc1 _⟩
  · have d1 : decide (0 ≤ x ∧ x < I) = false := by simp; omega
    have D1 := Lib.hid d1
    clear d1 h h1
    go_enter Tryd.func17, Tryd.ntmps17
    go_wp2_with fail
    refine (among_any x I _).mono ?_
    rw [D1.out]
    rintro e w' ⟨rfl, rfl⟩
    go_wp2_with fail
    go_ret
    exact ⟨rfl, below_alloc1 _⟩

set_option maxHeartbeats 1000000 in
theorem tat_in (I O : Int) (u : Value) (l : List Int) (x y : Int) (w : World) (hs : 0 ≤ I ∧ I ≤ 16 ∧ 0 ≤ O ∧ O ≤ 16) (hn : (l.length : Int) = I * O) (hu : I64s w u l) (h : 0 ≤ x ∧ x < I ∧ 0 ≤ y ∧ y < O) :
    Calls Tryd.prog 17 #[.agg #[.int .i64 I, .int .i64 O, u], .int .i64 x, .int .i64 y] w fun e w' => e = .returned (.int .i64 (l.getD (x * O + y).toNat 0)) ∧ Below w.heap.size w w' := by
  obtain ⟨p0, p1⟩ := place_lt hn h
  obtain ⟨s0, s1⟩ := size_le hs
  rcases hu with ⟨rfl, _⟩ | ⟨hl, b, o, c, -, -, rfl, hc⟩
  · simp at p1; omega
  have hlt : (x * O + y).toNat < l.length := by omega
  have g := hc _ hlt
  have hb := World.block_lt_of_cell? w _ g
  clear hc
  have hI := hs.1
  obtain ⟨x0, x1, y0, y1⟩ := h
  have d1 : decide (0 ≤ x ∧ x < I) = true := by simp; omega
  have d2 : decide (0 ≤ y ∧ y < O) = true := by simp; omega
  have d3 : decide (0 ≤ x * O + y ∧ x * O + y < (l.length : Int)) = true := by simp; omega
  have D1 := Lib.hid d1
  have D2 := Lib.hid d2
  have D3 := Lib.hid d3
  have HG : Hid (l.getD (x * O + y).toNat 0 = l[(x * O + y).toNat]) := Lib.hid (by simp [List.getD, hlt])
  have p2 : x * O + y ≤ 1000000 := by omega
  clear d1 d2 d3 hn
  go_enter Tryd.func17, Tryd.ntmps17
  go_wp2_with fail
  refine (among_any x I _).mono ?_
  rw [D1.out]
  rintro e w' ⟨rfl, rfl⟩
  go_wp2_with fail
  refine (among_any y O _).mono ?_
  rw [D2.out]
  rintro e w' ⟨rfl, rfl⟩
  go_wp2_with fail
  refine (place_any _ _ _ _ _ _ p0 y0 p2).mono ?_
  rintro e w' ⟨rfl, rfl⟩
  go_wp2_with fail
  refine (among_any _ _ _).mono ?_
  rw [D3.out]
  rintro e w' ⟨rfl, rfl⟩
  go_wp2_with fail
  go_ret
  exact ⟨ret_int HG.out.symm, below_alloc2 _ _⟩

/-- What the program's turn costs, of any in and out of a table that may be. -/
theorem tat_any (I O : Int) (u : Value) (l : List Int) (x y : Int) (w : World) (hs : 0 ≤ I ∧ I ≤ 16 ∧ 0 ≤ O ∧ O ≤ 16) (hn : (l.length : Int) = I * O) (hu : I64s w u l) :
    Calls Tryd.prog 17 #[.agg #[.int .i64 I, .int .i64 O, u], .int .i64 x, .int .i64 y] w fun e w' => e = .returned (.int .i64 (turnAt I O l x y)) ∧ Below w.heap.size w w' := by
  by_cases h : x < 0 ∨ I ≤ x ∨ y < 0 ∨ O ≤ y
  · exact (tat_out I O u x y w h).mono fun e w' ⟨h1, h2⟩ => ⟨by rw [h1]; unfold turnAt; rw [if_pos h], h2⟩
  · exact (tat_in I O u l x y w hs hn hu (by omega)).mono fun e w' ⟨h1, h2⟩ => ⟨by rw [h1]; unfold turnAt; rw [if_neg h], h2⟩

/-- An error stands where a block that is none of its Faults is written. -/
theorem ErrV.setCell {w : World} {k o : Nat} {u x : Value} (hk : w.cell? ⟨k, 0, none⟩ = some u) (hu : ∀ s, u ≠ .string s) : ∀ {v : Value} {ps : List (ByteArray × Int)} {e : Int}, ErrV w v ps e → ErrV (w.setCell ⟨k, o, none⟩ x) v ps e
  | _, [], _, h => h
  | _, _ :: _, _, ⟨b, y, h0, h1, h2, h3, h4⟩ => by
    have hne : b ≠ k := fun e => by
      subst e
      rw [hk] at h1
      exact hu _ (Option.some.inj h1)
    have hc : ∀ j, (w.setCell ⟨k, o, none⟩ x).cell? ⟨b, j, none⟩ = w.cell? ⟨b, j, none⟩ := fun j => World.cell?_setCell_other w ⟨k, o, none⟩ ⟨b, j, none⟩ x (by intro e; injection e with e1; exact hne e1.symm)
    exact ⟨b, y, h0, (hc 0).trans h1, (hc 1).trans h2, (hc 2).trans h3, ErrV.setCell hk hu h4⟩
theorem FaultV.setCell {w : World} {k o : Nat} {u x : Value} (hk : w.cell? ⟨k, 0, none⟩ = some u) (hu : ∀ s, u ≠ .string s) {v : Value} {ps : List (ByteArray × Int)} {e : Int} (h : FaultV w v ps e) : FaultV (w.setCell ⟨k, o, none⟩ x) v ps e :=
  h.imp id (fun h => ⟨h.1, h.2.setCell hk hu⟩)
/-- .. and where a table's cells are written, one behind the other. -/
theorem ErrV.setTab {w : World} {k : Nat} {n : Int} {x y z : Value} (hk : w.cell? ⟨k, 0, none⟩ = some (.int .i64 n)) {v : Value} {ps : List (ByteArray × Int)} {e m : Int} (h : ErrV w v ps e) (hx : x = .int .i64 m) :
    ErrV (((w.setCell ⟨k, 0, none⟩ x).setCell ⟨k, 1, none⟩ y).setCell ⟨k, 2, none⟩ z) v ps e := by
  subst hx
  have h1 := h.setCell (o := 0) (x := .int .i64 m) hk (fun s hs => by cases hs)
  have k1 : (w.setCell ⟨k, 0, none⟩ (.int .i64 m)).cell? ⟨k, 0, none⟩ = some (.int .i64 m) := World.cell?_setCell_same w _ _ hk
  have h2 := h1.setCell (o := 1) (x := y) k1 (fun s hs => by cases hs)
  have k2 : ((w.setCell ⟨k, 0, none⟩ (.int .i64 m)).setCell ⟨k, 1, none⟩ y).cell? ⟨k, 0, none⟩ = some (.int .i64 m) := by
    rw [World.cell?_setCell_other _ ⟨k, 1, none⟩ ⟨k, 0, none⟩ _ (by intro e; injection e with _ e2; cases e2)]; exact k1
  exact h2.setCell (o := 2) (x := z) k2 (fun s hs => by cases hs)

/-! ### Free -/
/-- v is a table whose row the call owns. -/
def TabO (w : World) (base : Nat) (v : Value) (I O : Int) (l : List Int) : Prop := ∃ u, v = .agg #[.int .i64 I, .int .i64 O, u] ∧ w.ownsRow base 2 1 u l.length (l.map (Value.int .i64))
theorem TabO.tab {w : World} {base : Nat} {v : Value} {I O : Int} {l : List Int} (h : TabO w base v I O l) (hl : l.length ≤ 9223372036854775807) : TabV w v I O l := by
  obtain ⟨u, e, h⟩ := h
  exact ⟨u, e, i64s_of_owns h hl⟩
/-- What a call answers that tells a table of its own, and no error. -/
def FreePost (I O : Int) (l : List Int) (w : World) (ev : Ending) (w' : World) : Prop := ∃ tv, ev = .returned (.tuple #[tv, .nilIface]) ∧ TabO w' w.heap.size tv I O l ∧ Below w.heap.size w w'

theorem run_make64 (n : Int) (h0 : 0 ≤ n) (h1 : n ≤ 1000000) (w : World) :
    (Instr.makeSlice 22 (.int .i64 n) (.int .i64 n)).run Tryd.prog w = .ok (.slice (some ⟨w.heap.size, 0, none⟩) n.toNat n.toNat) (w.alloc (.cells (madeCells #[.int .i64 0] n.toNat) 2)) := by
  obtain ⟨i0, hi, hz0, hz1, hz2⟩ := info_parts info64
  have := run_make (P := Tryd.prog) w 22 2 i0 (.int .i64 0) Tryd.underlying22 hi hz0 .i64 .i64 n n h0 (Int.le_refl _) (by rw [hz2]; omega) (by omega)
  rw [hz1, Nat.mul_one] at this
  exact this

theorem owns_made (w : World) (n : Int) (h1 : n ≤ 1000000) (base : Nat) (hb : base ≤ w.heap.size) (g : Nat) (hg : w.heap.size = g) :
    (w.alloc (.cells (madeCells #[.int .i64 0] n.toNat) 2)).ownsRow base 2 1 (.slice (some ⟨g, 0, none⟩) n.toNat n.toNat) (List.replicate n.toNat (0 : Int)).length ((List.replicate n.toNat (0 : Int)).map (Value.int .i64)) := by
  subst hg
  have h := World.ownsRow_lit (base := base) (e := 2) (size := 1) w (madeCells #[.int .i64 0] n.toNat) n.toNat hb (by simp [maxLen]; omega) (by rw [size_madeCells, Nat.mul_one])
  rw [toList_madeCells_one] at h
  simpa using h

set_option maxHeartbeats 1000000 in
theorem tfree_ok (I O : Int) (w : World) (h0 : ¬ (I < 0 ∨ 16 < I)) (h1 : ¬ (O < 0 ∨ 16 < O)) :
    Calls Tryd.prog 22 #[.int .i64 I, .int .i64 O] w (FreePost I O (List.replicate (I * O).toNat 0) w) := by
  obtain ⟨s0, s1⟩ := size_le (I := I) (O := O) ⟨by omega, by omega, by omega, by omega⟩
  have hmk := run_make64 (I * O) s0 (by omega)
  go_enter Tryd.func22, Tryd.ntmps22
  go_wp2_with (go_at_call 30; refine (counts_ok I O _ h0 h1).mono ?_; rintro e w' ⟨rfl, rfl⟩)
  refine bodyPost_ret (v := .tuple #[.agg #[.int .i64 I, .int .i64 O, .slice (some ⟨w.heap.size + 1, 0, none⟩) (I * O).toNat (I * O).toNat], .nilIface]) (by simp [results, Tryd.results22, go_sem]) rfl ⟨_, rfl, ⟨_, rfl, ?_⟩, ?_⟩
  · exact owns_made _ _ (by omega) _ (by simp) _ (by simp)
  · exact below_alloc2 _ _

set_option maxHeartbeats 1000000 in
theorem tfree_bad (I O : Int) (w : World) (ps : List (ByteArray × Int)) (p : ByteArray × Int) (e : Int)
    (hc : ∀ w, Calls Tryd.prog 30 #[.int .i64 I, .int .i64 O] w (EPost (p :: ps) e w)) :
    Calls Tryd.prog 22 #[.int .i64 I, .int .i64 O] w (TEPost 0 0 [] (p :: ps) e w) := by
  have HC := Lib.hid hc
  clear hc
  go_enter Tryd.func22, Tryd.ntmps22
  go_wp2_with fail
  refine (HC.out _).mono ?_
  rintro e w' ⟨v, rfl, hF, hb⟩
  obtain ⟨b, rfl, hE⟩ := hF.iface
  have HE := Lib.hid hE
  have HB := Lib.hid hb
  have z0 : w'.cell? ⟨w.heap.size, 0, none⟩ = some (.int .i64 0) := (hb.cell (by simp)).trans (by simp)
  have z1 : w'.cell? ⟨w.heap.size, 1, none⟩ = some (.int .i64 0) := (hb.cell (by simp)).trans (by simp)
  have z2 : w'.cell? ⟨w.heap.size, 2, none⟩ = some (.slice none 0 0) := (hb.cell (by simp)).trans (by simp)
  have f0 : w'.frozen? ⟨w.heap.size, 0, none⟩ = false := (hb.frozen (by simp)).trans (by simp)
  have f1 : w'.frozen? ⟨w.heap.size, 1, none⟩ = false := (hb.frozen (by simp)).trans (by simp)
  have f2 : w'.frozen? ⟨w.heap.size, 2, none⟩ = false := (hb.frozen (by simp)).trans (by simp)
  clear hE hF hb HC
  go_wp2_with fail
  refine bodyPost_ret (v := .tuple #[.agg #[.int .i64 0, .int .i64 0, .slice none 0 0], .iface 61 (.pointer (some ⟨b, 0, none⟩))]) (by simp [results, Tryd.results22, go_sem]; go_simp) rfl ⟨_, _, rfl, tab_zero _, Or.inr ⟨by simp, HE.out.setTab z0 rfl⟩, ?_⟩
  exact (((((below_alloc1 _).trans (HB.out.mono (by simp))).setCell (Nat.le_refl _) _).setCell (Nat.le_refl _) _).setCell (Nat.le_refl _) _)
theorem tfree_in (I O : Int) (w : World) (h : I < 0 ∨ 16 < I) : Calls Tryd.prog 22 #[.int .i64 I, .int .i64 O] w (TEPost 0 0 [] [(turnB, 0)] 1 w) :=
  tfree_bad I O w [] (turnB, 0) 1 (fun w => counts_in I O w h)
theorem tfree_out (I O : Int) (w : World) (h0 : ¬ (I < 0 ∨ 16 < I)) (h : O < 0 ∨ 16 < O) : Calls Tryd.prog 22 #[.int .i64 I, .int .i64 O] w (TEPost 0 0 [] [(turnB, 1)] 1 w) :=
  tfree_bad I O w [] (turnB, 1) 1 (fun w => counts_out I O w h0 h)

end Go.Proofs.YtboimdgldjimpaaDoor
