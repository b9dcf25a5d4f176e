/-
  The document's own tables of turns: what each call does.
-/
import Derived.Test.YtboimdgldjimpaaDoorTabM
import Derived.Test.YtboimdgldjimpaaDoorWgt
import Derived.Test.YtboimdgldjimpaaDoorI64
import Derived.Test.YtboimdgldjimpaaDoorAtW
import Derived.Lib.Hide
import Derived.Deep.QuietTactic
import Derived.BigQuiet
import Derived.WalkSmall
namespace Go.Proofs.YtboimdgldjimpaaDoor
open Go.RowKit

set_option maxHeartbeats 1000000 in
theorem rturnat_out (I O : Int) (u : Value) (x y : Int) (w : World) (h : x < 0 ∨ I ≤ x ∨ y < 0 ∨ O ≤ y) :
    Calls Tryd.prog 18 #[.agg #[.int .i64 I, .int .i64 O, u], .int .i64 x, .int .i64 y] w fun e w' => e = .returned (.int .i64 1152921504606846976) ∧ Below w.heap.size w w' := by
  go_enter Tryd.func18, Tryd.ntmps18
  go_wp2
  all_goals
    go_ret
    exact ⟨rfl, (Below.refl _ _).alloc (Nat.le_refl _) _⟩

set_option maxHeartbeats 1000000 in
theorem rturnat_in (I O : Int) (u : Value) (l : List Int) (x y : Int) (w : World) (hs : 0 ≤ I ∧ I ≤ 16 ∧ 0 ≤ O ∧ O ≤ 16) (hn : (l.length : Int) = I * O) (hu : I64s w u l) (h : 0 ≤ x ∧ x < I ∧ 0 ≤ y ∧ y < O) :
    Calls Tryd.prog 18 #[.agg #[.int .i64 I, .int .i64 O, u], .int .i64 x, .int .i64 y] w fun e w' => e = .returned (.int .i64 (l.getD (x * O + y).toNat 0)) ∧ Below w.heap.size w w' := by
  obtain ⟨p0, p1⟩ := place_lt hn h
  obtain ⟨s0, s1⟩ := size_le hs
  rcases hu with ⟨rfl, _⟩ | ⟨hl, b, o, c, -, -, rfl, hc⟩
  · simp at p1; omega
  have hlt : (x * O + y).toNat < l.length := by omega
  have g := hc _ hlt
  have hb := World.block_lt_of_cell? w _ g
  clear hc
  have hI := hs.1
  obtain ⟨x0, x1, y0, y1⟩ := h
  go_enter Tryd.func18, Tryd.ntmps18
  go_wp2
  all_goals
    go_ret
    exact ⟨rfl, (Below.refl _ _).alloc (Nat.le_refl _) _⟩

/-- What the document's turn costs, of any in and out. -/
theorem rturnat_any (I O : Int) (u : Value) (l : List Int) (x y : Int) (w : World) (hs : 0 ≤ I ∧ I ≤ 16 ∧ 0 ≤ O ∧ O ≤ 16) (hn : (l.length : Int) = I * O) (hu : I64s w u l) :
    Calls Tryd.prog 18 #[.agg #[.int .i64 I, .int .i64 O, u], .int .i64 x, .int .i64 y] w fun e w' => e = .returned (.int .i64 (turnAt I O l x y)) ∧ Below w.heap.size w w' := by
  by_cases h : x < 0 ∨ I ≤ x ∨ y < 0 ∨ O ≤ y
  · exact (rturnat_out I O u x y w h).mono fun e w' ⟨h1, h2⟩ => ⟨by rw [h1]; unfold turnAt; rw [if_pos h], h2⟩
  · exact (rturnat_in I O u l x y w hs hn hu (by omega)).mono fun e w' ⟨h1, h2⟩ => ⟨by rw [h1]; unfold turnAt; rw [if_neg h], h2⟩

set_option maxHeartbeats 1000000 in
theorem rbans_any (I O : Int) (u : Value) (l : List Int) (w : World) (hu : I64s w u l) :
    Calls Tryd.prog 20 #[.agg #[.int .i64 I, .int .i64 O, u]] w fun e w' => e = .returned (.int .i64 (bansC l)) ∧ Below w.heap.size w w' := by
  rcases hu with ⟨rfl, p, c, rfl, -⟩ | ⟨hl, b, o, c, -, -, rfl, hc⟩
  · go_enter Tryd.func20, Tryd.ntmps20
    go_wp2
    refine wp_loop_rounds 1 ?_
    rw [rounds_succ]
    go_wp2
    go_ret
    exact ⟨rfl, (Below.refl _ _).alloc (Nat.le_refl _) _⟩
  have HC := Lib.hid hc
  clear hc
  go_enter Tryd.func20, Tryd.ntmps20
  go_wp2
  go_loop [3, 4] (fun s i => ∃ k : Nat, k ≤ l.length ∧ i = .int .i64 k ∧ s = .int .i64 (bansC (l.take k))) (fun _ i => l.length - (intOf i).toNat)
  case atStart => exact ⟨0, Nat.zero_le _, rfl, rfl⟩
  case round =>
    obtain ⟨k, hk, rfl, rfl⟩ := hrel
    have s0 := bansC_lo (l.take k)
    have s1 := bansC_hi (l.take k)
    have s2 := List.length_take (i := k) (l := l)
    by_cases hlt : k < l.length
    · have g := HC.out k hlt
      have hb := World.block_lt_of_cell? w _ g
      have HS : Hid (bansC (l.take (k + 1)) = bansC (l.take k) + (if l[k] = 1152921504606846976 then 1 else 0)) := by rw [take_snoc l k hlt]; exact bansC_snoc _ _
      by_cases he : l[k] = 1152921504606846976
      · have HT : Hid (bansC (l.take (k + 1)) = bansC (l.take k) + 1) := by have := HS.out; rw [if_pos he] at this; exact this
        go_wp2
        go_round
        case rel => exact ⟨k + 1, by omega, by go_num, by rw [HT.out]⟩
        case measure => simp [intOf]; omega
      · have HT : Hid (bansC (l.take (k + 1)) = bansC (l.take k)) := by have := HS.out; rw [if_neg he, Int.add_zero] at this; exact this
        go_wp2
        go_round
        case rel => exact ⟨k + 1, by omega, by go_num, by rw [HT.out]⟩
        case measure => simp [intOf]; omega
    · go_wp2
      go_ret
      exact ⟨ret_int (by rw [List.take_of_length_le (by omega)]), (Below.refl _ _).alloc (Nat.le_refl _) _⟩

/-! ### are two alike? -/
set_option maxHeartbeats 1000000 in
theorem samecosts_any (v u : Value) (l m : List Int) (w : World) (hv : I64s w v l) (hu : I64s w u m) :
    Calls Tryd.prog 34 #[v, u] w fun e w' => e = .returned (.bool (decide (l = m))) ∧ Below w.heap.size w w' := by
  by_cases hlen : l.length = m.length
  case neg =>
    have hne : Hid (decide (l = m) = false) := decide_eq_false (fun h => hlen (by rw [h]))
    obtain ⟨q, c, rfl⟩ := hv.shape
    obtain ⟨q', c', rfl⟩ := hu.shape
    clear hv hu
    have hlen' : ¬ (l.length : Int) = m.length := by omega
    go_enter Tryd.func34, Tryd.ntmps34
    go_wp2
    go_ret
    exact ⟨ret_bool hne.out.symm, Below.refl _ _⟩
  case pos =>
  rcases hv with ⟨rfl, p, c, rfl, -⟩ | ⟨hl, b, o, c, -, -, rfl, hc⟩
  · obtain ⟨q', c', rfl⟩ := hu.shape
    obtain rfl : m = [] := List.eq_nil_of_length_eq_zero (by simpa using hlen.symm)
    clear hu hlen
    go_enter Tryd.func34, Tryd.ntmps34
    go_wp2
    refine wp_loop_rounds 1 ?_
    rw [rounds_succ]
    go_wp2
    go_ret
    exact ⟨rfl, Below.refl _ _⟩
  rcases hu with ⟨rfl, p, c', rfl, -⟩ | ⟨hl', b', o', c', -, -, rfl, hc'⟩
  · obtain rfl : l = [] := List.eq_nil_of_length_eq_zero (by simpa using hlen)
    clear hc hlen
    go_enter Tryd.func34, Tryd.ntmps34
    go_wp2
    refine wp_loop_rounds 1 ?_
    rw [rounds_succ]
    go_wp2
    go_ret
    exact ⟨rfl, Below.refl _ _⟩
  have HC := Lib.hid hc
  have HC' := Lib.hid hc'
  have HL := Lib.hid hlen
  clear hc hc'
  have hz : (l.length : Int) = m.length := by omega
  rw [← hlen] at hl' ⊢
  clear hlen hz
  go_enter Tryd.func34, Tryd.ntmps34
  go_wp2
  go_loopw [5] (fun i wr => ∃ k : Nat, k ≤ l.length ∧ i = .int .i64 k ∧ Hid (l.take k = m.take k) ∧ Hid (Below w.heap.size w wr)) (fun i _ => l.length - (intOf i).toNat)
  case atStart => exact ⟨0, Nat.zero_le _, rfl, rfl, Below.refl _ _⟩
  case round =>
    obtain ⟨k, hk, rfl, HS, HB⟩ := hrel
    by_cases hlt : k < l.length
    · have hlt' : k < m.length := by rw [← HL.out]; exact hlt
      have g := (HB.out.cell (World.block_lt_of_cell? w _ (HC.out k hlt))).trans (HC.out k hlt)
      have g' := (HB.out.cell (World.block_lt_of_cell? w _ (HC'.out k hlt'))).trans (HC'.out k hlt')
      have hki : (k : Int) < l.length := by omega
      by_cases he : l[k] = m[k]
      · have HN : Hid (l.take (k + 1) = m.take (k + 1)) := by rw [take_snoc l k hlt, take_snoc m k hlt', HS.out, he]; exact rfl
        go_wp2
        go_quiet (fail)
        go_wp2
        go_roundw
        case rel => exact ⟨k + 1, by omega, by go_num, HN, below_drewN HB.out _⟩
        case measure => simp [intOf]; omega
      · have HN : Hid (decide (l = m) = false) := decide_eq_false (fun h => he (by subst h; rfl))
        go_wp2
        go_quiet (fail)
        go_wp2
        go_ret
        exact ⟨ret_bool HN.out.symm, below_drewN HB.out _⟩
    · have HN : Hid (decide (l = m) = true) := by
        have := HS.out
        rw [List.take_of_length_le (by omega), List.take_of_length_le (by rw [← HL.out]; omega)] at this
        exact decide_eq_true this
      go_wp2
      go_ret
      exact ⟨ret_bool HN.out.symm, HB.out⟩

/-! ### what is wrong first? -/
/-- What a call answers that tells a Wrong. -/
def WPost (ps : List (ByteArray × Int)) (e : Int) (w : World) (ev : Ending) (w' : World) : Prop :=
  ∃ wv, ev = .returned wv ∧ WrongV w' wv ps e ∧ Below w.heap.size w w'

/-- A Wrong of one part, which was laid last. -/
theorem wrong_last (W : World) (g : Nat) (hg : W.heap.size = g) (p : ByteArray) (n e : Int) : WrongV (W.alloc (.cells #[.string p, .int .i64 n] 67)) (.agg #[.slice (some ⟨g, 0, none⟩) 1 1, .int .i64 e]) [(p, n)] e := by
  subst hg
  refine ⟨_, rfl, Or.inr ⟨by simp, W.heap.size, 0, 1, rfl, fun i h => ?_, fun i h => ?_⟩⟩
  · obtain rfl : i = 0 := by simpa using h
    rw [World.cell?_alloc_at _ _ _ _ (by simp)]; rfl
  · obtain rfl : i = 0 := by simpa using h
    rw [World.cell?_alloc_at _ _ _ _ (by simp)]; rfl
theorem below_alloc2 {w : World} (a b : Obj) : Below w.heap.size w ((w.alloc a).alloc b) := ((Below.refl _ _).alloc (Nat.le_refl _) _).alloc (by simp) _
theorem below_alloc4 {w : World} (a b c d : Obj) : Below w.heap.size w ((((w.alloc a).alloc b).alloc c).alloc d) := ((((Below.refl _ _).alloc (Nat.le_refl _) _).alloc (by simp) _).alloc (by simp; omega) _).alloc (by simp; omega) _

set_option maxHeartbeats 1000000 in
theorem rcheck_ins (I O : Int) (u : Value) (w : World) (h : I < 0 ∨ 16 < I) :
    Calls Tryd.prog 9 #[.agg #[.int .i64 I, .int .i64 O, u]] w (WPost [(turnB, 0)] 1 w) := by
  go_enter Tryd.func9, Tryd.ntmps9
  go_wp2_with (go_at_call 27; refine (at_any turnB _ _ _).mono ?_; rintro e w' ⟨rfl, rfl⟩)
  all_goals
    refine bodyPost_ret (v := .agg #[.slice (some ⟨w.heap.size + 1 + 1 + 1, 0, none⟩) 1 1, .int .i64 1]) (by simp [results, Tryd.results9, go_sem]) rfl ⟨_, rfl, wrong_last _ _ (by simp) _ _ _, below_alloc4 _ _ _ _⟩

set_option maxHeartbeats 1000000 in
theorem rcheck_outs (I O : Int) (u : Value) (w : World) (h0 : ¬ (I < 0 ∨ 16 < I)) (h : O < 0 ∨ 16 < O) :
    Calls Tryd.prog 9 #[.agg #[.int .i64 I, .int .i64 O, u]] w (WPost [(turnB, 1)] 1 w) := by
  go_enter Tryd.func9, Tryd.ntmps9
  go_wp2_with (go_at_call 27; refine (at_any turnB _ _ _).mono ?_; rintro e w' ⟨rfl, rfl⟩)
  all_goals
    refine bodyPost_ret (v := .agg #[.slice (some ⟨w.heap.size + 1 + 1 + 1, 0, none⟩) 1 1, .int .i64 1]) (by simp [results, Tryd.results9, go_sem]) rfl ⟨_, rfl, wrong_last _ _ (by simp) _ _ _, below_alloc4 _ _ _ _⟩

set_option maxHeartbeats 1000000 in
theorem rcheck_size (I O : Int) (q : Option Addr) (n c : Nat) (w : World) (h0 : ¬ (I < 0 ∨ 16 < I)) (h1 : ¬ (O < 0 ∨ 16 < O)) (s : 0 ≤ I * O ∧ I * O ≤ 256) (h : ¬ (n : Int) = I * O) :
    Calls Tryd.prog 9 #[.agg #[.int .i64 I, .int .i64 O, .slice q n c]] w (WPost [(turnB, 2)] 9 w) := by
  obtain ⟨s0, s1⟩ := s
  go_enter Tryd.func9, Tryd.ntmps9
  go_wp2_with (go_at_call 27; refine (at_any turnB _ _ _).mono ?_; rintro e w' ⟨rfl, rfl⟩)
  all_goals
    refine bodyPost_ret (v := .agg #[.slice (some ⟨w.heap.size + 1 + 1 + 1, 0, none⟩) 1 1, .int .i64 9]) (by simp [results, Tryd.results9, go_sem]) rfl ⟨_, rfl, wrong_last _ _ (by simp) _ _ _, below_alloc4 _ _ _ _⟩

theorem badAt_off (k : Int) (l : List Int) (j : Nat) (hj : j < l.length) (h : (l.take j).all wgt = true) (ha : wgt l[j] = false) : badAt k l = (k + j, 8) := by
  have e : l = l.take j ++ l[j] :: l.drop (j + 1) := by rw [List.getElem_cons_drop, List.take_append_drop]
  rw [e, badAt_at k _ _ _ h ha, List.length_take]
  congr 1
  omega
theorem all_snoc (l : List Int) (j : Nat) (hj : j < l.length) (h : (l.take j).all wgt = true) (ha : wgt l[j] = true) : (l.take (j + 1)).all wgt = true := by
  rw [take_snoc l j hj, List.all_append, h, List.all_cons, ha]; rfl

set_option maxHeartbeats 1000000 in
theorem rcheck_row (I O : Int) (u : Value) (l : List Int) (w : World) (h0 : ¬ (I < 0 ∨ 16 < I)) (h1 : ¬ (O < 0 ∨ 16 < O)) (s : 0 ≤ I * O ∧ I * O ≤ 256) (h : (l.length : Int) = I * O) (hu : I64s w u l) (hin : In64 l) :
    Calls Tryd.prog 9 #[.agg #[.int .i64 I, .int .i64 O, u]] w (WPost (turnW (badAt 3 l)) (badAt 3 l).2 w) := by
  obtain ⟨s0, s1⟩ := s
  rcases hu with ⟨rfl, p, c, rfl, -⟩ | ⟨hl, b, o, c, -, -, rfl, hc⟩
  · have h' : I * O = 0 := by simpa using h.symm
    clear h hin
    go_enter Tryd.func9, Tryd.ntmps9
    go_wp2
    refine wp_loop_rounds 1 ?_
    rw [rounds_succ]
    go_wp2
    exact bodyPost_ret (v := .agg #[.slice none 0 0, .int .i64 0]) (by simp [results, Tryd.results9, go_sem]) rfl ⟨_, rfl, ⟨_, rfl, Or.inl ⟨rfl, rfl⟩⟩, below_alloc2 _ _⟩
  have HC := Lib.hid hc
  clear hc
  go_enter Tryd.func9, Tryd.ntmps9
  go_wp2
  go_loop [3] (fun i => ∃ k : Nat, k ≤ l.length ∧ i = .int .i64 k ∧ Hid ((l.take k).all wgt = true)) (fun i => l.length - (intOf i).toNat)
  case atStart => exact ⟨0, Nat.zero_le _, rfl, Lib.hid (by rw [List.take_zero]; exact rfl)⟩
  case round =>
    obtain ⟨k, hk, rfl, HS⟩ := hrel
    by_cases hlt : k < l.length
    · have g := HC.out k hlt
      have hb := World.block_lt_of_cell? w _ g
      obtain ⟨x0, x1⟩ := hin _ (List.getElem_mem hlt)
      by_cases hw : wgt l[k] = true
      · have HN := Lib.hid (all_snoc l k hlt HS.out hw)
        go_wp2_with (go_at_call 26; refine (rweight_any _ _ (by omega) (by omega)).mono ?_; rintro e w' ⟨rfl, rfl⟩)
        go_round
        case rel => exact ⟨k + 1, by omega, by go_num, HN⟩
        case measure => simp [intOf]; omega
      · have hw' : wgt l[k] = false := by simpa using hw
        have HN := Lib.hid (badAt_off 3 l k hlt HS.out hw')
        clear hw
        go_wp2_with (first | (go_at_call 26; refine (rweight_any _ _ (by omega) (by omega)).mono ?_; rintro e w' ⟨rfl, rfl⟩) | (go_at_call 27; refine (at_any turnB _ _ _).mono ?_; rintro e w' ⟨rfl, rfl⟩))
        refine bodyPost_ret (v := .agg #[.slice (some ⟨w.heap.size + 1 + 1 + 1, 0, none⟩) 1 1, .int .i64 8]) (by simp [results, Tryd.results9, go_sem]) rfl ⟨_, rfl, ?_, below_alloc4 _ _ _ _⟩
        rw [HN.out]
        exact wrong_last _ _ (by simp) _ _ _
    · have HN : Hid (badAt 3 l = (0, 0)) := by
        have := HS.out
        rw [List.take_of_length_le (by omega)] at this
        exact badAt_ok 3 l this
      go_wp2
      refine bodyPost_ret (v := .agg #[.slice none 0 0, .int .i64 0]) (by simp [results, Tryd.results9, go_sem]) rfl ⟨_, rfl, ?_, below_alloc2 _ _⟩
      rw [HN.out]
      exact ⟨_, rfl, Or.inl ⟨rfl, rfl⟩⟩

/-- What the document's Check tells of any table. -/
theorem rcheck_any (I O : Int) (u : Value) (l : List Int) (w : World) (hu : I64s w u l) (hin : In64 l) :
    Calls Tryd.prog 9 #[.agg #[.int .i64 I, .int .i64 O, u]] w (WPost (turnW (chkT I O l)) (chkT I O l).2 w) := by
  unfold chkT
  by_cases h0 : I < 0 ∨ 16 < I
  · rw [if_pos h0]; exact rcheck_ins I O u w h0
  rw [if_neg h0]
  by_cases h1 : O < 0 ∨ 16 < O
  · rw [if_pos h1]; exact rcheck_outs I O u w h0 h1
  rw [if_neg h1]
  have s := size_le (I := I) (O := O) ⟨by omega, by omega, by omega, by omega⟩
  by_cases h : (l.length : Int) = I * O
  · rw [if_neg (by simpa using h)]; exact rcheck_row I O u l w h0 h1 s h hu hin
  · obtain ⟨q, c, rfl⟩ := hu.shape
    rw [if_pos h]; exact rcheck_size I O q l.length c w h0 h1 s h

/-! ### are two tables alike? -/
set_option maxHeartbeats 1000000 in
theorem rsame_any (I O I' O' : Int) (v u : Value) (l m : List Int) (w : World) (hv : I64s w v l) (hu : I64s w u m) :
    Calls Tryd.prog 14 #[.agg #[.int .i64 I, .int .i64 O, v], .agg #[.int .i64 I', .int .i64 O', u]] w fun e w' => e = .returned (.bool (decide (I = I' ∧ O = O' ∧ l = m))) ∧ Below w.heap.size w w' := by
  have hv2 := hv.below (below_alloc2 (.cells #[.int .i64 I, .int .i64 O, v] 24) (.cells #[.int .i64 I', .int .i64 O', u] 24))
  have hu2 := hu.below (below_alloc2 (.cells #[.int .i64 I, .int .i64 O, v] 24) (.cells #[.int .i64 I', .int .i64 O', u] 24))
  obtain ⟨q, c, rfl⟩ := hv.shape
  obtain ⟨q', c', rfl⟩ := hu.shape
  have HV := Lib.hid hv2
  have HU := Lib.hid hu2
  clear hv hu hv2 hu2
  by_cases hI : I = I'
  case neg =>
    have hne : Hid (decide (I = I' ∧ O = O' ∧ l = m) = false) := decide_eq_false (fun h => hI h.1)
    have hI' : decide (I = I') = false := decide_eq_false hI
    go_enter Tryd.func14, Tryd.ntmps14
    go_wp2_with fail
    go_ret
    refine ⟨?_, below_alloc2 _ _⟩
    first | rfl | exact ret_bool hne.out.symm
  by_cases hO : O = O'
  case neg =>
    have hne : Hid (decide (I = I' ∧ O = O' ∧ l = m) = false) := decide_eq_false (fun h => hO h.2.1)
    have hO' : decide (O = O') = false := decide_eq_false hO
    subst hI
    go_enter Tryd.func14, Tryd.ntmps14
    go_wp2_with fail
    go_ret
    refine ⟨?_, below_alloc2 _ _⟩
    first | rfl | exact ret_bool hne.out.symm
  subst hI
  subst hO
  have heq : Hid (decide (I = I ∧ O = O ∧ l = m) = decide (l = m)) := by apply Lib.hid; simp
  go_enter Tryd.func14, Tryd.ntmps14
  go_wp2_with fail
  refine (samecosts_any _ _ l m _ HV.out HU.out).mono ?_
  rintro e w' ⟨rfl, hb⟩
  have HB := Lib.hid hb
  clear hb
  go_wp2_with fail
  go_ret
  exact ⟨ret_bool heq.out.symm, (below_alloc2 _ _).trans (HB.out.mono (by simp; omega))⟩

end Go.Proofs.YtboimdgldjimpaaDoor
