/-
  What may be a weight: the program's word and the document's.
-/
import Derived.Test.YtgihaakgadmidaaGreatProg
import Derived.Test.YtgihaakgadmidaaGreatA1
import Derived.WalkKit
import Derived.WalkSpells
import Derived.WalkLawsBesides
import Derived.Lib.Hide
import Derived.Deep.QuietTactic
import Derived.BigQuiet
import Derived.WalkSmall
import Derived.Deep.RegionHeld3
import Derived.Test.YtgihaakgadmidaaGreatCarry
import Derived.RegionTactic
import Derived.Test.YtgihaakgadmidaaGreatRows
import Derived.Deep.RegionLaw
namespace Go.Proofs.YtgihaakgadmidaaGreat
open Go.RowKit

set_option maxHeartbeats 400000 in
theorem weight_any (a : Int) (w : World) (h0 : -9223372036854775808 ≤ a) (h1 : a ≤ 9223372036854775807) :
    Calls Tryz.prog 99 #[.int .i64 a] w fun e w' => e = .returned (.bool (wgt a)) ∧ w = w' := by
  go_enter Tryz.func99, Tryz.ntmps99
  go_wp2
  all_goals
    go_ret
    refine ⟨ret_bool ?_, rfl⟩
    rw [Bool.eq_iff_iff]
    simp [wgt]
    try omega

set_option maxHeartbeats 400000 in
theorem rweight_any (a : Int) (w : World) (h0 : -9223372036854775808 ≤ a) (h1 : a ≤ 9223372036854775807) :
    Calls Tryz.prog 77 #[.int .i64 a] w fun e w' => e = .returned (.bool (wgt a)) ∧ w = w' := by
  go_enter Tryz.func77, Tryz.ntmps77
  go_wp2
  all_goals
    go_ret
    refine ⟨ret_bool ?_, rfl⟩
    rw [Bool.eq_iff_iff]
    simp [wgt]
    try omega

end Go.Proofs.YtgihaakgadmidaaGreat

/-
  Errors as they lie in memory: Faults round an Errno; and the document's own word of them.
-/
namespace Go.Proofs.YtgihaakgadmidaaGreat
open Go.RowKit

/-- v is an error: Faults, the outermost first, by their parts and numbers, and the Errno e within. -/
def ErrV (w : World) : Value → List (ByteArray × Int) → Int → Prop
  | v, [], e => v = .iface 144 (.int .i64 e)
  | v, (p, n) :: r, e => ∃ (b : Nat) (u : Value), v = .iface 156 (.pointer (some ⟨b, 0, none⟩)) ∧ w.cell? ⟨b, 0, none⟩ = some (.string p) ∧ w.cell? ⟨b, 1, none⟩ = some (.int .i64 n) ∧ w.cell? ⟨b, 2, none⟩ = some u ∧ ErrV w u r e
theorem ErrV.below {w w' : World} (hb : Below w.heap.size w w') : ∀ {v : Value} {ps : List (ByteArray × Int)} {e : Int}, ErrV w v ps e → ErrV w' v ps e
  | _, [], _, h => h
  | _, _ :: _, _, ⟨b, u, h0, h1, h2, h3, h4⟩ => by
    have l1 := World.block_lt_of_cell? w _ h1
    have l2 := World.block_lt_of_cell? w _ h2
    have l3 := World.block_lt_of_cell? w _ h3
    exact ⟨b, u, h0, (hb.cell l1).trans h1, (hb.cell l2).trans h2, (hb.cell l3).trans h3, ErrV.below hb h4⟩

/-- v is a Wrong, by its parts and Errno: the row of parts lies in memory. -/
def WrongV (w : World) (v : Value) (ps : List (ByteArray × Int)) (e : Int) : Prop :=
  ∃ sv, v = .agg #[sv, .int .i64 e] ∧ ((ps = [] ∧ sv = .slice none 0 0) ∨
    (ps.length ≤ 9223372036854775807 ∧ ∃ b o c, sv = .slice (some ⟨b, o, none⟩) ps.length c ∧ (∀ i (h : i < ps.length), w.cell? ⟨b, o + i * 2, none⟩ = some (.string ps[i].1)) ∧ (∀ i (h : i < ps.length), w.cell? ⟨b, o + i * 2 + 1, none⟩ = some (.int .i64 ps[i].2))))
theorem WrongV.below {w w' : World} (hb : Below w.heap.size w w') {v : Value} {ps : List (ByteArray × Int)} {e : Int} (h : WrongV w v ps e) : WrongV w' v ps e := by
  obtain ⟨sv, h0, h1⟩ := h
  refine ⟨sv, h0, ?_⟩
  rcases h1 with h1 | ⟨hl, b, o, c, h1, h2, h3⟩
  · exact Or.inl h1
  · refine Or.inr ⟨hl, b, o, c, h1, fun i h => ?_, fun i h => ?_⟩
    · exact (hb.cell (World.block_lt_of_cell? w _ (h2 i h))).trans (h2 i h)
    · exact (hb.cell (World.block_lt_of_cell? w _ (h3 i h))).trans (h3 i h)
/-- A Wrong's own shape: a slice, nil or not, and a number. -/
theorem WrongV.shape {w : World} {v : Value} {ps : List (ByteArray × Int)} {e : Int} (h : WrongV w v ps e) : ∃ (p : Option Addr) (n c : Nat), v = .agg #[.slice p n c, .int .i64 e] := by
  obtain ⟨sv, rfl, ⟨_, rfl⟩ | ⟨_, b, o, c, rfl, _⟩⟩ := h
  · exact ⟨none, 0, 0, rfl⟩
  · exact ⟨_, _, _, rfl⟩

end Go.Proofs.YtgihaakgadmidaaGreat

/-
  The document's own At: a Wrong of one part.
-/
namespace Go.Proofs.YtgihaakgadmidaaGreat
open Go.RowKit

/-- The world behind the document's own At: a Wrong's two cells, and its one part. -/
def atWorld (p : ByteArray) (n e : Int) (w : World) : World := (w.alloc (.cells #[.slice (some ⟨w.heap.size + 1, 0, none⟩) 1 1, .int .i64 e] 91)).alloc (.cells #[.string p, .int .i64 n] 142)
theorem atWorld_below (p : ByteArray) (n e : Int) (w : World) : Below w.heap.size w (atWorld p n e w) := ((Below.refl _ _).alloc (Nat.le_refl _) _).alloc (by simp) _
theorem atWorld_wrong (p : ByteArray) (n e : Int) (w : World) : WrongV (atWorld p n e w) (.agg #[.slice (some ⟨w.heap.size + 1, 0, none⟩) 1 1, .int .i64 e]) [(p, n)] e := by
  refine ⟨_, rfl, Or.inr ⟨by simp, w.heap.size + 1, 0, 1, rfl, fun i h => ?_, fun i h => ?_⟩⟩
  · obtain rfl : i = 0 := by simpa using h
    simp [atWorld]
  · obtain rfl : i = 0 := by simpa using h
    simp [atWorld]
theorem at_any (p : ByteArray) (n e : Int) (w : World) :
    Calls Tryz.prog 73 #[.string p, .int .i64 n, .int .i64 e] w fun ev w' => ev = .returned (.agg #[.slice (some ⟨w.heap.size + 1, 0, none⟩) 1 1, .int .i64 e]) ∧ w' = (w.alloc (.cells #[.slice (some ⟨w.heap.size + 1, 0, none⟩) 1 1, .int .i64 e] 91)).alloc (.cells #[.string p, .int .i64 n] 142) := by
  go_enter Tryz.func73, Tryz.ntmps73
  go_wp2
  exact bodyPost_ret (v := .agg #[.slice (some ⟨w.heap.size + 1, 0, none⟩) 1 1, .int .i64 e]) (by simp [results, Tryz.results73, go_sem]) rfl ⟨rfl, rfl⟩

end Go.Proofs.YtgihaakgadmidaaGreat

/-
  The document's own tables of turns: what each call does.
-/
namespace Go.Proofs.YtgihaakgadmidaaGreat
open Go.RowKit

set_option maxHeartbeats 1000000 in
theorem rturnat_out (I O : Int) (u : Value) (x y : Int) (w : World) (h : x < 0 ∨ I ≤ x ∨ y < 0 ∨ O ≤ y) :
    Calls Tryz.prog 26 #[.agg #[.int .i64 I, .int .i64 O, u], .int .i64 x, .int .i64 y] w fun e w' => e = .returned (.int .i64 1152921504606846976) ∧ Below w.heap.size w w' := by
  go_enter Tryz.func26, Tryz.ntmps26
  go_wp2
  all_goals
    go_ret
    exact ⟨rfl, (Below.refl _ _).alloc (Nat.le_refl _) _⟩

set_option maxHeartbeats 1000000 in
theorem rturnat_in (I O : Int) (u : Value) (l : List Int) (x y : Int) (w : World) (hs : 0 ≤ I ∧ I ≤ 16 ∧ 0 ≤ O ∧ O ≤ 16) (hn : (l.length : Int) = I * O) (hu : I64s w u l) (h : 0 ≤ x ∧ x < I ∧ 0 ≤ y ∧ y < O) :
    Calls Tryz.prog 26 #[.agg #[.int .i64 I, .int .i64 O, u], .int .i64 x, .int .i64 y] w fun e w' => e = .returned (.int .i64 (l.getD (x * O + y).toNat 0)) ∧ Below w.heap.size w w' := by
  obtain ⟨p0, p1⟩ := place_lt hn h
  obtain ⟨s0, s1⟩ := size_le hs
  rcases hu with ⟨rfl, _⟩ | ⟨hl, b, o, c, -, -, rfl, hc⟩
  · simp at p1; omega
  have hlt : (x * O + y).toNat < l.length := by omega
  have g := hc _ hlt
  have hb := World.block_lt_of_cell? w _ g
  clear hc
  have hI := hs.1
  obtain ⟨x0, x1, y0, y1⟩ := h
  go_enter Tryz.func26, Tryz.ntmps26
  go_wp2
  all_goals
    go_ret
    exact ⟨rfl, (Below.refl _ _).alloc (Nat.le_refl _) _⟩

/-- What the document's turn costs, of any in and out. -/
theorem rturnat_any (I O : Int) (u : Value) (l : List Int) (x y : Int) (w : World) (hs : 0 ≤ I ∧ I ≤ 16 ∧ 0 ≤ O ∧ O ≤ 16) (hn : (l.length : Int) = I * O) (hu : I64s w u l) :
    Calls Tryz.prog 26 #[.agg #[.int .i64 I, .int .i64 O, u], .int .i64 x, .int .i64 y] w fun e w' => e = .returned (.int .i64 (turnAt I O l x y)) ∧ Below w.heap.size w w' := by
  by_cases h : x < 0 ∨ I ≤ x ∨ y < 0 ∨ O ≤ y
  · exact (rturnat_out I O u x y w h).mono fun e w' ⟨h1, h2⟩ => ⟨by rw [h1]; unfold turnAt; rw [if_pos h], h2⟩
  · exact (rturnat_in I O u l x y w hs hn hu (by omega)).mono fun e w' ⟨h1, h2⟩ => ⟨by rw [h1]; unfold turnAt; rw [if_neg h], h2⟩

/-! ### are two alike? -/
set_option maxHeartbeats 1000000 in
theorem samecosts_any (v u : Value) (l m : List Int) (w : World) (hv : I64s w v l) (hu : I64s w u m) :
    Calls Tryz.prog 11 #[v, u] w fun e w' => e = .returned (.bool (decide (l = m))) ∧ Below w.heap.size w w' := by
  by_cases hlen : l.length = m.length
  case neg =>
    have hne : Hid (decide (l = m) = false) := decide_eq_false (fun h => hlen (by rw [h]))
    obtain ⟨q, c, rfl⟩ := hv.shape
    obtain ⟨q', c', rfl⟩ := hu.shape
    clear hv hu
    have hlen' : ¬ (l.length : Int) = m.length := by omega
    go_enter Tryz.func11, Tryz.ntmps11
    go_wp2
    go_ret
    exact ⟨ret_bool hne.out.symm, Below.refl _ _⟩
  case pos =>
  rcases hv with ⟨rfl, p, c, rfl, -⟩ | ⟨hl, b, o, c, -, -, rfl, hc⟩
  · obtain ⟨q', c', rfl⟩ := hu.shape
    obtain rfl : m = [] := List.eq_nil_of_length_eq_zero (by simpa using hlen.symm)
    clear hu hlen
    go_enter Tryz.func11, Tryz.ntmps11
    go_wp2
    refine wp_loop_rounds 1 ?_
    rw [rounds_succ]
    go_wp2
    go_ret
    exact ⟨rfl, Below.refl _ _⟩
  rcases hu with ⟨rfl, p, c', rfl, -⟩ | ⟨hl', b', o', c', -, -, rfl, hc'⟩
  · obtain rfl : l = [] := List.eq_nil_of_length_eq_zero (by simpa using hlen)
    clear hc hlen
    go_enter Tryz.func11, Tryz.ntmps11
    go_wp2
    refine wp_loop_rounds 1 ?_
    rw [rounds_succ]
    go_wp2
    go_ret
    exact ⟨rfl, Below.refl _ _⟩
  have HC := Lib.hid hc
  have HC' := Lib.hid hc'
  have HL := Lib.hid hlen
  clear hc hc'
  have hz : (l.length : Int) = m.length := by omega
  rw [← hlen] at hl' ⊢
  clear hlen hz
  go_enter Tryz.func11, Tryz.ntmps11
  go_wp2
  go_loopw [5] (fun i wr => ∃ k : Nat, k ≤ l.length ∧ i = .int .i64 k ∧ Hid (l.take k = m.take k) ∧ Hid (Below w.heap.size w wr)) (fun i _ => l.length - (intOf i).toNat)
  case atStart => exact ⟨0, Nat.zero_le _, rfl, rfl, Below.refl _ _⟩
  case round =>
    obtain ⟨k, hk, rfl, HS, HB⟩ := hrel
    by_cases hlt : k < l.length
    · have hlt' : k < m.length := by rw [← HL.out]; exact hlt
      have g := (HB.out.cell (World.block_lt_of_cell? w _ (HC.out k hlt))).trans (HC.out k hlt)
      have g' := (HB.out.cell (World.block_lt_of_cell? w _ (HC'.out k hlt'))).trans (HC'.out k hlt')
      have hki : (k : Int) < l.length := by omega
      by_cases he : l[k] = m[k]
      · have HN : Hid (l.take (k + 1) = m.take (k + 1)) := by rw [take_snoc l k hlt, take_snoc m k hlt', HS.out, he]; exact rfl
        go_wp2
        go_quiet (fail)
        go_wp2
        go_roundw
        case rel => exact ⟨k + 1, by omega, by go_num, HN, below_drewN HB.out _⟩
        case measure => simp [intOf]; omega
      · have HN : Hid (decide (l = m) = false) := decide_eq_false (fun h => he (by subst h; rfl))
        go_wp2
        go_quiet (fail)
        go_wp2
        go_ret
        exact ⟨ret_bool HN.out.symm, below_drewN HB.out _⟩
    · have HN : Hid (decide (l = m) = true) := by
        have := HS.out
        rw [List.take_of_length_le (by omega), List.take_of_length_le (by rw [← HL.out]; omega)] at this
        exact decide_eq_true this
      go_wp2
      go_ret
      exact ⟨ret_bool HN.out.symm, HB.out⟩

/-! ### what is wrong first? -/
/-- What a call answers that tells a Wrong. -/
def WPost (ps : List (ByteArray × Int)) (e : Int) (w : World) (ev : Ending) (w' : World) : Prop :=
  ∃ wv, ev = .returned wv ∧ WrongV w' wv ps e ∧ Below w.heap.size w w'

/-- A Wrong of one part, which was laid last. -/
theorem wrong_last (W : World) (g : Nat) (hg : W.heap.size = g) (p : ByteArray) (n e : Int) : WrongV (W.alloc (.cells #[.string p, .int .i64 n] 142)) (.agg #[.slice (some ⟨g, 0, none⟩) 1 1, .int .i64 e]) [(p, n)] e := by
  subst hg
  refine ⟨_, rfl, Or.inr ⟨by simp, W.heap.size, 0, 1, rfl, fun i h => ?_, fun i h => ?_⟩⟩
  · obtain rfl : i = 0 := by simpa using h
    rw [World.cell?_alloc_at _ _ _ _ (by simp)]; rfl
  · obtain rfl : i = 0 := by simpa using h
    rw [World.cell?_alloc_at _ _ _ _ (by simp)]; rfl
theorem below_alloc2 {w : World} (a b : Obj) : Below w.heap.size w ((w.alloc a).alloc b) := ((Below.refl _ _).alloc (Nat.le_refl _) _).alloc (by simp) _
theorem below_alloc4 {w : World} (a b c d : Obj) : Below w.heap.size w ((((w.alloc a).alloc b).alloc c).alloc d) := ((((Below.refl _ _).alloc (Nat.le_refl _) _).alloc (by simp) _).alloc (by simp; omega) _).alloc (by simp; omega) _

set_option maxHeartbeats 1000000 in
theorem rcheck_ins (I O : Int) (u : Value) (w : World) (h : I < 0 ∨ 16 < I) :
    Calls Tryz.prog 74 #[.agg #[.int .i64 I, .int .i64 O, u]] w (WPost [(turnB, 0)] 1 w) := by
  go_enter Tryz.func74, Tryz.ntmps74
  go_wp2_with (go_at_call 73; refine (at_any turnB _ _ _).mono ?_; rintro e w' ⟨rfl, rfl⟩)
  all_goals
    refine bodyPost_ret (v := .agg #[.slice (some ⟨w.heap.size + 1 + 1 + 1, 0, none⟩) 1 1, .int .i64 1]) (by simp [results, Tryz.results74, go_sem]) rfl ⟨_, rfl, wrong_last _ _ (by simp) _ _ _, below_alloc4 _ _ _ _⟩

set_option maxHeartbeats 1000000 in
theorem rcheck_outs (I O : Int) (u : Value) (w : World) (h0 : ¬ (I < 0 ∨ 16 < I)) (h : O < 0 ∨ 16 < O) :
    Calls Tryz.prog 74 #[.agg #[.int .i64 I, .int .i64 O, u]] w (WPost [(turnB, 1)] 1 w) := by
  go_enter Tryz.func74, Tryz.ntmps74
  go_wp2_with (go_at_call 73; refine (at_any turnB _ _ _).mono ?_; rintro e w' ⟨rfl, rfl⟩)
  all_goals
    refine bodyPost_ret (v := .agg #[.slice (some ⟨w.heap.size + 1 + 1 + 1, 0, none⟩) 1 1, .int .i64 1]) (by simp [results, Tryz.results74, go_sem]) rfl ⟨_, rfl, wrong_last _ _ (by simp) _ _ _, below_alloc4 _ _ _ _⟩

set_option maxHeartbeats 1000000 in
theorem rcheck_size (I O : Int) (q : Option Addr) (n c : Nat) (w : World) (h0 : ¬ (I < 0 ∨ 16 < I)) (h1 : ¬ (O < 0 ∨ 16 < O)) (s : 0 ≤ I * O ∧ I * O ≤ 256) (h : ¬ (n : Int) = I * O) :
    Calls Tryz.prog 74 #[.agg #[.int .i64 I, .int .i64 O, .slice q n c]] w (WPost [(turnB, 2)] 9 w) := by
  obtain ⟨s0, s1⟩ := s
  go_enter Tryz.func74, Tryz.ntmps74
  go_wp2_with (go_at_call 73; refine (at_any turnB _ _ _).mono ?_; rintro e w' ⟨rfl, rfl⟩)
  all_goals
    refine bodyPost_ret (v := .agg #[.slice (some ⟨w.heap.size + 1 + 1 + 1, 0, none⟩) 1 1, .int .i64 9]) (by simp [results, Tryz.results74, go_sem]) rfl ⟨_, rfl, wrong_last _ _ (by simp) _ _ _, below_alloc4 _ _ _ _⟩

theorem badAt_off (k : Int) (l : List Int) (j : Nat) (hj : j < l.length) (h : (l.take j).all wgt = true) (ha : wgt l[j] = false) : badAt k l = (k + j, 8) := by
  have e : l = l.take j ++ l[j] :: l.drop (j + 1) := by rw [List.getElem_cons_drop, List.take_append_drop]
  rw [e, badAt_at k _ _ _ h ha, List.length_take]
  congr 1
  omega
theorem all_snoc (l : List Int) (j : Nat) (hj : j < l.length) (h : (l.take j).all wgt = true) (ha : wgt l[j] = true) : (l.take (j + 1)).all wgt = true := by
  rw [take_snoc l j hj, List.all_append, h, List.all_cons, ha]; rfl

set_option maxHeartbeats 1000000 in
theorem rcheck_row (I O : Int) (u : Value) (l : List Int) (w : World) (h0 : ¬ (I < 0 ∨ 16 < I)) (h1 : ¬ (O < 0 ∨ 16 < O)) (s : 0 ≤ I * O ∧ I * O ≤ 256) (h : (l.length : Int) = I * O) (hu : I64s w u l) (hin : In64 l) :
    Calls Tryz.prog 74 #[.agg #[.int .i64 I, .int .i64 O, u]] w (WPost (turnW (badAt 3 l)) (badAt 3 l).2 w) := by
  obtain ⟨s0, s1⟩ := s
  rcases hu with ⟨rfl, p, c, rfl, -⟩ | ⟨hl, b, o, c, -, -, rfl, hc⟩
  · have h' : I * O = 0 := by simpa using h.symm
    clear h hin
    go_enter Tryz.func74, Tryz.ntmps74
    go_wp2
    refine wp_loop_rounds 1 ?_
    rw [rounds_succ]
    go_wp2
    exact bodyPost_ret (v := .agg #[.slice none 0 0, .int .i64 0]) (by simp [results, Tryz.results74, go_sem]) rfl ⟨_, rfl, ⟨_, rfl, Or.inl ⟨rfl, rfl⟩⟩, below_alloc2 _ _⟩
  have HC := Lib.hid hc
  clear hc
  go_enter Tryz.func74, Tryz.ntmps74
  go_wp2
  go_loop [3] (fun i => ∃ k : Nat, k ≤ l.length ∧ i = .int .i64 k ∧ Hid ((l.take k).all wgt = true)) (fun i => l.length - (intOf i).toNat)
  case atStart => exact ⟨0, Nat.zero_le _, rfl, Lib.hid (by rw [List.take_zero]; exact rfl)⟩
  case round =>
    obtain ⟨k, hk, rfl, HS⟩ := hrel
    by_cases hlt : k < l.length
    · have g := HC.out k hlt
      have hb := World.block_lt_of_cell? w _ g
      obtain ⟨x0, x1⟩ := hin _ (List.getElem_mem hlt)
      by_cases hw : wgt l[k] = true
      · have HN := Lib.hid (all_snoc l k hlt HS.out hw)
        go_wp2_with (go_at_call 77; refine (rweight_any _ _ (by omega) (by omega)).mono ?_; rintro e w' ⟨rfl, rfl⟩)
        go_round
        case rel => exact ⟨k + 1, by omega, by go_num, HN⟩
        case measure => simp [intOf]; omega
      · have hw' : wgt l[k] = false := by simpa using hw
        have HN := Lib.hid (badAt_off 3 l k hlt HS.out hw')
        clear hw
        go_wp2_with (first | (go_at_call 77; refine (rweight_any _ _ (by omega) (by omega)).mono ?_; rintro e w' ⟨rfl, rfl⟩) | (go_at_call 73; refine (at_any turnB _ _ _).mono ?_; rintro e w' ⟨rfl, rfl⟩))
        refine bodyPost_ret (v := .agg #[.slice (some ⟨w.heap.size + 1 + 1 + 1, 0, none⟩) 1 1, .int .i64 8]) (by simp [results, Tryz.results74, go_sem]) rfl ⟨_, rfl, ?_, below_alloc4 _ _ _ _⟩
        rw [HN.out]
        exact wrong_last _ _ (by simp) _ _ _
    · have HN : Hid (badAt 3 l = (0, 0)) := by
        have := HS.out
        rw [List.take_of_length_le (by omega)] at this
        exact badAt_ok 3 l this
      go_wp2
      refine bodyPost_ret (v := .agg #[.slice none 0 0, .int .i64 0]) (by simp [results, Tryz.results74, go_sem]) rfl ⟨_, rfl, ?_, below_alloc2 _ _⟩
      rw [HN.out]
      exact ⟨_, rfl, Or.inl ⟨rfl, rfl⟩⟩

/-- What the document's Check tells of any table. -/
theorem rcheck_any (I O : Int) (u : Value) (l : List Int) (w : World) (hu : I64s w u l) (hin : In64 l) :
    Calls Tryz.prog 74 #[.agg #[.int .i64 I, .int .i64 O, u]] w (WPost (turnW (chkT I O l)) (chkT I O l).2 w) := by
  unfold chkT
  by_cases h0 : I < 0 ∨ 16 < I
  · rw [if_pos h0]; exact rcheck_ins I O u w h0
  rw [if_neg h0]
  by_cases h1 : O < 0 ∨ 16 < O
  · rw [if_pos h1]; exact rcheck_outs I O u w h0 h1
  rw [if_neg h1]
  have s := size_le (I := I) (O := O) ⟨by omega, by omega, by omega, by omega⟩
  by_cases h : (l.length : Int) = I * O
  · rw [if_neg (by simpa using h)]; exact rcheck_row I O u l w h0 h1 s h hu hin
  · obtain ⟨q, c, rfl⟩ := hu.shape
    rw [if_pos h]; exact rcheck_size I O q l.length c w h0 h1 s h

/-! ### are two tables alike? -/
end Go.Proofs.YtgihaakgadmidaaGreat

/-
  The document's own tables of turns: one that is turned into another.
-/
namespace Go.Proofs.YtgihaakgadmidaaGreat
open Go.RowKit

/-- v is a table: so many ins and outs, and what each turn costs. -/
def TabV (w : World) (v : Value) (I O : Int) (l : List Int) : Prop := ∃ u, v = .agg #[.int .i64 I, .int .i64 O, u] ∧ I64s w u l
end Go.Proofs.YtgihaakgadmidaaGreat

/-
  The program's own tables of turns: its small functions, and what Check tells.
-/
namespace Go.Proofs.YtgihaakgadmidaaGreat
open Go.RowKit

/-- An error: none, or Faults round an Errno. -/
def FaultV (w : World) (v : Value) (ps : List (ByteArray × Int)) (e : Int) : Prop := (ps = [] ∧ v = .nilIface) ∨ (ps ≠ [] ∧ ErrV w v ps e)
theorem FaultV.below {w w' : World} (hb : Below w.heap.size w w') {v : Value} {ps : List (ByteArray × Int)} {e : Int} (h : FaultV w v ps e) : FaultV w' v ps e :=
  h.imp id (fun h => ⟨h.1, h.2.below hb⟩)
/-- What a call answers that tells an error. -/
def EPost (ps : List (ByteArray × Int)) (e : Int) (w : World) (ev : Ending) (w' : World) : Prop := ∃ v, ev = .returned v ∧ FaultV w' v ps e ∧ Below w.heap.size w w'
theorem fault_laid (w : World) (g : Nat) (hg : w.heap.size = g) (p : ByteArray) (n e : Int) : FaultV (w.alloc (.cells #[.string p, .int .i64 n, .iface 144 (.int .i64 e)] 158)) (.iface 156 (.pointer (some ⟨g, 0, none⟩))) [(p, n)] e := by
  subst hg
  exact Or.inr ⟨by simp, w.heap.size, _, rfl, by simp, by simp, by simp, rfl⟩

theorem tfault_any (n e : Int) (w : World) :
    Calls Tryz.prog 107 #[.int .i64 n, .int .i64 e] w fun ev w' => ev = .returned (.iface 156 (.pointer (some ⟨w.heap.size, 0, none⟩))) ∧ w' = w.alloc (.cells #[.string turnB, .int .i64 n, .iface 144 (.int .i64 e)] 158) := by
  go_enter Tryz.func107, Tryz.ntmps107
  go_wp2
  go_ret
  exact ⟨rfl, rfl⟩

theorem among_any (i n : Int) (w : World) : Calls Tryz.prog 93 #[.int .i64 i, .int .i64 n] w fun e w' => e = .returned (.bool (decide (0 ≤ i ∧ i < n))) ∧ w = w' := by
  by_cases h0 : 0 ≤ i
  · by_cases h1 : i < n
    · have h2 : Hid (decide (0 ≤ i ∧ i < n) = true) := Lib.hid (by simp [h0, h1])
      have d0 : decide (0 ≤ i) = true := by simpa using h0
      go_enter Tryz.func93, Tryz.ntmps93
      go_wp2
      go_ret
      first | exact ⟨rfl, rfl⟩ | exact ⟨ret_bool h2.out.symm, rfl⟩
    · have h2 : Hid (decide (0 ≤ i ∧ i < n) = false) := Lib.hid (by simp; omega)
      have d0 : decide (0 ≤ i) = true := by simpa using h0
      have d1 : decide (i < n) = false := by simp; omega
      go_enter Tryz.func93, Tryz.ntmps93
      go_wp2
      go_ret
      first | exact ⟨rfl, rfl⟩ | exact ⟨ret_bool h2.out.symm, rfl⟩
  · have h2 : Hid (decide (0 ≤ i ∧ i < n) = false) := Lib.hid (by simp; omega)
    have d0 : decide (0 ≤ i) = false := by simp; omega
    go_enter Tryz.func93, Tryz.ntmps93
    go_wp2
    go_ret
    first | exact ⟨rfl, rfl⟩ | exact ⟨ret_bool h2.out.symm, rfl⟩

theorem place_any (I O : Int) (u : Value) (x y : Int) (w : World) (h0 : 0 ≤ x * O) (h1 : 0 ≤ y) (h2 : x * O + y ≤ 1000000) :
    Calls Tryz.prog 94 #[.agg #[.int .i64 I, .int .i64 O, u], .int .i64 x, .int .i64 y] w fun e w' => e = .returned (.int .i64 (x * O + y)) ∧ w' = w.alloc (.cells #[.int .i64 I, .int .i64 O, u] 103) := by
  go_enter Tryz.func94, Tryz.ntmps94
  go_wp2
  go_ret
  exact ⟨rfl, rfl⟩

theorem counts_in (I O : Int) (w : World) (h : I < 0 ∨ 16 < I) :
    Calls Tryz.prog 106 #[.int .i64 I, .int .i64 O] w (EPost [(turnB, 0)] 1 w) := by
  go_enter Tryz.func106, Tryz.ntmps106
  go_wp2_with (go_at_call 107; refine (tfault_any _ _ _).mono ?_; rintro e w' ⟨rfl, rfl⟩)
  all_goals
    go_ret
    exact ⟨_, rfl, fault_laid _ _ rfl _ _ _, (Below.refl _ _).alloc (Nat.le_refl _) _⟩
theorem counts_out (I O : Int) (w : World) (h0 : ¬ (I < 0 ∨ 16 < I)) (h : O < 0 ∨ 16 < O) :
    Calls Tryz.prog 106 #[.int .i64 I, .int .i64 O] w (EPost [(turnB, 1)] 1 w) := by
  have h1 : 0 ≤ I := by omega
  have h2 : I ≤ 16 := by omega
  clear h0
  go_enter Tryz.func106, Tryz.ntmps106
  go_wp2_with (go_at_call 107; refine (tfault_any _ _ _).mono ?_; rintro e w' ⟨rfl, rfl⟩)
  all_goals
    go_ret
    exact ⟨_, rfl, fault_laid _ _ rfl _ _ _, (Below.refl _ _).alloc (Nat.le_refl _) _⟩
theorem counts_ok (I O : Int) (w : World) (h0 : ¬ (I < 0 ∨ 16 < I)) (h : ¬ (O < 0 ∨ 16 < O)) :
    Calls Tryz.prog 106 #[.int .i64 I, .int .i64 O] w fun e w' => e = .returned .nilIface ∧ w = w' := by
  have h1 : 0 ≤ I := by omega
  have h2 : I ≤ 16 := by omega
  have h3 : 0 ≤ O := by omega
  have h4 : O ≤ 16 := by omega
  clear h0 h
  go_enter Tryz.func106, Tryz.ntmps106
  go_wp2
  go_ret
  exact ⟨rfl, rfl⟩

theorem FaultV.iface {w : World} {v : Value} {p : ByteArray × Int} {r : List (ByteArray × Int)} {e : Int} (h : FaultV w v (p :: r) e) : ∃ b, v = .iface 156 (.pointer (some ⟨b, 0, none⟩)) ∧ ErrV w v (p :: r) e := by
  rcases h with ⟨h, _⟩ | ⟨_, h⟩
  · cases h
  · obtain ⟨b, u, hv, hr⟩ := h
    exact ⟨b, hv, b, u, hv, hr⟩
theorem below_alloc1 {w : World} (a : Obj) : Below w.heap.size w (w.alloc a) := (Below.refl _ _).alloc (Nat.le_refl _) _

/-! ### Check -/
set_option maxHeartbeats 1000000 in
theorem tcheck_ins (I O : Int) (u : Value) (w : World) (h : I < 0 ∨ 16 < I) :
    Calls Tryz.prog 96 #[.agg #[.int .i64 I, .int .i64 O, u]] w (EPost [(turnB, 0)] 1 w) := by
  go_enter Tryz.func96, Tryz.ntmps96
  go_wp2_with fail
  refine (counts_in I O _ h).mono ?_
  rintro e w' ⟨v, rfl, hF, hb⟩
  obtain ⟨b, rfl, hE⟩ := hF.iface
  have HE := Lib.hid hE
  have HB := Lib.hid hb
  clear hE hF hb h
  go_wp2_with fail
  go_ret
  exact ⟨_, rfl, Or.inr ⟨by simp, HE.out⟩, (below_alloc1 _).trans (HB.out.mono (by simp))⟩
set_option maxHeartbeats 1000000 in
theorem tcheck_outs (I O : Int) (u : Value) (w : World) (h0 : ¬ (I < 0 ∨ 16 < I)) (h : O < 0 ∨ 16 < O) :
    Calls Tryz.prog 96 #[.agg #[.int .i64 I, .int .i64 O, u]] w (EPost [(turnB, 1)] 1 w) := by
  go_enter Tryz.func96, Tryz.ntmps96
  go_wp2_with fail
  refine (counts_out I O _ h0 h).mono ?_
  rintro e w' ⟨v, rfl, hF, hb⟩
  obtain ⟨b, rfl, hE⟩ := hF.iface
  have HE := Lib.hid hE
  have HB := Lib.hid hb
  clear hE hF hb h h0
  go_wp2_with fail
  go_ret
  exact ⟨_, rfl, Or.inr ⟨by simp, HE.out⟩, (below_alloc1 _).trans (HB.out.mono (by simp))⟩
set_option maxHeartbeats 1000000 in
theorem tcheck_size (I O : Int) (q : Option Addr) (n c : Nat) (w : World) (h0 : ¬ (I < 0 ∨ 16 < I)) (h1 : ¬ (O < 0 ∨ 16 < O)) (s : 0 ≤ I * O ∧ I * O ≤ 256) (h : ¬ (n : Int) = I * O) :
    Calls Tryz.prog 96 #[.agg #[.int .i64 I, .int .i64 O, .slice q n c]] w (EPost [(turnB, 2)] 9 w) := by
  obtain ⟨s0, s1⟩ := s
  go_enter Tryz.func96, Tryz.ntmps96
  go_wp2_with (first | (go_at_call 106; refine (counts_ok I O _ h0 h1).mono ?_; rintro e w' ⟨rfl, rfl⟩) | (go_at_call 107; refine (tfault_any _ _ _).mono ?_; rintro e w' ⟨rfl, rfl⟩))
  all_goals
    go_ret
    exact ⟨_, rfl, fault_laid _ _ (by simp) _ _ _, below_alloc2 _ _⟩
set_option maxHeartbeats 1000000 in
theorem tcheck_row (I O : Int) (u : Value) (l : List Int) (w : World) (h0 : ¬ (I < 0 ∨ 16 < I)) (h1 : ¬ (O < 0 ∨ 16 < O)) (s : 0 ≤ I * O ∧ I * O ≤ 256) (h : (l.length : Int) = I * O) (hu : I64s w u l) (hin : In64 l) :
    Calls Tryz.prog 96 #[.agg #[.int .i64 I, .int .i64 O, u]] w (EPost (turnW (badAt 3 l)) (badAt 3 l).2 w) := by
  obtain ⟨s0, s1⟩ := s
  have hlen : l.length ≤ 256 := by omega
  rcases hu with ⟨rfl, p, c, rfl, -⟩ | ⟨hl, b, o, c, -, -, rfl, hc⟩
  · have h' : I * O = 0 := by simpa using h.symm
    clear h hin hlen
    go_enter Tryz.func96, Tryz.ntmps96
    go_wp2_with (go_at_call 106; refine (counts_ok I O _ h0 h1).mono ?_; rintro e w' ⟨rfl, rfl⟩)
    refine wp_loop_rounds 1 ?_
    rw [rounds_succ]
    go_wp2
    go_ret
    exact ⟨_, rfl, Or.inl ⟨rfl, rfl⟩, below_alloc1 _⟩
  have HC := Lib.hid hc
  clear hc
  go_enter Tryz.func96, Tryz.ntmps96
  go_wp2_with (go_at_call 106; refine (counts_ok I O _ h0 h1).mono ?_; rintro e w' ⟨rfl, rfl⟩)
  go_loop [27] (fun i => ∃ k : Nat, k ≤ l.length ∧ i = .int .i64 k ∧ Hid ((l.take k).all wgt = true)) (fun i => l.length - (intOf i).toNat)
  case atStart => exact ⟨0, Nat.zero_le _, rfl, Lib.hid (by rw [List.take_zero]; exact rfl)⟩
  case round =>
    obtain ⟨k, hk, rfl, HS⟩ := hrel
    by_cases hlt : k < l.length
    · have g := HC.out k hlt
      have hb := World.block_lt_of_cell? w _ g
      obtain ⟨x0, x1⟩ := hin _ (List.getElem_mem hlt)
      by_cases hw : wgt l[k] = true
      · have HN := Lib.hid (all_snoc l k hlt HS.out hw)
        go_wp2_with (go_at_call 99; refine (weight_any _ _ (by omega) (by omega)).mono ?_; rintro e w' ⟨rfl, rfl⟩)
        go_round
        case rel => exact ⟨k + 1, by omega, by go_num, HN⟩
        case measure => simp [intOf]; omega
      · have hw' : wgt l[k] = false := by simpa using hw
        have HN := Lib.hid (badAt_off 3 l k hlt HS.out hw')
        clear hw
        go_wp2_with (first | (go_at_call 99; refine (weight_any _ _ (by omega) (by omega)).mono ?_; rintro e w' ⟨rfl, rfl⟩) | (go_at_call 107; refine (tfault_any _ _ _).mono ?_; rintro e w' ⟨rfl, rfl⟩))
        go_ret
        refine ⟨_, rfl, ?_, below_alloc2 _ _⟩
        rw [HN.out]
        exact fault_laid _ _ (by simp) _ _ _
    · have HN : Hid (badAt 3 l = (0, 0)) := by
        have := HS.out
        rw [List.take_of_length_le (by omega)] at this
        exact badAt_ok 3 l this
      go_wp2
      go_ret
      refine ⟨_, rfl, ?_, below_alloc1 _⟩
      rw [HN.out]
      exact Or.inl ⟨rfl, rfl⟩

/-- What the program's Check tells of any table. -/
theorem tcheck_any (I O : Int) (u : Value) (l : List Int) (w : World) (hu : I64s w u l) (hin : In64 l) :
    Calls Tryz.prog 96 #[.agg #[.int .i64 I, .int .i64 O, u]] w (EPost (turnW (chkT I O l)) (chkT I O l).2 w) := by
  unfold chkT
  by_cases h0 : I < 0 ∨ 16 < I
  · rw [if_pos h0]; exact tcheck_ins I O u w h0
  rw [if_neg h0]
  by_cases h1 : O < 0 ∨ 16 < O
  · rw [if_pos h1]; exact tcheck_outs I O u w h0 h1
  rw [if_neg h1]
  have s := size_le (I := I) (O := O) ⟨by omega, by omega, by omega, by omega⟩
  by_cases h : (l.length : Int) = I * O
  · rw [if_neg (by simpa using h)]; exact tcheck_row I O u l w h0 h1 s h hu hin
  · obtain ⟨q, c, rfl⟩ := hu.shape
    rw [if_pos h]; exact tcheck_size I O q l.length c w h0 h1 s h

end Go.Proofs.YtgihaakgadmidaaGreat

/-
  The program's own tables of turns: Bans, Same, At, Free.
-/
namespace Go.Proofs.YtgihaakgadmidaaGreat
open Go.RowKit

/-! ### are two alike? -/
/-! ### what a turn costs -/
set_option maxHeartbeats 1000000 in
theorem tat_out (I O : Int) (u : Value) (x y : Int) (w : World) (h : x < 0 ∨ I ≤ x ∨ y < 0 ∨ O ≤ y) :
    Calls Tryz.prog 72 #[.agg #[.int .i64 I, .int .i64 O, u], .int .i64 x, .int .i64 y] w fun e w' => e = .returned (.int .i64 1152921504606846976) ∧ Below w.heap.size w w' := by
  by_cases h1 : 0 ≤ x ∧ x < I
  · have d1 : decide (0 ≤ x ∧ x < I) = true := by simpa using h1
    have d2 : decide (0 ≤ y ∧ y < O) = false := by simp; omega
    have D1 := Lib.hid d1
    have D2 := Lib.hid d2
    clear d1 d2 h h1
    go_enter Tryz.func72, Tryz.ntmps72
    go_wp2_with fail
    refine (among_any x I _).mono ?_
    rw [D1.out]
    rintro e w' ⟨rfl, rfl⟩
    go_wp2_with fail
    refine (among_any y O _).mono ?_
    rw [D2.out]
    rintro e w' ⟨rfl, rfl⟩
    go_wp2_with fail
    go_ret
    exact ⟨rfl, below_alloc1 _⟩
  · have d1 : decide (0 ≤ x ∧ x < I) = false := by simp; omega
    have D1 := Lib.hid d1
    clear d1 h h1
    go_enter Tryz.func72, Tryz.ntmps72
    go_wp2_with fail
    refine (among_any x I _).mono ?_
    rw [D1.out]
    rintro e w' ⟨rfl, rfl⟩
    go_wp2_with fail
    go_ret
    exact ⟨rfl, below_alloc1 _⟩

set_option maxHeartbeats 1000000 in
theorem tat_in (I O : Int) (u : Value) (l : List Int) (x y : Int) (w : World) (hs : 0 ≤ I ∧ I ≤ 16 ∧ 0 ≤ O ∧ O ≤ 16) (hn : (l.length : Int) = I * O) (hu : I64s w u l) (h : 0 ≤ x ∧ x < I ∧ 0 ≤ y ∧ y < O) :
    Calls Tryz.prog 72 #[.agg #[.int .i64 I, .int .i64 O, u], .int .i64 x, .int .i64 y] w fun e w' => e = .returned (.int .i64 (l.getD (x * O + y).toNat 0)) ∧ Below w.heap.size w w' := by
  obtain ⟨p0, p1⟩ := place_lt hn h
  obtain ⟨s0, s1⟩ := size_le hs
  rcases hu with ⟨rfl, _⟩ | ⟨hl, b, o, c, -, -, rfl, hc⟩
  · simp at p1; omega
  have hlt : (x * O + y).toNat < l.length := by omega
  have g := hc _ hlt
  have hb := World.block_lt_of_cell? w _ g
  clear hc
  have hI := hs.1
  obtain ⟨x0, x1, y0, y1⟩ := h
  have d1 : decide (0 ≤ x ∧ x < I) = true := by simp; omega
  have d2 : decide (0 ≤ y ∧ y < O) = true := by simp; omega
  have d3 : decide (0 ≤ x * O + y ∧ x * O + y < (l.length : Int)) = true := by simp; omega
  have D1 := Lib.hid d1
  have D2 := Lib.hid d2
  have D3 := Lib.hid d3
  have HG : Hid (l.getD (x * O + y).toNat 0 = l[(x * O + y).toNat]) := Lib.hid (by simp [List.getD, hlt])
  have p2 : x * O + y ≤ 1000000 := by omega
  clear d1 d2 d3 hn
  go_enter Tryz.func72, Tryz.ntmps72
  go_wp2_with fail
  refine (among_any x I _).mono ?_
  rw [D1.out]
  rintro e w' ⟨rfl, rfl⟩
  go_wp2_with fail
  refine (among_any y O _).mono ?_
  rw [D2.out]
  rintro e w' ⟨rfl, rfl⟩
  go_wp2_with fail
  refine (place_any _ _ _ _ _ _ p0 y0 p2).mono ?_
  rintro e w' ⟨rfl, rfl⟩
  go_wp2_with fail
  refine (among_any _ _ _).mono ?_
  rw [D3.out]
  rintro e w' ⟨rfl, rfl⟩
  go_wp2_with fail
  go_ret
  exact ⟨ret_int HG.out.symm, below_alloc2 _ _⟩

/-- What the program's turn costs, of any in and out of a table that may be. -/
theorem tat_any (I O : Int) (u : Value) (l : List Int) (x y : Int) (w : World) (hs : 0 ≤ I ∧ I ≤ 16 ∧ 0 ≤ O ∧ O ≤ 16) (hn : (l.length : Int) = I * O) (hu : I64s w u l) :
    Calls Tryz.prog 72 #[.agg #[.int .i64 I, .int .i64 O, u], .int .i64 x, .int .i64 y] w fun e w' => e = .returned (.int .i64 (turnAt I O l x y)) ∧ Below w.heap.size w w' := by
  by_cases h : x < 0 ∨ I ≤ x ∨ y < 0 ∨ O ≤ y
  · exact (tat_out I O u x y w h).mono fun e w' ⟨h1, h2⟩ => ⟨by rw [h1]; unfold turnAt; rw [if_pos h], h2⟩
  · exact (tat_in I O u l x y w hs hn hu (by omega)).mono fun e w' ⟨h1, h2⟩ => ⟨by rw [h1]; unfold turnAt; rw [if_neg h], h2⟩

/-- An error stands where a block that is none of its Faults is written. -/
theorem ErrV.setCell {w : World} {k o : Nat} {u x : Value} (hk : w.cell? ⟨k, 0, none⟩ = some u) (hu : ∀ s, u ≠ .string s) : ∀ {v : Value} {ps : List (ByteArray × Int)} {e : Int}, ErrV w v ps e → ErrV (w.setCell ⟨k, o, none⟩ x) v ps e
  | _, [], _, h => h
  | _, _ :: _, _, ⟨b, y, h0, h1, h2, h3, h4⟩ => by
    have hne : b ≠ k := fun e => by
      subst e
      rw [hk] at h1
      exact hu _ (Option.some.inj h1)
    have hc : ∀ j, (w.setCell ⟨k, o, none⟩ x).cell? ⟨b, j, none⟩ = w.cell? ⟨b, j, none⟩ := fun j => World.cell?_setCell_other w ⟨k, o, none⟩ ⟨b, j, none⟩ x (by intro e; injection e with e1; exact hne e1.symm)
    exact ⟨b, y, h0, (hc 0).trans h1, (hc 1).trans h2, (hc 2).trans h3, ErrV.setCell hk hu h4⟩
theorem FaultV.setCell {w : World} {k o : Nat} {u x : Value} (hk : w.cell? ⟨k, 0, none⟩ = some u) (hu : ∀ s, u ≠ .string s) {v : Value} {ps : List (ByteArray × Int)} {e : Int} (h : FaultV w v ps e) : FaultV (w.setCell ⟨k, o, none⟩ x) v ps e :=
  h.imp id (fun h => ⟨h.1, h.2.setCell hk hu⟩)
/-! ### Free -/
/-- v is a table whose row the call owns. -/
def TabO (w : World) (base : Nat) (v : Value) (I O : Int) (l : List Int) : Prop := ∃ u, v = .agg #[.int .i64 I, .int .i64 O, u] ∧ w.ownsRow base 2 1 u l.length (l.map (Value.int .i64))
theorem TabO.tab {w : World} {base : Nat} {v : Value} {I O : Int} {l : List Int} (h : TabO w base v I O l) (hl : l.length ≤ 9223372036854775807) : TabV w v I O l := by
  obtain ⟨u, e, h⟩ := h
  exact ⟨u, e, i64s_of_owns h hl⟩
end Go.Proofs.YtgihaakgadmidaaGreat

/-
  The program's own tables of turns: With.
-/
namespace Go.Proofs.YtgihaakgadmidaaGreat
open Go.RowKit

/-- What a call answers that tells a row of its own. -/
def RowPost (l : List Int) (w : World) (ev : Ending) (w' : World) : Prop := ∃ v, ev = .returned v ∧ w'.ownsRow w.heap.size 2 1 v l.length (l.map (Value.int .i64)) ∧ Below w.heap.size w w'

set_option maxHeartbeats 1000000 in
set_option maxRecDepth 100000 in
theorem clone_any (v : Value) (l : List Int) (w : World) (hs : l.length ≤ 600) (hv : I64s w v l) :
    Calls Tryz.prog 86 #[v] w (RowPost l w) := by
  by_cases hn : ∃ c, v = .slice none 0 c
  · obtain ⟨c, rfl⟩ := hn
    have hl : l = [] := by
      rcases hv with ⟨rfl, _⟩ | ⟨_, b, o, c', _, _, e, _⟩
      · rfl
      · injection e with e1; cases e1
    have hc : c = 0 := by
      rcases hv with ⟨_, p, c', e, hp⟩ | ⟨_, b, o, c', _, _, e, _⟩
      · injection e with e1 e2 e3; subst e1; rw [e3]; exact hp rfl
      · injection e with e1; cases e1
    subst hl
    subst hc
    clear hv
    have HS := Lib.hid hs
    clear hs
    have hq := Lib.run_eql_slice_nil (P := Tryz.prog) w 36 2 none 0 0 0 0 Tryz.underlying36
    go_enter Tryz.func86, Tryz.ntmps86
    go_wp2
    go_ret
    exact ⟨_, rfl, ⟨by simp, Or.inl ⟨rfl, rfl⟩⟩, Below.refl _ _⟩
  · obtain ⟨v', w', hr, hown, hb⟩ := copy_own w v l hv (by omega) w.heap.size rfl
    obtain ⟨q, c, rfl⟩ := hv.shape
    cases q with
    | none =>
      exfalso
      have h0 : l.length = 0 := by
        rcases hv with ⟨rfl, _⟩ | ⟨_, b, o, c', _, _, e, _⟩
        · rfl
        · injection e with e1; cases e1
      exact hn ⟨c, by rw [h0]⟩
    | some ad =>
      have HR := Lib.hid hr
      have HO := Lib.hid hown
      have HB := Lib.hid hb
      clear hr hown hb hn hv hs
      have hq := Lib.run_eql_slice_nil (P := Tryz.prog) w 36 2 (some ad) l.length c 0 0 Tryz.underlying36
      go_enter Tryz.func86, Tryz.ntmps86
      go_wp2_with (at_builtin; refine wpList_append_run (by rfl) _ _ 36 rfl _ _ _ rfl rfl HR.out ?_)
      go_ret
      exact ⟨_, rfl, HO.out, HB.out⟩

theorem owns_base {w : World} {base base' : Nat} {e : TypeId} {size : Nat} {v : Value} {n : Nat} {xs : List Value} (h : w.ownsRow base e size v n xs) (hb : base' ≤ base) : w.ownsRow base' e size v n xs := by
  refine ⟨h.1, ?_⟩
  rcases h.2 with h | ⟨g, cap, cur, h1, h2, h3⟩
  · exact Or.inl h
  · exact Or.inr ⟨g, cap, cur, h1, Nat.le_trans hb h2, h3⟩
theorem FaultV.none {w : World} {v : Value} {e : Int} (h : FaultV w v [] e) : v = .nilIface := by
  rcases h with ⟨_, h⟩ | ⟨h, _⟩
  · exact h
  · exact absurd rfl h

end Go.Proofs.YtgihaakgadmidaaGreat

/-
  The program's own tables of turns: With, of any turn and cost.
-/
namespace Go.Proofs.YtgihaakgadmidaaGreat
open Go.RowKit

end Go.Proofs.YtgihaakgadmidaaGreat

/-
  Tables that are made: the document's own, and the program's.
-/
namespace Go.Proofs.YtgihaakgadmidaaGreat
open Go.RowKit

theorem WrongV.none {w : World} {v : Value} {e : Int} (h : WrongV w v [] e) : ∃ q c, v = .agg #[.slice q 0 c, .int .i64 e] := by
  obtain ⟨sv, rfl, ⟨_, rfl⟩ | ⟨_, b, o, c, rfl, _⟩⟩ := h
  · exact ⟨_, _, rfl⟩
  · exact ⟨_, _, rfl⟩
/-- A Wrong of no part hangs on no memory. -/
theorem WrongV.any {w w' : World} {v : Value} {e : Int} (h : WrongV w v [] e) : WrongV w' v [] e := by
  obtain ⟨sv, rfl, ⟨h0, rfl⟩ | ⟨h0, b, o, c, rfl, _⟩⟩ := h
  · exact ⟨_, rfl, Or.inl ⟨rfl, rfl⟩⟩
  · exact ⟨_, rfl, Or.inr ⟨h0, b, o, c, rfl, fun i h => by simp at h, fun i h => by simp at h⟩⟩
theorem owns_below {w w' : World} {base : Nat} {e : TypeId} {size : Nat} {v : Value} {n : Nat} {xs : List Value} (h : w.ownsRow base e size v n xs) (hb : Below w.heap.size w w') : w'.ownsRow base e size v n xs :=
  h.kept (row := none) ⟨hb.os, hb.tape, hb.output, hb.size, fun k hk _ => hb.block k hk⟩ (by
    cases hv : v.ownBlock with
    | none => exact Or.inl rfl
    | some k => exact Or.inr (by simp))
theorem WrongV.only {w w' : World} {ks : List Nat} {v : Value} {ps : List (ByteArray × Int)} {e : Int} (h : WrongV w v ps e) (ho : Only ks w w') (hs : NoStr w ks) : WrongV w' v ps e := by
  obtain ⟨sv, h0, h1⟩ := h
  refine ⟨sv, h0, ?_⟩
  rcases h1 with h1 | ⟨hl, b, o, c, h1, h2, h3⟩
  · exact Or.inl h1
  · refine Or.inr ⟨hl, b, o, c, h1, fun i h => ?_, fun i h => ?_⟩
    · rw [ho.cell (fun hm => hs b hm _ _ (h2 i h))]; exact h2 i h
    · rw [ho.cell (fun hm => hs b hm _ _ (h2 i h))]; exact h3 i h

end Go.Proofs.YtgihaakgadmidaaGreat

/-
  Tables without a way back: the document's own.
-/
namespace Go.Proofs.YtgihaakgadmidaaGreat
open Go.RowKit

theorem Blk.grown {w w' : World} {b : Nat} {cs : Array Value} {t : TypeId} {g : Nat} (h : Blk w b cs t) (hg : w.grownBy w' (some g)) (hne : b ≠ g) : Blk w' b cs t := (hg.block b h.lt (by simpa using hne)).trans h
end Go.Proofs.YtgihaakgadmidaaGreat

/-
  Tables without a way back: the program's, and both where there is no turn at all, or none may be.
-/
namespace Go.Proofs.YtgihaakgadmidaaGreat
open Go.RowKit

end Go.Proofs.YtgihaakgadmidaaGreat

/-
  Tables without a way back where there is no turn at all, or none may be; and what is made, in one word each.
-/
namespace Go.Proofs.YtgihaakgadmidaaGreat
open Go.RowKit

/-! ### in one word each -/
end Go.Proofs.YtgihaakgadmidaaGreat

/-
  Package cost and the document's own costs: what each call does.
-/
namespace Go.Proofs.YtgihaakgadmidaaGreat
open Go.RowKit

set_option maxHeartbeats 400000 in
theorem held_any (a : Int) (w : World) (h0 : -9223372036854775808 ≤ a) (h1 : a ≤ 9223372036854775807) :
    Calls Tryz.prog 61 #[.int .i64 a] w fun e w' => e = .returned (.int .i64 (hld a)) ∧ w = w' := by
  go_enter Tryz.func61, Tryz.ntmps61
  go_wp2
  all_goals
    go_ret
    refine ⟨ret_int ?_, rfl⟩
    unfold hld
    split at * <;> (try split) <;> omega

set_option maxHeartbeats 400000 in
theorem rheld_any (a : Int) (w : World) (h0 : -9223372036854775808 ≤ a) (h1 : a ≤ 9223372036854775807) :
    Calls Tryz.prog 55 #[.int .i64 a] w fun e w' => e = .returned (.int .i64 (hld a)) ∧ w = w' := by
  go_enter Tryz.func55, Tryz.ntmps55
  go_wp2
  all_goals
    go_ret
    refine ⟨ret_int ?_, rfl⟩
    unfold hld
    split <;> (try split) <;> omega

set_option maxHeartbeats 400000 in
theorem add_any (a b : Int) (w : World) (h0 : -9223372036854775808 ≤ a) (h1 : a ≤ 9223372036854775807) (h2 : -9223372036854775808 ≤ b) (h3 : b ≤ 9223372036854775807) :
    Calls Tryz.prog 37 #[.int .i64 a, .int .i64 b] w fun e w' => e = .returned (.int .i64 (addC a b)) ∧ w = w' := by
  have a0 := hld_lo a
  have a1 := hld_hi a
  have b0 := hld_lo b
  have b1 := hld_hi b
  go_enter Tryz.func37, Tryz.ntmps37
  go_wp2_with (go_at_call 61; refine (held_any _ _ (by omega) (by omega)).mono ?_; rintro e w' ⟨rfl, rfl⟩)
  go_ret
  exact ⟨rfl, rfl⟩

set_option maxHeartbeats 400000 in
theorem radd_any (a b : Int) (w : World) (h0 : -9223372036854775808 ≤ a) (h1 : a ≤ 9223372036854775807) (h2 : -9223372036854775808 ≤ b) (h3 : b ≤ 9223372036854775807) :
    Calls Tryz.prog 29 #[.int .i64 a, .int .i64 b] w fun e w' => e = .returned (.int .i64 (addC a b)) ∧ w = w' := by
  have a0 := hld_lo a
  have a1 := hld_hi a
  have b0 := hld_lo b
  have b1 := hld_hi b
  go_enter Tryz.func29, Tryz.ntmps29
  go_wp2_with (go_at_call 55; refine (rheld_any _ _ (by omega) (by omega)).mono ?_; rintro e w' ⟨rfl, rfl⟩)
  go_ret
  exact ⟨rfl, rfl⟩

end Go.Proofs.YtgihaakgadmidaaGreat

/-
  Rows of numbers: sums, and the least one.
-/
namespace Go.Proofs.YtgihaakgadmidaaGreat
open Go.RowKit

/-! ### the least one -/
end Go.Proofs.YtgihaakgadmidaaGreat

/-
  The law's own To: a table as the program's.
-/
namespace Go.Proofs.YtgihaakgadmidaaGreat
open Go.RowKit

/-- An append whose run is known, as one step of a region that draws. -/
theorem step_append_run {P : Program} {ops : Array Oper} {o : Oper} {a : Act} {w w' : World} {K : Act → World → Prop} {Q : Exit → Act → World → Prop} {E : Prop} (hg : o.guard = none) (s x : Operand) (t : TypeId) (ho : o.op = .call { callee := .builtin .append, args := #[s, x], argTypes := #[t, t] })
    (v sv v' : Value) (hs : a.eval s = v) (hx : a.eval x = sv) (hr : (Builtin.append_ #[t, t] o.type #[v, sv]).run P w = .ok v' w') (hK : K (a.put o.dst v') w') :
    if Region.wanted o (yielded ops a.tmps) = true then Oper.wp P o a w K Q else E := by
  have hw : Region.wanted o (yielded ops a.tmps) = true := by simp [Region.wanted, hg]
  rw [if_pos hw]
  unfold Oper.wp execOp
  simp only [ho, resolve, invoke, builtin, Sem.run_bind, Sem.run_pure, Result.andThen_ok, List.map_toArray, List.map_cons, List.map_nil, hs, hx, hr]
  exact hK

/-- The world ahead of To's copy. -/
def toWorld (I O : Int) (u : Value) (w : World) : World := ((w.alloc (.cells #[.int .i64 I, .int .i64 O, u] 68)).alloc (.cells #[.int .i64 0, .int .i64 0, .slice none 0 0] 103)).drew

set_option maxRecDepth 100000 in
set_option maxHeartbeats 4000000 in
theorem to_own (I O : Int) (u : Value) (l : List Int) (w : World) (hs : l.length ≤ 1000) (hu : I64s w u l) :
    Calls Tryz.prog 54 #[.agg #[.int .i64 I, .int .i64 O, u]] w (fun ev w' => ∃ tv, ev = .returned tv ∧ TabO w' w.heap.size tv I O l ∧ Below w.heap.size w w') := by
  obtain ⟨q, cu, rfl⟩ := hu.shape
  have b3 : Below w.heap.size w (toWorld I O (.slice q l.length cu) w) := (below_alloc2 _ _).drew
  have z3 : (toWorld I O (.slice q l.length cu) w).heap.size = w.heap.size + 1 + 1 := by simp [toWorld]
  obtain ⟨v', w', hr, hown, hb⟩ := copy_own (toWorld I O (.slice q l.length cu) w) _ l (hu.below b3) (by omega) _ z3
  have hcells : ∀ b o v, b < w.heap.size + 1 + 1 → (toWorld I O (.slice q l.length cu) w).cell? ⟨b, o, none⟩ = some v → w'.cell? ⟨b, o, none⟩ = some v := fun b o v h1 h2 => (hb.cell (by rw [z3]; exact h1)).trans h2
  have hfroz : ∀ b o, b < w.heap.size + 1 + 1 → w'.frozen? ⟨b, o, none⟩ = (toWorld I O (.slice q l.length cu) w).frozen? ⟨b, o, none⟩ := fun b o h1 => hb.frozen (by rw [z3]; exact h1)
  have a0 := hcells w.heap.size 0 (.int .i64 I) (by omega) (by unfold toWorld; go_simp)
  have a1 := hcells w.heap.size 1 (.int .i64 O) (by omega) (by unfold toWorld; go_simp)
  have r0 := hcells (w.heap.size + 1) 0 (.int .i64 0) (by omega) (by unfold toWorld; go_simp)
  have r1 := hcells (w.heap.size + 1) 1 (.int .i64 0) (by omega) (by unfold toWorld; go_simp)
  have r2 := hcells (w.heap.size + 1) 2 (.slice none 0 0) (by omega) (by unfold toWorld; go_simp)
  have f0 := (hfroz (w.heap.size + 1) 0 (by omega)).trans (show _ = false by unfold toWorld; go_simp)
  have f1 := (hfroz (w.heap.size + 1) 1 (by omega)).trans (show _ = false by unfold toWorld; go_simp)
  have f2 := (hfroz (w.heap.size + 1) 2 (by omega)).trans (show _ = false by unfold toWorld; go_simp)
  have hv' : ∃ g cap, v' = .slice g l.length cap := by
    rcases hown.2 with ⟨rfl, hz⟩ | ⟨g, cap, cur, e, _⟩
    · exact ⟨none, 0, by rw [hz]⟩
    · exact ⟨_, cap, e⟩
  obtain ⟨g, cap, rfl⟩ := hv'
  have HR := Lib.hid hr
  have HO := Lib.hid hown
  have HB : Hid (Below w.heap.size w w') := Lib.hid (b3.trans (hb.mono (by rw [z3]; omega)))
  have h2 : ∀ {W : World} (o : Nat) (k : Nat) (v : Value), k < w.heap.size + 1 + 1 → W.ownsRow (toWorld I O (.slice q l.length cu) w).heap.size 2 1 (.slice g l.length cap) l.length (l.map (Value.int .i64)) → (W.setCell ⟨k, o, none⟩ v).ownsRow (toWorld I O (.slice q l.length cu) w).heap.size 2 1 (.slice g l.length cap) l.length (l.map (Value.int .i64)) := fun o k v hk h => ownsRow_setCell_below h (by rw [z3]; exact hk) v
  have HF := Lib.hid (owns_base (h2 2 (w.heap.size + 1) (.slice g l.length cap) (by omega) (h2 1 (w.heap.size + 1) (.int .i64 O) (by omega) (h2 0 (w.heap.size + 1) (.int .i64 I) (by omega) hown))) (show w.heap.size ≤ _ by rw [z3]; omega))
  clear hu hr hown hb hcells hfroz b3 z3 h2 HO
  go_enter Tryz.func54, Tryz.ntmps54
  go_wp2
  go_region_law (refine step_append_run rfl _ _ 36 rfl _ _ _ rfl rfl HR.out ?_)
  all_goals
    go_wp2
    refine bodyPost_ret (v := .agg #[.int .i64 I, .int .i64 O, .slice g l.length cap]) (by simp [results, Tryz.results54, go_sem]; go_simp) rfl ⟨_, rfl, ⟨_, rfl, HF.out⟩, ?_⟩
    exact ((HB.out.setCell (by simp only []; omega) _).setCell (by simp only []; omega) _).setCell (by simp only []; omega) _

end Go.Proofs.YtgihaakgadmidaaGreat

/-
  The document's own Within: a Fault round another one.
-/
namespace Go.Proofs.YtgihaakgadmidaaGreat
open Go.RowKit

/-- The cells of a row of parts. -/
def flatP : List (ByteArray × Int) → List Value
  | [] => []
  | x :: r => .string x.1 :: .int .i64 x.2 :: flatP r
theorem flatP_length : ∀ ps, (flatP ps).length = ps.length * 2
  | [] => rfl
  | x :: r => by rw [flatP, List.length_cons, List.length_cons, flatP_length r, List.length_cons]; omega
theorem flatP_even : ∀ (ps : List (ByteArray × Int)) (i : Nat) (h : i < ps.length), (flatP ps)[i * 2]? = some (.string ps[i].1)
  | [], i, h => by simp at h
  | x :: r, 0, h => by simp [flatP]
  | x :: r, i + 1, h => by
    have := flatP_even r i (by simpa using h)
    rw [flatP, show (i + 1) * 2 = i * 2 + 1 + 1 by omega]
    simpa using this
theorem flatP_odd : ∀ (ps : List (ByteArray × Int)) (i : Nat) (h : i < ps.length), (flatP ps)[i * 2 + 1]? = some (.int .i64 ps[i].2)
  | [], i, h => by simp at h
  | x :: r, 0, h => by simp [flatP]
  | x :: r, i + 1, h => by
    have := flatP_odd r i (by simpa using h)
    rw [flatP, show (i + 1) * 2 + 1 = i * 2 + 1 + 1 + 1 by omega]
    simpa using this
theorem flatP_one : ∀ (ps : List (ByteArray × Int)), ∀ u ∈ flatP ps, u.oneCell' = true
  | [], u, h => by simp [flatP] at h
  | x :: r, u, h => by
    rw [flatP] at h
    rcases List.mem_cons.1 h with rfl | h
    · rfl
    · rcases List.mem_cons.1 h with rfl | h
      · rfl
      · exact flatP_one r u h

theorem infoPart : (Tryz.prog.info? 142).map (fun i => (i.zero, i.size, i.bytes)) = some (some (.agg #[.string ⟨#[]⟩, .int .i64 0]), 2, 24) := by kernel_rfl

/-- A Wrong whose parts lie in a row of one's own. -/
theorem wrong_own {w : World} {base : Nat} {v : Value} {n : Nat} {ps : List (ByteArray × Int)} {e : Int} (h : w.ownsRow base 142 2 v n (flatP ps)) (hne : ps ≠ []) (hl : ps.length ≤ 9223372036854775807) : WrongV w (.agg #[v, .int .i64 e]) ps e := by
  have hn : n = ps.length := by have := h.1; rw [flatP_length] at this; omega
  subst hn
  rcases h.2 with ⟨_, e0⟩ | ⟨g, cap, cur, rfl, _⟩
  · exact absurd (List.eq_nil_of_length_eq_zero e0) hne
  · refine ⟨_, rfl, Or.inr ⟨hl, g, 0, cap, rfl, fun i hi => ?_, fun i hi => ?_⟩⟩
    · rw [Nat.zero_add, h.cellAt (i * 2) (by omega), flatP_even ps i hi]
    · rw [Nat.zero_add, h.cellAt (i * 2 + 1) (by omega), flatP_odd ps i hi]

set_option maxRecDepth 100000 in
/-- Parts, behind a literal of one: the run of that append. -/
theorem parts_own (W : World) (p : ByteArray) (n : Int) (q : Option Addr) (m c : Nat) (e : Int) (ps : List (ByteArray × Int)) (hv : WrongV W (.agg #[.slice q m c, .int .i64 e]) ps e) (hne : ps ≠ []) (hs : ps.length ≤ 1000) (g : Nat) (hg : W.heap.size = g) :
    ∃ v' w', (Builtin.append_ #[89, 89] 89 #[.slice (some ⟨g, 0, none⟩) 1 1, .slice q m c]).run Tryz.prog (W.alloc (.cells #[.string p, .int .i64 n] 142)) = .ok v' w' ∧ w'.ownsRow W.heap.size 142 2 v' (ps.length + 1) (flatP ((p, n) :: ps)) ∧ Below W.heap.size W w' := by
  subst hg
  obtain ⟨i0, hi, hz0, hz1, hz2⟩ := info_parts infoPart
  have hv1 := WrongV.below ((Below.refl _ _).alloc (Nat.le_refl _) (.cells #[.string p, .int .i64 n] 142)) hv
  have hown : (W.alloc (.cells #[.string p, .int .i64 n] 142)).ownsRow W.heap.size 142 2 (.slice (some ⟨W.heap.size, 0, none⟩) 1 1) 1 [.string p, .int .i64 n] := World.ownsRow_lit W #[.string p, .int .i64 n] 1 (Nat.le_refl _) (by simp [maxLen]) rfl
  obtain ⟨sv, e0, ⟨h0, _⟩ | ⟨hl, b, o, c', e1, hs1, hs2⟩⟩ := hv1
  · exact absurd h0 hne
  injection e0 with e0
  have e2 : (Value.slice q m c) = sv := by injection e0 with e0; injection e0
  rw [e1] at e2
  injection e2 with e3 e4 e5
  subst e3
  subst e4
  obtain ⟨v', w', hr, h1, h2, h3⟩ := run_append_own (P := Tryz.prog) (W.alloc (.cells #[.string p, .int .i64 n] 142)) W.heap.size 89 89 142 i0 (.agg #[.string ⟨#[]⟩, .int .i64 0]) 2 24 Tryz.underlying89 hi hz0 hz1 hz2 rfl (by decide)
    (.slice (some ⟨W.heap.size, 0, none⟩) 1 1) 1 [.string p, .int .i64 n] hown ⟨b, o, none⟩ ps.length c (flatP ps) (flatP_length ps) (fun j u hj => by
      have hjl : j < ps.length * 2 := by rw [← flatP_length]; exact (List.getElem?_eq_some_iff.1 hj).1
      have ea : (⟨b, o, none⟩ : Addr).add j = ⟨b, o + j, none⟩ := by unfold Addr.add; split <;> simp_all
      rw [ea]
      rcases Nat.mod_two_eq_zero_or_one j with hm | hm
      · have ej : j = j / 2 * 2 := by omega
        rw [ej] at hj ⊢
        rw [flatP_even ps (j / 2) (by omega)] at hj
        rw [hs1 (j / 2) (by omega), hj]
      · have ej : j = j / 2 * 2 + 1 := by omega
        rw [ej] at hj ⊢
        rw [flatP_odd ps (j / 2) (by omega)] at hj
        rw [← Nat.add_assoc, hs2 (j / 2) (by omega), hj]) (flatP_one ps) (by simp [maxLen]; omega) (by omega) (by simp)
  exact ⟨v', w', hr, by rw [Nat.add_comm]; exact h1, ((Below.refl _ _).alloc (Nat.le_refl _) _).grown h2 (by simp) (by intro k hk; simp [Value.ownBlock] at hk; omega)⟩

/-- The world ahead of Within's copy. -/
def inWorld (q : Option Addr) (m c : Nat) (e : Int) (w : World) : World := ((w.alloc (.cells #[.slice q m c, .int .i64 e] 91)).alloc (.cells #[.slice none 0 0, .int .i64 0] 91)).drew

set_option maxRecDepth 100000 in
set_option maxHeartbeats 4000000 in
theorem rwithin_any (p : ByteArray) (n : Int) (v : Value) (ps : List (ByteArray × Int)) (e : Int) (w : World) (hv : WrongV w v ps e) (hne : ps ≠ []) (he : e ≠ 0) (hs : ps.length ≤ 1000) :
    Calls Tryz.prog 75 #[.string p, .int .i64 n, v] w (WPost ((p, n) :: ps) e w) := by
  obtain ⟨q, m, c, rfl⟩ := hv.shape
  have b3 : Below w.heap.size w (inWorld q m c e w) := (below_alloc2 _ _).drew
  have z3 : (inWorld q m c e w).heap.size = w.heap.size + 1 + 1 := by simp [inWorld]
  obtain ⟨v', w', hr, hown, hb⟩ := parts_own (inWorld q m c e w) p n q m c e ps (hv.below b3) hne hs _ z3
  have hcells : ∀ b o v, b < w.heap.size + 1 + 1 → (inWorld q m c e w).cell? ⟨b, o, none⟩ = some v → w'.cell? ⟨b, o, none⟩ = some v := fun b o v h1 h2 => (hb.cell (by rw [z3]; exact h1)).trans h2
  have hfroz : ∀ b o, b < w.heap.size + 1 + 1 → w'.frozen? ⟨b, o, none⟩ = (inWorld q m c e w).frozen? ⟨b, o, none⟩ := fun b o h1 => hb.frozen (by rw [z3]; exact h1)
  have a0 := hcells w.heap.size 0 (.slice q m c) (by omega) (by unfold inWorld; go_simp)
  have a1 := hcells w.heap.size 1 (.int .i64 e) (by omega) (by unfold inWorld; go_simp)
  have r0 := hcells (w.heap.size + 1) 0 (.slice none 0 0) (by omega) (by unfold inWorld; go_simp)
  have r1 := hcells (w.heap.size + 1) 1 (.int .i64 0) (by omega) (by unfold inWorld; go_simp)
  have f0 := (hfroz (w.heap.size + 1) 0 (by omega)).trans (show _ = false by unfold inWorld; go_simp)
  have f1 := (hfroz (w.heap.size + 1) 1 (by omega)).trans (show _ = false by unfold inWorld; go_simp)
  have hv' : ∃ g cap, v' = .slice g (ps.length + 1) cap := by
    rcases hown.2 with ⟨rfl, hz⟩ | ⟨g, cap, cur, e, _⟩
    · omega
    · exact ⟨_, cap, e⟩
  obtain ⟨g, cap, rfl⟩ := hv'
  have HR := Lib.hid hr
  have HB : Hid (Below w.heap.size w w') := Lib.hid (b3.trans (hb.mono (by rw [z3]; omega)))
  have h2 : ∀ {W : World} (o : Nat) (k : Nat) (v : Value), k < w.heap.size + 1 + 1 → W.ownsRow (inWorld q m c e w).heap.size 142 2 (.slice g (ps.length + 1) cap) (ps.length + 1) (flatP ((p, n) :: ps)) → (W.setCell ⟨k, o, none⟩ v).ownsRow (inWorld q m c e w).heap.size 142 2 (.slice g (ps.length + 1) cap) (ps.length + 1) (flatP ((p, n) :: ps)) := fun o k v hk h => ownsRow_setCell_below h (by rw [z3]; exact hk) v
  have HF := Lib.hid (wrong_own (e := e) (h2 1 (w.heap.size + 1) (.int .i64 e) (by omega) (h2 0 (w.heap.size + 1) (.slice g (ps.length + 1) cap) (by omega) hown)) (by simp) (by simp; omega))
  have he' : (e == 0) = false := by simpa using he
  clear hv hr hown hb hcells hfroz b3 z3 h2 he hne
  go_enter Tryz.func75, Tryz.ntmps75
  go_wp2
  go_region_law (refine step_append_run rfl _ _ 89 rfl _ _ _ rfl rfl HR.out ?_)
  all_goals
    go_wp2
    refine bodyPost_ret (v := .agg #[.slice g (ps.length + 1) cap, .int .i64 e]) (by simp [results, Tryz.results75, go_sem]; go_simp) rfl ⟨_, rfl, HF.out, ?_⟩
    exact (HB.out.setCell (by simp only []; omega) _).setCell (by simp only []; omega) _

end Go.Proofs.YtgihaakgadmidaaGreat
