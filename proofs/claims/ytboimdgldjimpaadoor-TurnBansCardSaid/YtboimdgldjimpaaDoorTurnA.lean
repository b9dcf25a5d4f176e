/-
  The program's own tables of turns: its small functions, and what Check tells.
-/
import Derived.Test.YtboimdgldjimpaaDoorRWith
namespace Go.Proofs.YtboimdgldjimpaaDoor
open Go.RowKit

/-- An error: none, or Faults round an Errno. -/
def FaultV (w : World) (v : Value) (ps : List (ByteArray × Int)) (e : Int) : Prop := (ps = [] ∧ v = .nilIface) ∨ (ps ≠ [] ∧ ErrV w v ps e)
theorem FaultV.below {w w' : World} (hb : Below w.heap.size w w') {v : Value} {ps : List (ByteArray × Int)} {e : Int} (h : FaultV w v ps e) : FaultV w' v ps e :=
  h.imp id (fun h => ⟨h.1, h.2.below hb⟩)
/-- What a call answers that tells an error. -/
def EPost (ps : List (ByteArray × Int)) (e : Int) (w : World) (ev : Ending) (w' : World) : Prop := ∃ v, ev = .returned v ∧ FaultV w' v ps e ∧ Below w.heap.size w w'
/-- What a call answers that tells a table and an error. -/
def TEPost (I O : Int) (l : List Int) (ps : List (ByteArray × Int)) (e : Int) (w : World) (ev : Ending) (w' : World) : Prop :=
  ∃ tv v, ev = .returned (.tuple #[tv, v]) ∧ TabV w' tv I O l ∧ FaultV w' v ps e ∧ Below w.heap.size w w'

theorem fault_laid (w : World) (g : Nat) (hg : w.heap.size = g) (p : ByteArray) (n e : Int) : FaultV (w.alloc (.cells #[.string p, .int .i64 n, .iface 60 (.int .i64 e)] 65)) (.iface 61 (.pointer (some ⟨g, 0, none⟩))) [(p, n)] e := by
  subst hg
  exact Or.inr ⟨by simp, w.heap.size, _, rfl, by simp, by simp, by simp, rfl⟩

theorem tfault_any (n e : Int) (w : World) :
    Calls Tryd.prog 31 #[.int .i64 n, .int .i64 e] w fun ev w' => ev = .returned (.iface 61 (.pointer (some ⟨w.heap.size, 0, none⟩))) ∧ w' = w.alloc (.cells #[.string turnB, .int .i64 n, .iface 60 (.int .i64 e)] 65) := by
  go_enter Tryd.func31, Tryd.ntmps31
  go_wp2
  go_ret
  exact ⟨rfl, rfl⟩

theorem among_any (i n : Int) (w : World) : Calls Tryd.prog 35 #[.int .i64 i, .int .i64 n] w fun e w' => e = .returned (.bool (decide (0 ≤ i ∧ i < n))) ∧ w = w' := by
  by_cases h0 : 0 ≤ i
  · by_cases h1 : i < n
    · have h2 : Hid (decide (0 ≤ i ∧ i < n) = true) := Lib.hid (by simp [h0, h1])
      have d0 : decide (0 ≤ i) = true := by simpa using h0
      go_enter Tryd.func35, Tryd.ntmps35
      go_wp2
      go_ret
      first | exact ⟨rfl, rfl⟩ | exact ⟨ret_bool h2.out.symm, rfl⟩
    · have h2 : Hid (decide (0 ≤ i ∧ i < n) = false) := Lib.hid (by simp; omega)
      have d0 : decide (0 ≤ i) = true := by simpa using h0
      have d1 : decide (i < n) = false := by simp; omega
      go_enter Tryd.func35, Tryd.ntmps35
      go_wp2
      go_ret
      first | exact ⟨rfl, rfl⟩ | exact ⟨ret_bool h2.out.symm, rfl⟩
  · have h2 : Hid (decide (0 ≤ i ∧ i < n) = false) := Lib.hid (by simp; omega)
    have d0 : decide (0 ≤ i) = false := by simp; omega
    go_enter Tryd.func35, Tryd.ntmps35
    go_wp2
    go_ret
    first | exact ⟨rfl, rfl⟩ | exact ⟨ret_bool h2.out.symm, rfl⟩

theorem place_any (I O : Int) (u : Value) (x y : Int) (w : World) (h0 : 0 ≤ x * O) (h1 : 0 ≤ y) (h2 : x * O + y ≤ 1000000) :
    Calls Tryd.prog 37 #[.agg #[.int .i64 I, .int .i64 O, u], .int .i64 x, .int .i64 y] w fun e w' => e = .returned (.int .i64 (x * O + y)) ∧ w' = w.alloc (.cells #[.int .i64 I, .int .i64 O, u] 34) := by
  go_enter Tryd.func37, Tryd.ntmps37
  go_wp2
  go_ret
  exact ⟨rfl, rfl⟩

theorem counts_in (I O : Int) (w : World) (h : I < 0 ∨ 16 < I) :
    Calls Tryd.prog 30 #[.int .i64 I, .int .i64 O] w (EPost [(turnB, 0)] 1 w) := by
  go_enter Tryd.func30, Tryd.ntmps30
  go_wp2_with (go_at_call 31; refine (tfault_any _ _ _).mono ?_; rintro e w' ⟨rfl, rfl⟩)
  all_goals
    go_ret
    exact ⟨_, rfl, fault_laid _ _ rfl _ _ _, (Below.refl _ _).alloc (Nat.le_refl _) _⟩
theorem counts_out (I O : Int) (w : World) (h0 : ¬ (I < 0 ∨ 16 < I)) (h : O < 0 ∨ 16 < O) :
    Calls Tryd.prog 30 #[.int .i64 I, .int .i64 O] w (EPost [(turnB, 1)] 1 w) := by
  have h1 : 0 ≤ I := by omega
  have h2 : I ≤ 16 := by omega
  clear h0
  go_enter Tryd.func30, Tryd.ntmps30
  go_wp2_with (go_at_call 31; refine (tfault_any _ _ _).mono ?_; rintro e w' ⟨rfl, rfl⟩)
  all_goals
    go_ret
    exact ⟨_, rfl, fault_laid _ _ rfl _ _ _, (Below.refl _ _).alloc (Nat.le_refl _) _⟩
theorem counts_ok (I O : Int) (w : World) (h0 : ¬ (I < 0 ∨ 16 < I)) (h : ¬ (O < 0 ∨ 16 < O)) :
    Calls Tryd.prog 30 #[.int .i64 I, .int .i64 O] w fun e w' => e = .returned .nilIface ∧ w = w' := by
  have h1 : 0 ≤ I := by omega
  have h2 : I ≤ 16 := by omega
  have h3 : 0 ≤ O := by omega
  have h4 : O ≤ 16 := by omega
  clear h0 h
  go_enter Tryd.func30, Tryd.ntmps30
  go_wp2
  go_ret
  exact ⟨rfl, rfl⟩

theorem FaultV.iface {w : World} {v : Value} {p : ByteArray × Int} {r : List (ByteArray × Int)} {e : Int} (h : FaultV w v (p :: r) e) : ∃ b, v = .iface 61 (.pointer (some ⟨b, 0, none⟩)) ∧ ErrV w v (p :: r) e := by
  rcases h with ⟨h, _⟩ | ⟨_, h⟩
  · cases h
  · obtain ⟨b, u, hv, hr⟩ := h
    exact ⟨b, hv, b, u, hv, hr⟩
theorem below_alloc1 {w : World} (a : Obj) : Below w.heap.size w (w.alloc a) := (Below.refl _ _).alloc (Nat.le_refl _) _

/-! ### Check -/
set_option maxHeartbeats 1000000 in
theorem tcheck_ins (I O : Int) (u : Value) (w : World) (h : I < 0 ∨ 16 < I) :
    Calls Tryd.prog 11 #[.agg #[.int .i64 I, .int .i64 O, u]] w (EPost [(turnB, 0)] 1 w) := by
  go_enter Tryd.func11, Tryd.ntmps11
  go_wp2_with fail
  refine (counts_in I O _ h).mono ?_
  rintro e w' ⟨v, rfl, hF, hb⟩
  obtain ⟨b, rfl, hE⟩ := hF.iface
  have HE := Lib.hid hE
  have HB := Lib.hid hb
  clear hE hF hb h
  go_wp2_with fail
  go_ret
  exact ⟨_, rfl, Or.inr ⟨by simp, HE.out⟩, (below_alloc1 _).trans (HB.out.mono (by simp))⟩
set_option maxHeartbeats 1000000 in
theorem tcheck_outs (I O : Int) (u : Value) (w : World) (h0 : ¬ (I < 0 ∨ 16 < I)) (h : O < 0 ∨ 16 < O) :
    Calls Tryd.prog 11 #[.agg #[.int .i64 I, .int .i64 O, u]] w (EPost [(turnB, 1)] 1 w) := by
  go_enter Tryd.func11, Tryd.ntmps11
  go_wp2_with fail
  refine (counts_out I O _ h0 h).mono ?_
  rintro e w' ⟨v, rfl, hF, hb⟩
  obtain ⟨b, rfl, hE⟩ := hF.iface
  have HE := Lib.hid hE
  have HB := Lib.hid hb
  clear hE hF hb h h0
  go_wp2_with fail
  go_ret
  exact ⟨_, rfl, Or.inr ⟨by simp, HE.out⟩, (below_alloc1 _).trans (HB.out.mono (by simp))⟩
set_option maxHeartbeats 1000000 in
theorem tcheck_size (I O : Int) (q : Option Addr) (n c : Nat) (w : World) (h0 : ¬ (I < 0 ∨ 16 < I)) (h1 : ¬ (O < 0 ∨ 16 < O)) (s : 0 ≤ I * O ∧ I * O ≤ 256) (h : ¬ (n : Int) = I * O) :
    Calls Tryd.prog 11 #[.agg #[.int .i64 I, .int .i64 O, .slice q n c]] w (EPost [(turnB, 2)] 9 w) := by
  obtain ⟨s0, s1⟩ := s
  go_enter Tryd.func11, Tryd.ntmps11
  go_wp2_with (first | (go_at_call 30; refine (counts_ok I O _ h0 h1).mono ?_; rintro e w' ⟨rfl, rfl⟩) | (go_at_call 31; refine (tfault_any _ _ _).mono ?_; rintro e w' ⟨rfl, rfl⟩))
  all_goals
    go_ret
    exact ⟨_, rfl, fault_laid _ _ (by simp) _ _ _, below_alloc2 _ _⟩
set_option maxHeartbeats 1000000 in
theorem tcheck_row (I O : Int) (u : Value) (l : List Int) (w : World) (h0 : ¬ (I < 0 ∨ 16 < I)) (h1 : ¬ (O < 0 ∨ 16 < O)) (s : 0 ≤ I * O ∧ I * O ≤ 256) (h : (l.length : Int) = I * O) (hu : I64s w u l) (hin : In64 l) :
    Calls Tryd.prog 11 #[.agg #[.int .i64 I, .int .i64 O, u]] w (EPost (turnW (badAt 3 l)) (badAt 3 l).2 w) := by
  obtain ⟨s0, s1⟩ := s
  have hlen : l.length ≤ 256 := by omega
  rcases hu with ⟨rfl, p, c, rfl, -⟩ | ⟨hl, b, o, c, -, -, rfl, hc⟩
  · have h' : I * O = 0 := by simpa using h.symm
    clear h hin hlen
    go_enter Tryd.func11, Tryd.ntmps11
    go_wp2_with (go_at_call 30; refine (counts_ok I O _ h0 h1).mono ?_; rintro e w' ⟨rfl, rfl⟩)
    refine wp_loop_rounds 1 ?_
    rw [rounds_succ]
    go_wp2
    go_ret
    exact ⟨_, rfl, Or.inl ⟨rfl, rfl⟩, below_alloc1 _⟩
  have HC := Lib.hid hc
  clear hc
  go_enter Tryd.func11, Tryd.ntmps11
  go_wp2_with (go_at_call 30; refine (counts_ok I O _ h0 h1).mono ?_; rintro e w' ⟨rfl, rfl⟩)
  go_loop [27] (fun i => ∃ k : Nat, k ≤ l.length ∧ i = .int .i64 k ∧ Hid ((l.take k).all wgt = true)) (fun i => l.length - (intOf i).toNat)
  case atStart => exact ⟨0, Nat.zero_le _, rfl, Lib.hid (by rw [List.take_zero]; exact rfl)⟩
  case round =>
    obtain ⟨k, hk, rfl, HS⟩ := hrel
    by_cases hlt : k < l.length
    · have g := HC.out k hlt
      have hb := World.block_lt_of_cell? w _ g
      obtain ⟨x0, x1⟩ := hin _ (List.getElem_mem hlt)
      by_cases hw : wgt l[k] = true
      · have HN := Lib.hid (all_snoc l k hlt HS.out hw)
        go_wp2_with (go_at_call 32; refine (weight_any _ _ (by omega) (by omega)).mono ?_; rintro e w' ⟨rfl, rfl⟩)
        go_round
        case rel => exact ⟨k + 1, by omega, by go_num, HN⟩
        case measure => simp [intOf]; omega
      · have hw' : wgt l[k] = false := by simpa using hw
        have HN := Lib.hid (badAt_off 3 l k hlt HS.out hw')
        clear hw
        go_wp2_with (first | (go_at_call 32; refine (weight_any _ _ (by omega) (by omega)).mono ?_; rintro e w' ⟨rfl, rfl⟩) | (go_at_call 31; refine (tfault_any _ _ _).mono ?_; rintro e w' ⟨rfl, rfl⟩))
        go_ret
        refine ⟨_, rfl, ?_, below_alloc2 _ _⟩
        rw [HN.out]
        exact fault_laid _ _ (by simp) _ _ _
    · have HN : Hid (badAt 3 l = (0, 0)) := by
        have := HS.out
        rw [List.take_of_length_le (by omega)] at this
        exact badAt_ok 3 l this
      go_wp2
      go_ret
      refine ⟨_, rfl, ?_, below_alloc1 _⟩
      rw [HN.out]
      exact Or.inl ⟨rfl, rfl⟩

/-- What the program's Check tells of any table. -/
theorem tcheck_any (I O : Int) (u : Value) (l : List Int) (w : World) (hu : I64s w u l) (hin : In64 l) :
    Calls Tryd.prog 11 #[.agg #[.int .i64 I, .int .i64 O, u]] w (EPost (turnW (chkT I O l)) (chkT I O l).2 w) := by
  unfold chkT
  by_cases h0 : I < 0 ∨ 16 < I
  · rw [if_pos h0]; exact tcheck_ins I O u w h0
  rw [if_neg h0]
  by_cases h1 : O < 0 ∨ 16 < O
  · rw [if_pos h1]; exact tcheck_outs I O u w h0 h1
  rw [if_neg h1]
  have s := size_le (I := I) (O := O) ⟨by omega, by omega, by omega, by omega⟩
  by_cases h : (l.length : Int) = I * O
  · rw [if_neg (by simpa using h)]; exact tcheck_row I O u l w h0 h1 s h hu hin
  · obtain ⟨q, c, rfl⟩ := hu.shape
    rw [if_pos h]; exact tcheck_size I O q l.length c w h0 h1 s h

end Go.Proofs.YtboimdgldjimpaaDoor
