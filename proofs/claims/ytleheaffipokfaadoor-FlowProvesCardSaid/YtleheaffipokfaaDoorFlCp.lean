/-
  Rows copied behind an empty literal: edges, numbers, marks; the law's copies and To.
-/
import Derived.Test.YtleheaffipokfaaDoorFlDb
import Derived.ArgAppend
namespace Go.Proofs.YtleheaffipokfaaDoor
open Go.RowKit

theorem infoPair : (Tryd.prog.info? 33).map (fun i => (i.zero, i.size, i.bytes)) = some (some (.agg #[.int .i64 0, .int .i64 0]), 2, 16) := by kernel_rfl
/-- Pairs as cells. -/
def flatP : List (Int × Int) → List Value
  | [] => []
  | x :: r => .int .i64 x.1 :: .int .i64 x.2 :: flatP r
theorem flatP_len : ∀ l, (flatP l).length = l.length * 2
  | [] => rfl
  | x :: r => by rw [flatP, List.length_cons, List.length_cons, flatP_len r, List.length_cons]; omega
theorem flatP_at : ∀ (l : List (Int × Int)) (i : Nat) (h : i < l.length), (flatP l)[i * 2]? = some (.int .i64 l[i].1) ∧ (flatP l)[i * 2 + 1]? = some (.int .i64 l[i].2)
  | x :: r, 0, h => by simp [flatP]
  | x :: r, i + 1, h => by
    have := flatP_at r i (by simpa using h)
    rw [flatP, show (i + 1) * 2 = i * 2 + 1 + 1 by omega]
    simpa using this
theorem flatP_app : ∀ (l m : List (Int × Int)), flatP (l ++ m) = flatP l ++ flatP m
  | [], m => rfl
  | x :: r, m => by rw [List.cons_append, flatP, flatP, flatP_app r m]; rfl
theorem prs_of_owns {w : World} {base : Nat} {e : TypeId} {v : Value} {n : Nat} {l : List (Int × Int)} (h : w.ownsRow base e 2 v n (flatP l)) (hl : l.length ≤ 9223372036854775807) : Prs w v l := by
  have hn : n = l.length := by have := h.1; rw [flatP_len] at this; omega
  subst hn
  rcases h.2 with ⟨rfl, e⟩ | ⟨g, cap, cur, rfl, _, _, hnc, hcm, _, _⟩
  · have : l = [] := List.length_eq_zero_iff.1 e
    subst this
    exact Or.inl ⟨rfl, none, 0, rfl, fun _ => rfl⟩
  · refine Or.inr ⟨hl, g, 0, cap, hnc, by unfold maxLen at hcm; omega, rfl, fun i hi => ?_⟩
    obtain ⟨a, b⟩ := flatP_at l i hi
    rw [Nat.zero_add]
    exact ⟨(h.cellAt _ (by omega)).trans a, (h.cellAt _ (by omega)).trans b⟩
theorem copyI (W : World) (v : Value) (l : List Int) (hv : I64s W v l) (hs : l.length ≤ 100000) (g : Nat) :
    ∃ v' w', (Builtin.append_ #[23, 23] 23 #[.slice (some ⟨g, 0, none⟩) 0 0, v]).run Tryd.prog W = .ok v' w' ∧ I64s w' v' l ∧ Below W.heap.size W w' := by
  obtain ⟨i0, hi, hz0, hz1, hz2⟩ := info_parts infoInt
  have ht : Tryd.prog.underlying 23 = some (.slice 3) := Tryd.underlying23
  rcases hv with ⟨rfl, p, c, rfl, hpc⟩ | ⟨hl, b, o, c, -, -, rfl, hc⟩
  · refine ⟨.slice (some ⟨g, 0, none⟩) 0 0, W, ?_, Or.inl ⟨rfl, _, _, rfl, fun h => by cases h⟩, Below.refl _ _⟩
    cases p with
    | none =>
      simp [Builtin.append_, run_underlying ht, sizeOf, typeInfo, hi, Builtin.lenOf, Builtin.firstCells, storeCells]
    | some ad =>
      have := run_append_room_cells (P := Tryd.prog) (w := W) 23 23 3 i0 ht hi g 0 0 0 ad 0 c [] (by simp) (by intro j u h; simp at h) (by intro u h; cases h) (by omega) (by intro j h; simp at h) (by intro j h; simp at h)
      simpa [World.setCells] using this
  · by_cases h0 : l.length = 0
    · obtain rfl : l = [] := List.length_eq_zero_iff.1 h0
      refine ⟨.slice (some ⟨g, 0, none⟩) 0 0, W, ?_, Or.inl ⟨rfl, _, _, rfl, fun h => by cases h⟩, Below.refl _ _⟩
      have := run_append_room_cells (P := Tryd.prog) (w := W) 23 23 3 i0 ht hi g 0 0 0 ⟨b, o, none⟩ 0 c [] (by simp) (by intro j u h; simp at h) (by intro u h; cases h) (by omega) (by intro j h; simp at h) (by intro j h; simp at h)
      simpa [World.setCells] using this
    · obtain ⟨v', w', hr, h1, h2⟩ := run_append_arg_grows (P := Tryd.prog) (w := W) 23 23 3 i0 (.int .i64 0) 1 8 ht hi hz0 hz1 hz2 rfl (by decide) ⟨g, 0, none⟩ 0 0 [] (by simp) (by intro j u h; simp at h) ⟨b, o, none⟩ l.length c (l.map (Value.int .i64)) (by simp)
        (fun j u hu => by
          have e : (⟨b, o, none⟩ : Addr).add j = ⟨b, o + j, none⟩ := by unfold Addr.add; split <;> simp_all
          rw [e]
          obtain ⟨hj, hu⟩ := List.getElem?_eq_some_iff.1 hu
          have hj' : j < l.length := by simpa using hj
          rw [hc j hj', ← hu, List.getElem_map]) (by omega) (by simp [maxLen]; omega) (by omega)
      rw [List.nil_append, Nat.zero_add] at h1
      exact ⟨v', w', hr, ints_of_owns h1 hl, (Below.refl _ _).grown h2 (Nat.le_refl _) (by intro k hk; cases hk)⟩
theorem copyB (W : World) (v : Value) (l : List Bool) (hv : Bools W v l) (hs : l.length ≤ 100000) (g : Nat) :
    ∃ v' w', (Builtin.append_ #[24, 24] 24 #[.slice (some ⟨g, 0, none⟩) 0 0, v]).run Tryd.prog W = .ok v' w' ∧ Bools w' v' l ∧ Below W.heap.size W w' := by
  obtain ⟨i0, hi, hz0, hz1, hz2⟩ := info_parts infoBool
  have ht : Tryd.prog.underlying 24 = some (.slice 4) := Tryd.underlying24
  rcases hv with ⟨rfl, p, c, rfl, hpc⟩ | ⟨hl, b, o, c, -, -, rfl, hc⟩
  · refine ⟨.slice (some ⟨g, 0, none⟩) 0 0, W, ?_, Or.inl ⟨rfl, _, _, rfl, fun h => by cases h⟩, Below.refl _ _⟩
    cases p with
    | none =>
      simp [Builtin.append_, run_underlying ht, sizeOf, typeInfo, hi, Builtin.lenOf, Builtin.firstCells, storeCells]
    | some ad =>
      have := run_append_room_cells (P := Tryd.prog) (w := W) 24 24 4 i0 ht hi g 0 0 0 ad 0 c [] (by simp) (by intro j u h; simp at h) (by intro u h; cases h) (by omega) (by intro j h; simp at h) (by intro j h; simp at h)
      simpa [World.setCells] using this
  · by_cases h0 : l.length = 0
    · obtain rfl : l = [] := List.length_eq_zero_iff.1 h0
      refine ⟨.slice (some ⟨g, 0, none⟩) 0 0, W, ?_, Or.inl ⟨rfl, _, _, rfl, fun h => by cases h⟩, Below.refl _ _⟩
      have := run_append_room_cells (P := Tryd.prog) (w := W) 24 24 4 i0 ht hi g 0 0 0 ⟨b, o, none⟩ 0 c [] (by simp) (by intro j u h; simp at h) (by intro u h; cases h) (by omega) (by intro j h; simp at h) (by intro j h; simp at h)
      simpa [World.setCells] using this
    · obtain ⟨v', w', hr, h1, h2⟩ := run_append_arg_grows (P := Tryd.prog) (w := W) 24 24 4 i0 (.bool false) 1 1 ht hi hz0 hz1 hz2 rfl (by decide) ⟨g, 0, none⟩ 0 0 [] (by simp) (by intro j u h; simp at h) ⟨b, o, none⟩ l.length c (l.map Value.bool) (by simp)
        (fun j u hu => by
          have e : (⟨b, o, none⟩ : Addr).add j = ⟨b, o + j, none⟩ := by unfold Addr.add; split <;> simp_all
          rw [e]
          obtain ⟨hj, hu⟩ := List.getElem?_eq_some_iff.1 hu
          have hj' : j < l.length := by simpa using hj
          rw [hc j hj', ← hu, List.getElem_map]) (by omega) (by simp [maxLen]; omega) (by omega)
      rw [List.nil_append, Nat.zero_add] at h1
      exact ⟨v', w', hr, bools_of_owns h1 hl, (Below.refl _ _).grown h2 (Nat.le_refl _) (by intro k hk; cases hk)⟩
theorem copyP (W : World) (v : Value) (l : List (Int × Int)) (hv : Prs W v l) (hs : l.length ≤ 100000) (g : Nat) :
    ∃ v' w', (Builtin.append_ #[22, 22] 22 #[.slice (some ⟨g, 0, none⟩) 0 0, v]).run Tryd.prog W = .ok v' w' ∧ Prs w' v' l ∧ Below W.heap.size W w' := by
  obtain ⟨i0, hi, hz0, hz1, hz2⟩ := info_parts infoPair
  have ht : Tryd.prog.underlying 22 = some (.slice 33) := Tryd.underlying22
  rcases hv with ⟨rfl, p, c, rfl, hpc⟩ | ⟨hl, b, o, c, -, -, rfl, hc⟩
  · refine ⟨.slice (some ⟨g, 0, none⟩) 0 0, W, ?_, Or.inl ⟨rfl, _, _, rfl, fun h => by cases h⟩, Below.refl _ _⟩
    cases p with
    | none =>
      simp [Builtin.append_, run_underlying ht, sizeOf, typeInfo, hi, Builtin.lenOf, Builtin.firstCells, storeCells]
    | some ad =>
      have := run_append_room_cells (P := Tryd.prog) (w := W) 22 22 33 i0 ht hi g 0 0 0 ad 0 c [] (by simp) (by intro j u h; simp at h) (by intro u h; cases h) (by omega) (by intro j h; simp at h) (by intro j h; simp at h)
      simpa [World.setCells] using this
  · by_cases h0 : l.length = 0
    · obtain rfl : l = [] := List.length_eq_zero_iff.1 h0
      refine ⟨.slice (some ⟨g, 0, none⟩) 0 0, W, ?_, Or.inl ⟨rfl, _, _, rfl, fun h => by cases h⟩, Below.refl _ _⟩
      have := run_append_room_cells (P := Tryd.prog) (w := W) 22 22 33 i0 ht hi g 0 0 0 ⟨b, o, none⟩ 0 c [] (by simp) (by intro j u h; simp at h) (by intro u h; cases h) (by omega) (by intro j h; simp at h) (by intro j h; simp at h)
      simpa [World.setCells] using this
    · obtain ⟨v', w', hr, h1, h2⟩ := run_append_arg_grows (P := Tryd.prog) (w := W) 22 22 33 i0 (.agg #[.int .i64 0, .int .i64 0]) 2 16 ht hi hz0 hz1 hz2 rfl (by decide) ⟨g, 0, none⟩ 0 0 [] (by simp) (by intro j u h; simp at h) ⟨b, o, none⟩ l.length c (flatP l) (by rw [flatP_len])
        (fun j u hu => by
          have e : (⟨b, o, none⟩ : Addr).add j = ⟨b, o + j, none⟩ := by unfold Addr.add; split <;> simp_all
          rw [e]
          have hj : j < l.length * 2 := by have := (List.getElem?_eq_some_iff.1 hu).1; rwa [flatP_len] at this
          obtain ⟨k, r, hk, hr⟩ : ∃ k r, j = k * 2 + r ∧ r < 2 := ⟨j / 2, j % 2, by omega, Nat.mod_lt _ (by decide)⟩
          have hkl : k < l.length := by omega
          obtain ⟨c0, c1⟩ := hc k hkl
          obtain ⟨f0, f1⟩ := flatP_at l k hkl
          subst hk
          match r, hr with
          | 0, _ =>
            rw [Nat.add_zero] at hu
            rw [Nat.add_zero, c0, ← hu, f0]
          | 1, _ => rw [← Nat.add_assoc, c1, ← hu, f1]) (by omega) (by simp [maxLen]; omega) (by omega)
      rw [List.nil_append, Nat.zero_add] at h1
      exact ⟨v', w', hr, prs_of_owns h1 hl, (Below.refl _ _).grown h2 (Nat.le_refl _) (by intro k hk; cases hk)⟩
set_option maxRecDepth 100000 in
theorem copies_is {w : World} {v : Value} {l : List (Int × Int)} (h : Prs w v l) (hs : l.length ≤ 100000) :
    Calls Tryd.prog 6 #[v] w fun e w' => ∃ u, e = .returned u ∧ Prs w' u l ∧ Below w.heap.size w w' := by
  obtain ⟨W1, hW1⟩ := named (w.alloc (.cells #[] 33))
  have hb1 : Below w.heap.size w W1 := by rw [hW1]; exact below_alloc1 _
  obtain ⟨u, w2, hr, hp, hb2⟩ := copyP W1 v l (h.below hb1) hs w.heap.size
  have HP := Lib.hid hp
  have HB := Lib.hid (bOn6 hb1 hb2)
  have HR := Lib.hid hr
  have e1 := hW1.symm
  clear h hb1 hr hp hb2 hW1
  go_enter Tryd.func6, Tryd.ntmps6
  go_wp2_with (at_builtin; refine wpList_append_run (by rfl) _ _ _ rfl _ _ _ rfl rfl HR.out ?_)
  go_ret
  exact ⟨_, rfl, HP.out, HB.out⟩
end Go.Proofs.YtleheaffipokfaaDoor
