/-
  Rows of the document's structs that a call makes: copies, appends, stores, and what stays.
-/
import Derived.Test.YtlfihaajnjeaeaaGreatDoorLaw3A
import Derived.Test.YtlfihaajnjeaeaaGreatDoorCopy0
namespace Go.Proofs.YtlfihaajnjeaeaaGreatDoor
open Go.RowKit

theorem infoRVert : (Tryz.prog.info? 79).map (fun i => (i.zero, i.size, i.bytes)) = some (some (.agg #[.int .i64 0, .int .i64 0, .int .i64 0]), 3, 24) := by kernel_rfl
theorem infoRArc : (Tryz.prog.info? 75).map (fun i => (i.zero, i.size, i.bytes)) = some (some (.agg #[.int .i64 0, .int .i64 0, .int .i64 0]), 3, 24) := by kernel_rfl
/-- v is a literal of one table. -/
def LitR (I O : Int) (l : List Int) (v : Value) (w : World) : Prop := ∃ g u, v = .slice (some ⟨g, 0, none⟩) 1 1 ∧ Blk w g #[.int .i64 I, .int .i64 O, u] 77 ∧ RowI w u l
theorem LitR.below {I O : Int} {l : List Int} {v : Value} {w w' : World} (h : LitR I O l v w) (hb : Below w.heap.size w w') : LitR I O l v w' := by
  obtain ⟨g, u, e, h, h'⟩ := h
  exact ⟨g, u, e, h.keep hb, h'.below hb⟩
theorem infoRTab : (Tryz.prog.info? 77).map (fun i => (i.zero, i.size, i.bytes)) = some (some (.agg #[.int .i64 0, .int .i64 0, .slice none 0 0]), 3, 40) := by kernel_rfl
theorem appR {W : World} {base : Nat} {v u : Value} {l : List Tab} {us : List Value} {t : Tab} (h : W.ownsRow base 77 3 v l.length (flatB l us)) (hus : us.length = l.length) (hu : LitR t.1 t.2.1 t.2.2 u W) (hl : l.length ≤ 100000) (hb : base ≤ W.heap.size) :
    ∃ q c w' y, (Builtin.append_ #[24, 24] 24 #[v, u]).run Tryz.prog W = .ok (.slice q (l.length + 1) c) w' ∧ w'.ownsRow base 77 3 (.slice q (l.length + 1) c) (l.length + 1) (flatB (l ++ [t]) (us ++ [y])) ∧ W.grownBy w' v.ownBlock ∧ RowI W y t.2.2 := by
  obtain ⟨i0, hi, hz0, hz1, hz2⟩ := info_parts infoRTab
  obtain ⟨g, y, rfl, hk, hy⟩ := hu
  have hy1 : y.oneCell' = true := by
    obtain ⟨b', hy'⟩ := hy
    obtain ⟨q, c, rfl⟩ := own_shape hy'
    rfl
  obtain ⟨v', w', hr, h1, h2, -⟩ := run_append_own (P := Tryz.prog) W base 24 24 77 i0 (.agg #[.int .i64 0, .int .i64 0, .slice none 0 0]) 3 40 Tryz.underlying24 hi hz0 hz1 hz2 rfl (by decide) v l.length (flatB l us) h ⟨g, 0, none⟩ 1 1 [.int .i64 t.1, .int .i64 t.2.1, y] rfl
    (fun j u hj => by
      obtain ⟨k0, k1, k2, -, -, -⟩ := hk.o3
      match j, hj with
      | 0, hj => simp at hj; subst hj; simpa [Addr.add] using k0
      | 1, hj => simp at hj; subst hj; simpa [Addr.add] using k1
      | 2, hj => simp at hj; subst hj; simpa [Addr.add] using k2) (by intro u hu; simp at hu; rcases hu with rfl | rfl | rfl; rfl; rfl; exact hy1) (by simp [maxLen]; omega) (by omega) hb
  obtain ⟨q, c, rfl⟩ := own_shape h1
  exact ⟨q, c, w', y, hr, by rw [flatB_append _ _ _ _ hus]; exact h1, h2, hy⟩

/-! ### what stays -/
/-- A row's own block is no block of another type. -/
theorem own_ne_blk {w : World} {base : Nat} {e : TypeId} {size : Nat} {v : Value} {n : Nat} {xs : List Value} (h : w.ownsRow base e size v n xs) {b : Nat} {cs : Array Value} {t : TypeId} (hk : Blk w b cs t) (hne : e ≠ t) : v.ownBlock ≠ some b := by
  rcases h.2 with ⟨rfl, _⟩ | ⟨g, cap, cur, rfl, _, h4, _⟩
  · simp [Value.ownBlock]
  · simp only [Value.ownBlock, ne_eq, Option.some.injEq]
    intro e0
    subst e0
    unfold Blk at hk
    rw [hk] at h4
    injection h4 with h4
    injection h4 with _ h4
    exact hne h4.symm
/-- .. where a block of another type is written. -/
theorem owns_set {w : World} {base : Nat} {e : TypeId} {size : Nat} {v : Value} {n : Nat} {xs : List Value} (h : w.ownsRow base e size v n xs) {k : Nat} {cs : Array Value} {t : TypeId} (hk : Blk w k cs t) (hne : e ≠ t) (o : Nat) (x : Value) : (w.setCell ⟨k, o, none⟩ x).ownsRow base e size v n xs := by
  refine ⟨h.1, ?_⟩
  rcases h.2 with h0 | ⟨g, cap, cur, h1, h2, h3, h4⟩
  · exact Or.inl h0
  · refine Or.inr ⟨g, cap, cur, h1, h2, ?_, h4⟩
    have hg : g ≠ k := fun e => by
      subst e
      unfold Blk at hk
      rw [hk] at h3
      injection h3 with h3
      injection h3 with _ h3
      exact hne h3.symm
    exact (heap_setCell_other w ⟨k, o, none⟩ g x hg).trans h3
/-- A row's own cell is written. -/
theorem owns_put {w : World} {base : Nat} {e : TypeId} {size : Nat} {q : Option Addr} {c n : Nat} {xs : List Value} (h : w.ownsRow base e size (.slice q n c) n xs) {j : Nat} (hj : j < n * size) (x : Value) :
    ∃ g, q = some ⟨g, 0, none⟩ ∧ base ≤ g ∧ g < w.heap.size ∧ w.cell? ⟨g, j, none⟩ = xs[j]? ∧ w.frozen? ⟨g, j, none⟩ = false ∧ (w.setCell ⟨g, j, none⟩ x).ownsRow base e size (.slice q n c) n (xs.set j x) ∧
      ∀ (e' : TypeId) (base' size' : Nat) (v' : Value) (n' : Nat) (xs' : List Value), e' ≠ e → w.ownsRow base' e' size' v' n' xs' → (w.setCell ⟨g, j, none⟩ x).ownsRow base' e' size' v' n' xs' := by
  have h0 := h
  rcases h.2 with ⟨e1, e2⟩ | ⟨g, cap, cur, e1, hg, hh, hnc, hcm, hcs, htake⟩
  · subst e2; simp at hj
  · injection e1 with e1 e2 e3
    subst e1
    subst e3
    have hlt : g < w.heap.size := (Array.getElem?_eq_some_iff.1 hh).1
    have hk : Blk w g cur e := hh
    refine ⟨g, rfl, hg, hlt, h0.cellAt j hj, hk.free j, ⟨by rw [List.length_set]; exact h0.1, Or.inr ⟨g, c, cur.setIfInBounds j x, rfl, hg, hk.set j x, hnc, hcm, by rw [Array.size_setIfInBounds]; exact hcs, ?_⟩⟩, fun e' base' size' v' n' xs' hne h' => owns_set h' hk hne j x⟩
    rw [Array.toList_setIfInBounds, List.take_set, htake]
/-- A row copied behind an empty literal. -/
theorem copy3 {t e : TypeId} (ht : Tryz.prog.underlying t = some (.slice e)) (hinf : (Tryz.prog.info? e).map (fun i => (i.zero, i.size, i.bytes)) = some (some (.agg #[.int .i64 0, .int .i64 0, .int .i64 0]), 3, 24)) {W : World} {base : Nat} {v : Value} {l : List Tri} (hv : Tris W v l) (hs : l.length ≤ 100000) {g : Nat} (hE : W.ownsRow base e 3 (.slice (some ⟨g, 0, none⟩) 0 0) 0 []) (hb : base ≤ W.heap.size) :
    ∃ v' w', (Builtin.append_ #[t, t] t #[.slice (some ⟨g, 0, none⟩) 0 0, v]).run Tryz.prog W = .ok v' w' ∧ w'.ownsRow base e 3 v' l.length (flatT l) ∧ Below W.heap.size W w' := by
  obtain ⟨i0, hi, hz0, hz1, hz2⟩ := info_parts hinf
  have emp : ∀ (ad : Addr) (c : Nat), (Builtin.append_ #[t, t] t #[.slice (some ⟨g, 0, none⟩) 0 0, .slice (some ad) 0 c]).run Tryz.prog W = .ok (.slice (some ⟨g, 0, none⟩) 0 0) W := fun ad c => by
    have := run_append_room_cells (P := Tryz.prog) (w := W) t t e i0 ht hi g 0 0 0 ad 0 c [] (by simp) (by intro j u h; simp at h) (by intro u h; cases h) (by omega) (by intro j h; simp at h) (by intro j h; simp at h)
    simpa [World.setCells] using this
  rcases hv with ⟨rfl, p, c, rfl, hpc⟩ | ⟨hl, b, o, c, -, -, rfl, hc⟩
  · refine ⟨.slice (some ⟨g, 0, none⟩) 0 0, W, ?_, hE, Below.refl _ _⟩
    cases p with
    | none => simp [Builtin.append_, run_underlying ht, sizeOf, typeInfo, hi, Builtin.lenOf, Builtin.firstCells, storeCells]
    | some ad => exact emp ad c
  · by_cases h0 : l.length = 0
    · obtain rfl : l = [] := List.length_eq_zero_iff.1 h0
      exact ⟨.slice (some ⟨g, 0, none⟩) 0 0, W, emp ⟨b, o, none⟩ c, hE, Below.refl _ _⟩
    · obtain ⟨v', w', hr, h1, h2⟩ := run_append_arg_grows (P := Tryz.prog) (w := W) t t e i0 (.agg #[.int .i64 0, .int .i64 0, .int .i64 0]) 3 24 ht hi hz0 hz1 hz2 rfl (by decide) ⟨g, 0, none⟩ 0 0 [] (by simp) (by intro j u h; simp at h) ⟨b, o, none⟩ l.length c (flatT l) (flatT_length l)
        (fun j u hu => by
          have hj : j < l.length * 3 := by rw [← flatT_length]; exact (List.getElem?_eq_some_iff.1 hu).1
          obtain ⟨x, y, z⟩ := hc (j / 3) (by omega)
          obtain ⟨x', y', z'⟩ := flatT_at l (j / 3) (by omega)
          have ea : (⟨b, o, none⟩ : Addr).add j = ⟨b, o + j, none⟩ := by unfold Addr.add; split <;> simp_all
          rw [ea]
          have h3 : j % 3 = 0 ∨ j % 3 = 1 ∨ j % 3 = 2 := by omega
          rcases h3 with h3 | h3 | h3
          · have e1 : j = j / 3 * 3 := by omega
            rw [e1] at hu ⊢
            rw [x'] at hu
            rw [← hu]; exact x
          · have e1 : j = j / 3 * 3 + 1 := by omega
            rw [e1] at hu ⊢
            rw [y'] at hu
            rw [← hu, ← Nat.add_assoc]; exact y
          · have e1 : j = j / 3 * 3 + 2 := by omega
            rw [e1] at hu ⊢
            rw [z'] at hu
            rw [← hu, ← Nat.add_assoc]; exact z) (by omega) (by simp [maxLen]; omega) (by omega)
      rw [List.nil_append, Nat.zero_add] at h1
      refine ⟨v', w', hr, ?_, (Below.refl _ _).grown h2 (Nat.le_refl _) (by intro k hk; cases hk)⟩
      refine ⟨h1.1, h1.2.imp id ?_⟩
      rintro ⟨g', cap, cur, e1, hg, r⟩
      exact ⟨g', cap, cur, e1, by omega, r⟩
/-- .. of numbers. -/
theorem copy64 {W : World} {base : Nat} {v : Value} {l : List Int} (hv : I64s W v l) (hs : l.length ≤ 100000) {g : Nat} (hE : W.ownsRow base 2 1 (.slice (some ⟨g, 0, none⟩) 0 0) 0 []) :
    ∃ v' w', (Builtin.append_ #[41, 41] 41 #[.slice (some ⟨g, 0, none⟩) 0 0, v]).run Tryz.prog W = .ok v' w' ∧ RowI w' v' l ∧ Below W.heap.size W w' := by
  obtain ⟨i0, hi, hz0, hz1, hz2⟩ := info_parts info64
  have ht : Tryz.prog.underlying 41 = some (.slice 2) := Tryz.underlying41
  have emp : ∀ (ad : Addr) (c : Nat), (Builtin.append_ #[41, 41] 41 #[.slice (some ⟨g, 0, none⟩) 0 0, .slice (some ad) 0 c]).run Tryz.prog W = .ok (.slice (some ⟨g, 0, none⟩) 0 0) W := fun ad c => by
    have := run_append_room_cells (P := Tryz.prog) (w := W) 41 41 2 i0 ht hi g 0 0 0 ad 0 c [] (by simp) (by intro j u h; simp at h) (by intro u h; cases h) (by omega) (by intro j h; simp at h) (by intro j h; simp at h)
    simpa [World.setCells] using this
  rcases hv with ⟨rfl, p, c, rfl, hpc⟩ | ⟨hl, b, o, c, -, -, rfl, hc⟩
  · refine ⟨.slice (some ⟨g, 0, none⟩) 0 0, W, ?_, ⟨base, hE⟩, Below.refl _ _⟩
    cases p with
    | none => simp [Builtin.append_, run_underlying ht, sizeOf, typeInfo, hi, Builtin.lenOf, Builtin.firstCells, storeCells]
    | some ad => exact emp ad c
  · by_cases h0 : l.length = 0
    · obtain rfl : l = [] := List.length_eq_zero_iff.1 h0
      exact ⟨.slice (some ⟨g, 0, none⟩) 0 0, W, emp ⟨b, o, none⟩ c, ⟨base, hE⟩, Below.refl _ _⟩
    · obtain ⟨v', w', hr, h1, h2⟩ := run_append_arg_grows (P := Tryz.prog) (w := W) 41 41 2 i0 (.int .i64 0) 1 8 ht hi hz0 hz1 hz2 rfl (by decide) ⟨g, 0, none⟩ 0 0 [] (by simp) (by intro j u h; simp at h) ⟨b, o, none⟩ l.length c (l.map (Value.int .i64)) (by simp)
        (fun j u hu => by
          obtain ⟨hj, hu⟩ := List.getElem?_eq_some_iff.1 hu
          have hj' : j < l.length := by simpa using hj
          have e : (⟨b, o, none⟩ : Addr).add j = ⟨b, o + j, none⟩ := by unfold Addr.add; split <;> simp_all
          rw [e, hc j hj', ← hu, List.getElem_map]) (by omega) (by simp [maxLen]; omega) (by omega)
      rw [List.nil_append, Nat.zero_add] at h1
      exact ⟨v', w', hr, ⟨_, h1⟩, (Below.refl _ _).grown h2 (Nat.le_refl _) (by intro k hk; cases hk)⟩
end Go.Proofs.YtlfihaajnjeaeaaGreatDoor
