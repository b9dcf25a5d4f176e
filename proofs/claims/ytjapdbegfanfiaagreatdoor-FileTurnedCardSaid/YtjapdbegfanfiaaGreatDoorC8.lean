/-
  A row copied behind an empty literal, wherever that stands.
-/
import Derived.Test.YtjapdbegfanfiaaGreatDoorB8
import Derived.Test.YtjapdbegfanfiaaGreatDoorGrow
import Derived.ArgAppend
import Derived.Test.YtjapdbegfanfiaaGreatDoorB7
import Derived.Test.YtjapdbegfanfiaaGreatDoorGrowB
namespace Go.Proofs.YtjapdbegfanfiaaGreatDoor
open Go.RowKit

theorem copy0 (W : World) (v : Value) (l : List Int) (hv : I64s W v l) (hs : l.length ≤ 100000) (g : Nat) :
    ∃ v' w', (Builtin.append_ #[123, 123] 123 #[.slice (some ⟨g, 0, none⟩) 0 0, v]).run Tryz.prog W = .ok v' w' ∧ I64s w' v' l ∧ Below W.heap.size W w' := by
  obtain ⟨i0, hi, hz0, hz1, hz2⟩ := info_parts infoInt
  have ht : Tryz.prog.underlying 123 = some (.slice 3) := Tryz.underlying123
  rcases hv with ⟨rfl, p, c, rfl, hpc⟩ | ⟨hl, b, o, c, -, -, rfl, hc⟩
  · refine ⟨.slice (some ⟨g, 0, none⟩) 0 0, W, ?_, Or.inl ⟨rfl, _, _, rfl, fun h => by cases h⟩, Below.refl _ _⟩
    cases p with
    | none =>
      simp [Builtin.append_, run_underlying ht, sizeOf, typeInfo, hi, Builtin.lenOf, Builtin.firstCells, storeCells]
    | some ad =>
      have := run_append_room_cells (P := Tryz.prog) (w := W) 123 123 3 i0 ht hi g 0 0 0 ad 0 c [] (by simp) (by intro j u h; simp at h) (by intro u h; cases h) (by omega) (by intro j h; simp at h) (by intro j h; simp at h)
      simpa [World.setCells] using this
  · by_cases h0 : l.length = 0
    · obtain rfl : l = [] := List.length_eq_zero_iff.1 h0
      refine ⟨.slice (some ⟨g, 0, none⟩) 0 0, W, ?_, Or.inl ⟨rfl, _, _, rfl, fun h => by cases h⟩, Below.refl _ _⟩
      have := run_append_room_cells (P := Tryz.prog) (w := W) 123 123 3 i0 ht hi g 0 0 0 ⟨b, o, none⟩ 0 c [] (by simp) (by intro j u h; simp at h) (by intro u h; cases h) (by omega) (by intro j h; simp at h) (by intro j h; simp at h)
      simpa [World.setCells] using this
    · obtain ⟨v', w', hr, h1, h2⟩ := run_append_arg_grows (P := Tryz.prog) (w := W) 123 123 3 i0 (.int .i64 0) 1 8 ht hi hz0 hz1 hz2 rfl (by decide) ⟨g, 0, none⟩ 0 0 [] (by simp) (by intro j u h; simp at h) ⟨b, o, none⟩ l.length c (l.map (Value.int .i64)) (by simp)
        (fun j u hu => by
          obtain ⟨hj, hu⟩ := List.getElem?_eq_some_iff.1 hu
          have hj' : j < l.length := by simpa using hj
          have e : (⟨b, o, none⟩ : Addr).add j = ⟨b, o + j, none⟩ := by unfold Addr.add; split <;> simp_all
          rw [e, hc j hj', ← hu, List.getElem_map]) (by omega) (by simp [maxLen]; omega) (by omega)
      rw [List.nil_append, Nat.zero_add] at h1
      exact ⟨v', w', hr, ints_of_owns h1 hl, (Below.refl _ _).grown h2 (Nat.le_refl _) (by intro k hk; cases hk)⟩
/-- An empty literal. -/
def EmptyLit (v : Value) : Prop := ∃ g, v = .slice (some ⟨g, 0, none⟩) 0 0

section
variable {P : Program} {ops : Array Oper} {n : Nat} {A : List (List Nat)} {S : World → Prop} {Ds : List Fact} {fin : Act → Prop} {i : Nat} {o : Oper} {r : List Oper} {c : Act}
/-- An append that makes memory. -/
theorem grow_append {p : Value → World → Prop} {hp : ∀ v w w', p v w → Below w.heap.size w w' → p v w'} (s x : Operand) (t : TypeId) (ho : o.op = .call { callee := .builtin .append, args := #[s, x], argTypes := #[t, t] })
    (hS : Grows S) (hf : factAt Ds i = .prop p hp) (hw : Region.wanted o (yielded ops c.tmps) = true)
    (hrun : ∀ w, S w → (∀ k ∈ A.getD i [], holdsAt ops Ds n k c w) → ∃ u w', (Builtin.append_ #[t, t] o.type #[c.eval s, c.eval x]).run P w = .ok u w' ∧ p u w' ∧ Below w.heap.size w w')
    {c' : Value → Act} (hc : ∀ v, c.put o.dst v = c' v) (h : ∀ v, GrowSeq P ops n A S Ds fin (i + 1) r (c' v)) : GrowSeq P ops n A S Ds fin i (o :: r) c :=
  grow_make hS hf hw (fun w hs H => by
    obtain ⟨u, w', hr, h1, h2⟩ := hrun w hs H
    refine ⟨u, w', ?_, h1, h2⟩
    unfold execOp
    simp only [ho, resolve, invoke, builtin, Sem.run_bind, Sem.run_pure, Result.andThen_ok, List.map_toArray, List.map_cons, List.map_nil, hr]) hc h
end

end Go.Proofs.YtjapdbegfanfiaaGreatDoor

/-
  Rows of the document's structs that a call makes: copies, appends, stores, and what stays.
-/
namespace Go.Proofs.YtjapdbegfanfiaaGreatDoor
open Go.RowKit

theorem infoRVert : (Tryz.prog.info? 58).map (fun i => (i.zero, i.size, i.bytes)) = some (some (.agg #[.int .i64 0, .int .i64 0, .int .i64 0]), 3, 24) := by kernel_rfl
theorem infoRArc : (Tryz.prog.info? 60).map (fun i => (i.zero, i.size, i.bytes)) = some (some (.agg #[.int .i64 0, .int .i64 0, .int .i64 0]), 3, 24) := by kernel_rfl
/-- v is a literal of one table. -/
def LitR (I O : Int) (l : List Int) (v : Value) (w : World) : Prop := ∃ g u, v = .slice (some ⟨g, 0, none⟩) 1 1 ∧ Blk w g #[.int .i64 I, .int .i64 O, u] 63 ∧ RowI w u l
theorem LitR.below {I O : Int} {l : List Int} {v : Value} {w w' : World} (h : LitR I O l v w) (hb : Below w.heap.size w w') : LitR I O l v w' := by
  obtain ⟨g, u, e, h, h'⟩ := h
  exact ⟨g, u, e, h.keep hb, h'.below hb⟩
theorem infoRTab : (Tryz.prog.info? 63).map (fun i => (i.zero, i.size, i.bytes)) = some (some (.agg #[.int .i64 0, .int .i64 0, .slice none 0 0]), 3, 40) := by kernel_rfl
theorem appR {W : World} {base : Nat} {v u : Value} {l : List Tab} {us : List Value} {t : Tab} (h : W.ownsRow base 63 3 v l.length (flatB l us)) (hus : us.length = l.length) (hu : LitR t.1 t.2.1 t.2.2 u W) (hl : l.length ≤ 100000) (hb : base ≤ W.heap.size) :
    ∃ q c w' y, (Builtin.append_ #[35, 35] 35 #[v, u]).run Tryz.prog W = .ok (.slice q (l.length + 1) c) w' ∧ w'.ownsRow base 63 3 (.slice q (l.length + 1) c) (l.length + 1) (flatB (l ++ [t]) (us ++ [y])) ∧ W.grownBy w' v.ownBlock ∧ RowI W y t.2.2 := by
  obtain ⟨i0, hi, hz0, hz1, hz2⟩ := info_parts infoRTab
  obtain ⟨g, y, rfl, hk, hy⟩ := hu
  have hy1 : y.oneCell' = true := by
    obtain ⟨b', hy'⟩ := hy
    obtain ⟨q, c, rfl⟩ := own_shape hy'
    rfl
  obtain ⟨v', w', hr, h1, h2, -⟩ := run_append_own (P := Tryz.prog) W base 35 35 63 i0 (.agg #[.int .i64 0, .int .i64 0, .slice none 0 0]) 3 40 Tryz.underlying35 hi hz0 hz1 hz2 rfl (by decide) v l.length (flatB l us) h ⟨g, 0, none⟩ 1 1 [.int .i64 t.1, .int .i64 t.2.1, y] rfl
    (fun j u hj => by
      obtain ⟨k0, k1, k2, -, -, -⟩ := hk.o3
      match j, hj with
      | 0, hj => simp at hj; subst hj; simpa [Addr.add] using k0
      | 1, hj => simp at hj; subst hj; simpa [Addr.add] using k1
      | 2, hj => simp at hj; subst hj; simpa [Addr.add] using k2) (by intro u hu; simp at hu; rcases hu with rfl | rfl | rfl; rfl; rfl; exact hy1) (by simp [maxLen]; omega) (by omega) hb
  obtain ⟨q, c, rfl⟩ := own_shape h1
  exact ⟨q, c, w', y, hr, by rw [flatB_append _ _ _ _ hus]; exact h1, h2, hy⟩

/-! ### what stays -/
/-- A row's own block is no block of another type. -/
theorem own_ne_blk {w : World} {base : Nat} {e : TypeId} {size : Nat} {v : Value} {n : Nat} {xs : List Value} (h : w.ownsRow base e size v n xs) {b : Nat} {cs : Array Value} {t : TypeId} (hk : Blk w b cs t) (hne : e ≠ t) : v.ownBlock ≠ some b := by
  rcases h.2 with ⟨rfl, _⟩ | ⟨g, cap, cur, rfl, _, h4, _⟩
  · simp [Value.ownBlock]
  · simp only [Value.ownBlock, ne_eq, Option.some.injEq]
    intro e0
    subst e0
    unfold Blk at hk
    rw [hk] at h4
    injection h4 with h4
    injection h4 with _ h4
    exact hne h4.symm
/-- .. where a block of another type is written. -/
theorem owns_set {w : World} {base : Nat} {e : TypeId} {size : Nat} {v : Value} {n : Nat} {xs : List Value} (h : w.ownsRow base e size v n xs) {k : Nat} {cs : Array Value} {t : TypeId} (hk : Blk w k cs t) (hne : e ≠ t) (o : Nat) (x : Value) : (w.setCell ⟨k, o, none⟩ x).ownsRow base e size v n xs := by
  refine ⟨h.1, ?_⟩
  rcases h.2 with h0 | ⟨g, cap, cur, h1, h2, h3, h4⟩
  · exact Or.inl h0
  · refine Or.inr ⟨g, cap, cur, h1, h2, ?_, h4⟩
    have hg : g ≠ k := fun e => by
      subst e
      unfold Blk at hk
      rw [hk] at h3
      injection h3 with h3
      injection h3 with _ h3
      exact hne h3.symm
    exact (heap_setCell_other w ⟨k, o, none⟩ g x hg).trans h3
/-- A row's own cell is written. -/
theorem owns_put {w : World} {base : Nat} {e : TypeId} {size : Nat} {q : Option Addr} {c n : Nat} {xs : List Value} (h : w.ownsRow base e size (.slice q n c) n xs) {j : Nat} (hj : j < n * size) (x : Value) :
    ∃ g, q = some ⟨g, 0, none⟩ ∧ base ≤ g ∧ g < w.heap.size ∧ w.cell? ⟨g, j, none⟩ = xs[j]? ∧ w.frozen? ⟨g, j, none⟩ = false ∧ (w.setCell ⟨g, j, none⟩ x).ownsRow base e size (.slice q n c) n (xs.set j x) ∧
      ∀ (e' : TypeId) (base' size' : Nat) (v' : Value) (n' : Nat) (xs' : List Value), e' ≠ e → w.ownsRow base' e' size' v' n' xs' → (w.setCell ⟨g, j, none⟩ x).ownsRow base' e' size' v' n' xs' := by
  have h0 := h
  rcases h.2 with ⟨e1, e2⟩ | ⟨g, cap, cur, e1, hg, hh, hnc, hcm, hcs, htake⟩
  · subst e2; simp at hj
  · injection e1 with e1 e2 e3
    subst e1
    subst e3
    have hlt : g < w.heap.size := (Array.getElem?_eq_some_iff.1 hh).1
    have hk : Blk w g cur e := hh
    refine ⟨g, rfl, hg, hlt, h0.cellAt j hj, hk.free j, ⟨by rw [List.length_set]; exact h0.1, Or.inr ⟨g, c, cur.setIfInBounds j x, rfl, hg, hk.set j x, hnc, hcm, by rw [Array.size_setIfInBounds]; exact hcs, ?_⟩⟩, fun e' base' size' v' n' xs' hne h' => owns_set h' hk hne j x⟩
    rw [Array.toList_setIfInBounds, List.take_set, htake]
/-- A row copied behind an empty literal. -/
theorem copy3 {t e : TypeId} (ht : Tryz.prog.underlying t = some (.slice e)) (hinf : (Tryz.prog.info? e).map (fun i => (i.zero, i.size, i.bytes)) = some (some (.agg #[.int .i64 0, .int .i64 0, .int .i64 0]), 3, 24)) {W : World} {base : Nat} {v : Value} {l : List Tri} (hv : Tris W v l) (hs : l.length ≤ 100000) {g : Nat} (hE : W.ownsRow base e 3 (.slice (some ⟨g, 0, none⟩) 0 0) 0 []) (hb : base ≤ W.heap.size) :
    ∃ v' w', (Builtin.append_ #[t, t] t #[.slice (some ⟨g, 0, none⟩) 0 0, v]).run Tryz.prog W = .ok v' w' ∧ w'.ownsRow base e 3 v' l.length (flatT l) ∧ Below W.heap.size W w' := by
  obtain ⟨i0, hi, hz0, hz1, hz2⟩ := info_parts hinf
  have emp : ∀ (ad : Addr) (c : Nat), (Builtin.append_ #[t, t] t #[.slice (some ⟨g, 0, none⟩) 0 0, .slice (some ad) 0 c]).run Tryz.prog W = .ok (.slice (some ⟨g, 0, none⟩) 0 0) W := fun ad c => by
    have := run_append_room_cells (P := Tryz.prog) (w := W) t t e i0 ht hi g 0 0 0 ad 0 c [] (by simp) (by intro j u h; simp at h) (by intro u h; cases h) (by omega) (by intro j h; simp at h) (by intro j h; simp at h)
    simpa [World.setCells] using this
  rcases hv with ⟨rfl, p, c, rfl, hpc⟩ | ⟨hl, b, o, c, -, -, rfl, hc⟩
  · refine ⟨.slice (some ⟨g, 0, none⟩) 0 0, W, ?_, hE, Below.refl _ _⟩
    cases p with
    | none => simp [Builtin.append_, run_underlying ht, sizeOf, typeInfo, hi, Builtin.lenOf, Builtin.firstCells, storeCells]
    | some ad => exact emp ad c
  · by_cases h0 : l.length = 0
    · obtain rfl : l = [] := List.length_eq_zero_iff.1 h0
      exact ⟨.slice (some ⟨g, 0, none⟩) 0 0, W, emp ⟨b, o, none⟩ c, hE, Below.refl _ _⟩
    · obtain ⟨v', w', hr, h1, h2⟩ := run_append_arg_grows (P := Tryz.prog) (w := W) t t e i0 (.agg #[.int .i64 0, .int .i64 0, .int .i64 0]) 3 24 ht hi hz0 hz1 hz2 rfl (by decide) ⟨g, 0, none⟩ 0 0 [] (by simp) (by intro j u h; simp at h) ⟨b, o, none⟩ l.length c (flatT l) (flatT_length l)
        (fun j u hu => by
          have hj : j < l.length * 3 := by rw [← flatT_length]; exact (List.getElem?_eq_some_iff.1 hu).1
          obtain ⟨x, y, z⟩ := hc (j / 3) (by omega)
          obtain ⟨x', y', z'⟩ := flatT_at l (j / 3) (by omega)
          have ea : (⟨b, o, none⟩ : Addr).add j = ⟨b, o + j, none⟩ := by unfold Addr.add; split <;> simp_all
          rw [ea]
          have h3 : j % 3 = 0 ∨ j % 3 = 1 ∨ j % 3 = 2 := by omega
          rcases h3 with h3 | h3 | h3
          · have e1 : j = j / 3 * 3 := by omega
            rw [e1] at hu ⊢
            rw [x'] at hu
            rw [← hu]; exact x
          · have e1 : j = j / 3 * 3 + 1 := by omega
            rw [e1] at hu ⊢
            rw [y'] at hu
            rw [← hu, ← Nat.add_assoc]; exact y
          · have e1 : j = j / 3 * 3 + 2 := by omega
            rw [e1] at hu ⊢
            rw [z'] at hu
            rw [← hu, ← Nat.add_assoc]; exact z) (by omega) (by simp [maxLen]; omega) (by omega)
      rw [List.nil_append, Nat.zero_add] at h1
      refine ⟨v', w', hr, ?_, (Below.refl _ _).grown h2 (Nat.le_refl _) (by intro k hk; cases hk)⟩
      refine ⟨h1.1, h1.2.imp id ?_⟩
      rintro ⟨g', cap, cur, e1, hg, r⟩
      exact ⟨g', cap, cur, e1, by omega, r⟩
/-- .. of numbers. -/
theorem copy64 {W : World} {base : Nat} {v : Value} {l : List Int} (hv : I64s W v l) (hs : l.length ≤ 100000) {g : Nat} (hE : W.ownsRow base 2 1 (.slice (some ⟨g, 0, none⟩) 0 0) 0 []) :
    ∃ v' w', (Builtin.append_ #[61, 61] 61 #[.slice (some ⟨g, 0, none⟩) 0 0, v]).run Tryz.prog W = .ok v' w' ∧ RowI w' v' l ∧ Below W.heap.size W w' := by
  obtain ⟨i0, hi, hz0, hz1, hz2⟩ := info_parts info64
  have ht : Tryz.prog.underlying 61 = some (.slice 2) := Tryz.underlying61
  have emp : ∀ (ad : Addr) (c : Nat), (Builtin.append_ #[61, 61] 61 #[.slice (some ⟨g, 0, none⟩) 0 0, .slice (some ad) 0 c]).run Tryz.prog W = .ok (.slice (some ⟨g, 0, none⟩) 0 0) W := fun ad c => by
    have := run_append_room_cells (P := Tryz.prog) (w := W) 61 61 2 i0 ht hi g 0 0 0 ad 0 c [] (by simp) (by intro j u h; simp at h) (by intro u h; cases h) (by omega) (by intro j h; simp at h) (by intro j h; simp at h)
    simpa [World.setCells] using this
  rcases hv with ⟨rfl, p, c, rfl, hpc⟩ | ⟨hl, b, o, c, -, -, rfl, hc⟩
  · refine ⟨.slice (some ⟨g, 0, none⟩) 0 0, W, ?_, ⟨base, hE⟩, Below.refl _ _⟩
    cases p with
    | none => simp [Builtin.append_, run_underlying ht, sizeOf, typeInfo, hi, Builtin.lenOf, Builtin.firstCells, storeCells]
    | some ad => exact emp ad c
  · by_cases h0 : l.length = 0
    · obtain rfl : l = [] := List.length_eq_zero_iff.1 h0
      exact ⟨.slice (some ⟨g, 0, none⟩) 0 0, W, emp ⟨b, o, none⟩ c, ⟨base, hE⟩, Below.refl _ _⟩
    · obtain ⟨v', w', hr, h1, h2⟩ := run_append_arg_grows (P := Tryz.prog) (w := W) 61 61 2 i0 (.int .i64 0) 1 8 ht hi hz0 hz1 hz2 rfl (by decide) ⟨g, 0, none⟩ 0 0 [] (by simp) (by intro j u h; simp at h) ⟨b, o, none⟩ l.length c (l.map (Value.int .i64)) (by simp)
        (fun j u hu => by
          obtain ⟨hj, hu⟩ := List.getElem?_eq_some_iff.1 hu
          have hj' : j < l.length := by simpa using hj
          have e : (⟨b, o, none⟩ : Addr).add j = ⟨b, o + j, none⟩ := by unfold Addr.add; split <;> simp_all
          rw [e, hc j hj', ← hu, List.getElem_map]) (by omega) (by simp [maxLen]; omega) (by omega)
      rw [List.nil_append, Nat.zero_add] at h1
      exact ⟨v', w', hr, ⟨_, h1⟩, (Below.refl _ _).grown h2 (Nat.le_refl _) (by intro k hk; cases hk)⟩
theorem flatT_set (l : List Tri) (i : Nat) (h : i < l.length) (x : Tri) : flatT (l.set i x) = ((((flatT l).set (i * 3) (.int .i64 x.1)).set (i * 3 + 1) (.int .i64 x.2.1)).set (i * 3 + 2) (.int .i64 x.2.2)) := by
  induction l generalizing i with
  | nil => simp at h
  | cons y r ih =>
    cases i with
    | zero => simp [flatT]
    | succ i =>
      have := ih i (by simpa using h)
      have e1 : (i + 1) * 3 = i * 3 + 1 + 1 + 1 := by omega
      simp only [List.set_cons_succ, flatT, this, e1, Nat.add_assoc]

end Go.Proofs.YtjapdbegfanfiaaGreatDoor

/-
  The document's Reader: a table.
-/
namespace Go.Proofs.YtjapdbegfanfiaaGreatDoor
open Go.RowKit

/-- What a Reader lies in is as it was. -/
theorem R6V.kept {w w' : World} {lo b a : Nat} {l : List Int} {e : Int} (h : R6V w lo b l a e) (h1 : ∀ cs, Blk w b cs 74 → Blk w' b cs 74) (h2 : ∀ p cs, Blk w p cs 90 → Blk w' p cs 90) (h3 : Below lo w w') : R6V w' lo b l a e := by
  obtain ⟨q, c, ⟨pv, hk, hp⟩, hrow, r⟩ := h
  refine ⟨q, c, ⟨pv, h1 _ hk, ?_⟩, hrow.keep h3, r⟩
  rcases hp with hp | ⟨hp, p, e1, e2, e3⟩
  · exact Or.inl hp
  · exact Or.inr ⟨hp, p, e1, e2, h2 _ _ e3⟩
theorem blk_ne {w : World} {k p : Nat} {cs ds : Array Value} {t u : TypeId} (h : Blk w k cs t) (h' : Blk w p ds u) (hne : t ≠ u) : p ≠ k := fun e => by
  subst e
  unfold Blk at h h'
  rw [h] at h'
  injection h' with h'
  injection h' with _ h'
  exact hne h'
/-- .. where a block of another type is written. -/
theorem R6V.set {w : World} {lo b a : Nat} {l : List Int} {e : Int} (h : R6V w lo b l a e) {k : Nat} {cs : Array Value} {t : TypeId} (hk : Blk w k cs t) (hr : t ≠ 74) (hp : t ≠ 90) (hlo : lo ≤ k) (o : Nat) (x : Value) : R6V (w.setCell ⟨k, o, none⟩ x) lo b l a e :=
  h.kept (fun _ hb => hb.other _ _ (blk_ne hk hb hr)) (fun _ _ hb => hb.other _ _ (blk_ne hk hb hp)) ((Below.refl lo w).setCell (p := ⟨k, o, none⟩) hlo x)
/-- .. where a row of other elements has grown. -/
theorem R6V.grown {w w' : World} {lo b a : Nat} {l : List Int} {e : Int} (h : R6V w lo b l a e) {base : Nat} {et : TypeId} {size : Nat} {v : Value} {n : Nat} {xs : List Value} (ho : w.ownsRow base et size v n xs) (hr : et ≠ 74) (hp : et ≠ 90) (hlo : lo ≤ base) (hbz : base ≤ w.heap.size) (hg : w.grownBy w' v.ownBlock) : R6V w' lo b l a e :=
  h.kept (fun _ hb => hb.grownO hg (own_ne_blk ho hb hr)) (fun _ _ hb => hb.grownO hg (own_ne_blk ho hb hp)) ((Below.refl lo w).grown hg (by omega) (fun g hg' => Nat.le_trans hlo (own_ge ho g (by simpa using hg'))))
/-- A row of one's own above base, where a block below base is written. -/
theorem own_but {w w' : World} {b base : Nat} {et : TypeId} {size : Nat} {v : Value} {n : Nat} {xs : List Value} (h : w.ownsRow base et size v n xs) (hb : But b w w') (hlt : b < base) : w'.ownsRow base et size v n xs := by
  refine ⟨h.1, ?_⟩
  rcases h.2 with h0 | ⟨g, cap, cur, h1, h2, h3, h4⟩
  · exact Or.inl h0
  · exact Or.inr ⟨g, cap, cur, h1, h2, (hb.block g (Array.getElem?_eq_some_iff.1 h3).1 (by omega)).trans h3, h4⟩
/-- A literal of one number. -/
def LitI (b : Nat) (C : Int) (v : Value) (w : World) : Prop := ∃ g, v = .slice (some ⟨g, 0, none⟩) 1 1 ∧ g ≠ b ∧ Blk w g #[.int .i64 C] 2
theorem LitI.but {b : Nat} {C : Int} {v : Value} {w w' : World} (h : LitI b C v w) (hb : But b w w') : LitI b C v w' := by
  obtain ⟨g, e, h1, h2⟩ := h
  exact ⟨g, e, h1, hb.blk h2 h1⟩
theorem infoI64 : (Tryz.prog.info? 2).map (fun i => (i.zero, i.size, i.bytes)) = some (some (.int .i64 0), 1, 8) := by kernel_rfl
theorem appI {W : World} {b base : Nat} {v u : Value} {l : List Int} {C : Int} (h : W.ownsRow base 2 1 v l.length (l.map (Value.int .i64))) (hu : LitI b C u W) (hl : l.length ≤ 100000) (hb : base ≤ W.heap.size) :
    ∃ q c w', (Builtin.append_ #[61, 61] 61 #[v, u]).run Tryz.prog W = .ok (.slice q (l.length + 1) c) w' ∧ w'.ownsRow base 2 1 (.slice q (l.length + 1) c) (l.length + 1) ((l ++ [C]).map (Value.int .i64)) ∧ W.grownBy w' v.ownBlock := by
  obtain ⟨i0, hi, hz0, hz1, hz2⟩ := info_parts infoI64
  obtain ⟨g, rfl, -, hk⟩ := hu
  obtain ⟨v', w', hr, h1, h2, -⟩ := run_append_own (P := Tryz.prog) W base 61 61 2 i0 (.int .i64 0) 1 8 Tryz.underlying61 hi hz0 hz1 hz2 rfl (by decide) v l.length (l.map (Value.int .i64)) h ⟨g, 0, none⟩ 1 1 [.int .i64 C] rfl
    (fun j u hj => by
      match j, hj with
      | 0, hj => simp at hj; subst hj; simpa [Addr.add] using hk.o1.1) (by intro u hu; simp at hu; subst hu; rfl) (by simp [maxLen]; omega) (by omega) hb
  obtain ⟨q, c, rfl⟩ := own_shape h1
  exact ⟨q, c, w', hr, by rw [List.map_append]; exact h1, h2⟩

/-- A table whose costs lie in a row of their own, above base. -/
def TabOwn (base : Nat) (w : World) (v : Value) (t : Tab) : Prop := ∃ u, v = .agg #[.int .i64 t.1, .int .i64 t.2.1, u] ∧ w.ownsRow base 2 1 u t.2.2.length (t.2.2.map (Value.int .i64))
theorem TabOwn.but {base b : Nat} {w w' : World} {v : Value} {t : Tab} (h : TabOwn base w v t) (hb : But b w w') (hlt : b < base) : TabOwn base w' v t := by
  obtain ⟨u, e, h⟩ := h
  exact ⟨u, e, own_but h hb hlt⟩

end Go.Proofs.YtjapdbegfanfiaaGreatDoor
namespace Go.Proofs.YtjapdbegfanfiaaGreatDoor.GB
open Go.RowKit

set_option maxRecDepth 100000 in
set_option maxHeartbeats 8000000 in
theorem table6 {w : World} {lo b a : Nat} {l : List Int} {e : Int} (h : R6V w lo b l a e) (t : Tab) (a' : Nat) (e' : Int) (hr : rdT l (a, e) = (t, a', e')) :
    Calls Tryz.prog 29 #[rp b] w fun ev w' => ∃ v, ev = .returned v ∧ TabOwn w.heap.size w' v t ∧ R6V w' lo b l a' e' ∧ But b w w' := by
  obtain ⟨hlo, hblt, hale⟩ := h.lt
  have h8 : In8 l := by obtain ⟨q, c, _, _, h8, _⟩ := h; exact h8
  obtain ⟨I, s1a, s1e, h1⟩ : ∃ I a1 e1, rdU l 16 (a, e) = (I, a1, e1) := ⟨_, _, _, rfl⟩
  obtain ⟨O, s2a, s2e, h2⟩ : ∃ O a1 e1, rdU l 16 (s1a, s1e) = (O, a1, e1) := ⟨_, _, _, rfl⟩
  have hI := uintR_in h8 a e 16 (by omega)
  have hO := uintR_in h8 s1a s1e 16 (by omega)
  have hu1 : uintR l a e 16 = (I, s1a, s1e) := h1
  have hu2 : uintR l s1a s1e 16 = (O, s2a, s2e) := h2
  rw [hu1] at hI
  rw [hu2] at hO
  have hI' : 0 ≤ I ∧ I ≤ 16 := hI
  have hO' : 0 ≤ O ∧ O ≤ 16 := hO
  obtain ⟨N, hN⟩ : ∃ N : Nat, I * O = N := ⟨(I * O).toNat, by have := Int.mul_nonneg hI'.1 hO'.1; omega⟩
  have hN256 : N ≤ 256 := by
    have h1 : I * O ≤ 16 * 16 := Int.mul_le_mul hI'.2 hO'.2 hO'.1 (by omega)
    omega
  obtain ⟨G, hG⟩ : ∃ G, goK erS (rdC l) (s2a, s2e) = G := ⟨_, rfl⟩
  have ht : rdT l (a, e) = ((I, O, (G N).1), (G N).2) := by
    unfold rdT
    simp only [h1, h2, hN, Int.toNat_natCast, hG]
  rw [hr] at ht
  injection ht with ht1 ht2
  have HT1 := Lib.hid ht1
  have HT2 := Lib.hid ht2
  have HGG := Lib.hid hG
  have HR := Lib.hid h
  have hwI : IntKind.i64.wrap I = I := by simp [IntKind.wrap, IntKind.bits, IntKind.signed]; omega
  have hwO : IntKind.i64.wrap O = O := by simp [IntKind.wrap, IntKind.bits, IntKind.signed]; omega
  have hwN : IntKind.i64.wrap (I * O) = N := by rw [hN]; simp [IntKind.wrap, IntKind.bits, IntKind.signed]; omega
  clear h h8 hI hO h1 h2 hr ht1 ht2 hG hN
  go_enter Tryz.func29, Tryz.ntmps29
  go_wp2_with fail
  refine (v6U (HR.out.below (below_new8 _)) hu1).mono ?_
  rintro ev w1 ⟨rfl, hr1, hb1⟩
  have HR1 := Lib.hid hr1
  have hz1 : w.heap.size + 1 ≤ w1.heap.size := by have := hb1.size; simpa using this
  have KR1 : Hid (Blk w1 w.heap.size #[.int .i64 0, .int .i64 0, .slice none 0 0] 63) := Lib.hid (hb1.blk (Blk.new _ _ _ _ rfl) (by omega))
  have HB1 : Hid (But b w w1) := Lib.hid ((But.of_below (below_new8 _)).trans hb1)
  clear hr1 hb1 HR
  go_wp2_with fail
  refine (v6U (HR1.out.below (below_new8 _)) hu2).mono ?_
  rintro ev w2 ⟨rfl, hr2, hb2⟩
  obtain ⟨T, hT⟩ : ∃ T, w1.heap.size = T := ⟨_, rfl⟩
  have HR2 := Lib.hid hr2
  have kt := hb2.blk (Blk.new w1 #[.int .i64 I, .int .i64 0, .slice none 0 0] 63 _ hT) (by omega)
  have kr := hb2.blk (KR1.out.old (.cells #[.int .i64 I, .int .i64 0, .slice none 0 0] 63)) (by omega)
  have HB2 : Hid (But b w w2) := Lib.hid ((HB1.out.trans (But.of_below (below_new8 _))).trans hb2)
  have hTz : w.heap.size < T := by omega
  have HTT := Lib.hid hT
  rw [hT]
  obtain ⟨d0, d1, d2, f0, f1, f2⟩ := kt.o3
  have KT2 := Lib.hid kt
  have KR2 := Lib.hid kr
  have zT : T < w2.heap.size := kt.lt
  clear hr2 hb2 kt kr HR1 KR1 HB1 hT hz1
  go_wp2_with fail
  clear d0 d1 d2 f0 f1 f2
  obtain ⟨W, hW⟩ := named (w2.setCell ⟨T, 1, none⟩ (.int .i64 O))
  rw [← hW]
  have HRW : Hid (R6V W lo b l s2a s2e) := by rw [hW]; exact Lib.hid (R6V.set HR2.out KT2.out (by decide) (by decide) (by omega) _ _)
  have KTW : Hid (Blk W T #[.int .i64 I, .int .i64 O, .slice none 0 0] 63) := by rw [hW]; exact Lib.hid (by simpa using KT2.out.set 1 (.int .i64 O))
  have KRW : Hid (Blk W w.heap.size #[.int .i64 0, .int .i64 0, .slice none 0 0] 63) := by rw [hW]; exact Lib.hid (KR2.out.other _ _ (by omega))
  have HBW : Hid (Below w.heap.size w2 W) := by rw [hW]; exact Lib.hid ((Below.refl _ _).setCell (p := ⟨T, 1, none⟩) (by simp only []; omega) _)
  have zW : w.heap.size < W.heap.size := by have := KTW.out.lt; omega
  have hTb : T ≠ b := by omega
  have HFW : Hid (∀ (k : Nat), k < w.heap.size → k ≠ b → W.heap[k]? = w.heap[k]?) := Lib.hid (fun k hk hb => (HBW.out.block k hk).trans (HB2.out.block k hk hb))
  clear HR2 KT2 KR2 hW
  have HBx : Hid (But b w W) := Lib.hid ⟨HBW.out.os.trans HB2.out.os, HBW.out.tape.trans HB2.out.tape, HBW.out.output.trans HB2.out.output, by omega, HFW.out⟩
  clear HB2 HBW HFW
  go_loopw [4] (fun i wr => ∃ (k : Nat) (q : Option Addr) (c : Nat), k ≤ N ∧ i = .int .i64 k ∧ Hid (R6V wr lo b l (G k).2.1 (G k).2.2) ∧ Hid (Blk wr T #[.int .i64 I, .int .i64 O, .slice q (G k).1.length c] 63) ∧ Hid (wr.ownsRow w.heap.size 2 1 (.slice q (G k).1.length c) (G k).1.length ((G k).1.map (Value.int .i64))) ∧ Hid (Blk wr w.heap.size #[.int .i64 0, .int .i64 0, .slice none 0 0] 63) ∧ Hid (But b w wr) ∧ w.heap.size < wr.heap.size ∧ (G k).1.length ≤ k) (fun i _ => N - (intOf i).toNat)
  case atStart => exact ⟨0, none, 0, Nat.zero_le _, rfl, by rw [← HGG.out]; exact HRW, by rw [← HGG.out]; exact KTW, by rw [← HGG.out]; exact Lib.hid (World.ownsRow_nil _ _ _ _), KRW, HBx, zW, by rw [← HGG.out]; exact Nat.zero_le _⟩
  case round =>
    obtain ⟨k, q, c, hk, rfl, HRr, KTr, HO, KRr, HBr, zr, hlen⟩ := hrel
    clear HRW KTW KRW HBx zW
    obtain ⟨d0, d1, d2, f0, f1, f2⟩ := KTr.out.o3
    obtain ⟨q', c', pv', hkr⟩ := HRr.out.cells
    obtain ⟨c0, c1, c2, c3, -, -, -, -⟩ := hkr.o4
    clear hkr
    by_cases hgo : k < N ∧ (G k).2.2 = 0
    · obtain ⟨hlt, he0⟩ := hgo
      have hki : (k : Int) < N := by omega
      have hdn : decide ((k : Int) < (N : Int)) = true := decide_eq_true hki
      obtain ⟨Gl, Ga, Ge, hGk⟩ : ∃ Gl Ga Ge, G k = (Gl, Ga, Ge) := ⟨_, _, _, rfl⟩
      rw [hGk] at HRr KTr HO hlen he0 d2 c1 c3
      simp only at HRr KTr HO hlen he0 d2 c1 c3
      subst he0
      obtain ⟨C, na, ne, hC⟩ : ∃ C na ne, rdC l (Ga, 0) = (C, na, ne) := ⟨_, _, _, rfl⟩
      have HRC := Lib.hid hC
      have hGs : G (k + 1) = (Gl ++ [C], na, ne) := by
        have h1 := HGG.out
        have h2 : goK erS (rdC l) (s2a, s2e) k = (Gl, Ga, 0) := by rw [h1, hGk]
        rw [← h1, goK_step (by rw [h2]; rfl), h2]
        simp only [hC]
      have HGS := Lib.hid hGs
      clear hC hGs hGk
      go_wp2_with fail
      clear d0 d1 d2 f0 f1 f2 c0 c1 c2 c3
      have hGS : Grows (fun (cc : Bool) w' => (cc = false → R6V w' lo b l Ga 0) ∧ (cc = true → R6V w' lo b l na ne) ∧ But b wr w') := fun cc w1 w2 h hb => ⟨fun h0 => (h.1 h0).below hb, fun h0 => (h.2.1 h0).below hb, h.2.2.trans (But.of_below hb)⟩
      have hbr : b < wr.heap.size := HRr.out.lt.2.1
      refine' wp_thenL (β := b) _ 5 (fun (cc : Bool) w' => (cc = false → R6V w' lo b l Ga 0) ∧ (cc = true → R6V w' lo b l na ne) ∧ But b wr w') 3 [[], [0], [], [2], [2, 3]] (Fact.lit _ :: Fact.lit _ :: Fact.lit _ :: Fact.lit _ :: Fact.prop _ _ :: []) (by kernel_rfl) rfl (by kernel_rfl) ⟨fun _ => HRr.out.below (Below.refl _ _).drew, (fun h0 => by cases h0), (But.refl b wr).drew⟩ ?seqt
      case' seqt => skip
      iterate 3 ((first | (apply grow_skip; (case hf => rfl); (case hw => rfl)) | (apply grow_lit; (case hf => rfl); (case hw => rfl); (case hrun => (intro w' hS H; clear H; (obtain ⟨cc, hS⟩ := hS); (obtain ⟨d0, d1, d2, -, -, -⟩ := (hS.2.2.blk KTr.out hTb).o3); clear hS; go_simp; first | done | exact rfl)))); (case hc => (simp only [Act.put, List.setIfInBounds_toArray, List.set_cons_zero, List.set_cons_succ]; first | done | exact rfl)); (try (case hj => rfl)))
      (refine' grow_callJ (u := .int .i64 C) rfl Tryz.func31 (by kernel_rfl) rfl rfl ?wtcj ?runcj ?putcj ?nextcj; (case wtcj => rfl); (case runcj => (intro w' hS H; exact (v6C (hS.1 rfl) HRC.out).mono (fun ev w2 h => ⟨h.1, ⟨(fun h0 => by cases h0), (fun _ => h.2.1), hS.2.2.trans h.2.2⟩, h.2.2⟩))); (case putcj => (simp only [Act.put, List.setIfInBounds_toArray, List.set_cons_zero, List.set_cons_succ]; first | done | exact rfl)); (case' nextcj => skip))
      (refine' grow_make (p := LitI b C) (hp := fun v w w' h hb => LitI.but h hb) hGS rfl ?wtmk ?runmk ?putmk ?nextmk; (case wtmk => rfl); (case runmk => (intro w' hS H; clear H; (obtain ⟨cc, hS⟩ := hS); (have hsz := hS.2.2.size); refine ⟨.slice (some ⟨w'.heap.size, 0, none⟩) 1 1, w'.alloc (.cells #[.int .i64 C] 2), ?_, ⟨w'.heap.size, rfl, (by omega), Blk.new _ _ _ _ rfl⟩, below_new8 _⟩; clear hS hsz; go_simp; first | done | exact rfl)); (case putmk => (intro v; (simp only [Act.put, List.setIfInBounds_toArray, List.set_cons_zero, List.set_cons_succ]; first | done | exact rfl))); (case' nextmk => intro v4))
      intro cc w9 hS hcc hk9
      obtain rfl : cc = true := hcc (by decide)
      have h4 : LitI b C v4 w9 := hk9 4 (by decide)
      have hb9 := hS.2.2
      have hR9 := hS.2.1 rfl
      have hO9 := own_but HO.out hb9 hblt
      have hz9 := hb9.size
      obtain ⟨q2, c2, w', hrun, hown', hgrow⟩ := appI hO9 h4 (by omega) (by omega)
      have hkt := (hb9.blk KTr.out hTb).grownO hgrow (own_ne_blk hO9 (hb9.blk KTr.out hTb) (by decide))
      have hkr := (hb9.blk KRr.out (by omega)).grownO hgrow (own_ne_blk hO9 (hb9.blk KRr.out (by omega)) (by decide))
      have hrr := R6V.grown hR9 hO9 (by decide) (by decide) (by omega) (by omega) hgrow
      have hbt : But b w w' := by
        have hx : Below w.heap.size w9 w' := (Below.refl _ _).grown hgrow (by omega) (fun g hg => own_ge hO9 g (by simpa using hg))
        have hy := HBr.out.trans hb9
        exact ⟨hx.os.trans hy.os, hx.tape.trans hy.tape, hx.output.trans hy.output, Nat.le_trans hy.size hx.size, fun k hk hne => (hx.block k hk).trans (hy.block k hk hne)⟩
      have hsz : w.heap.size < w'.heap.size := by have := hgrow.size; omega
      obtain ⟨d0, d1, d2, f0, f1, f2⟩ := hkt.o3
      have HRUN := Lib.hid hrun
      have HREL : Hid ((w'.setCell ⟨T, 2, none⟩ (.slice q2 (Gl.length + 1) c2)).ownsRow w.heap.size 2 1 (.slice q2 (Gl.length + 1) c2) (Gl.length + 1) ((Gl ++ [C]).map (Value.int .i64))) := Lib.hid (owns_set hown' hkt (by decide) _ _)
      have HKT := Lib.hid (hkt.set 2 (.slice q2 (Gl.length + 1) c2))
      have HKR := Lib.hid (hkr.other (k := T) 2 (.slice q2 (Gl.length + 1) c2) (by omega))
      have HRR := Lib.hid (R6V.set hrr hkt (by decide) (by decide) (by omega) 2 (.slice q2 (Gl.length + 1) c2))
      have HBT : Hid (But b w (w'.setCell ⟨T, 2, none⟩ (.slice q2 (Gl.length + 1) c2))) := by
        have hx : Below w.heap.size w' (w'.setCell ⟨T, 2, none⟩ (.slice q2 (Gl.length + 1) c2)) := (Below.refl _ _).setCell (p := ⟨T, 2, none⟩) (by simp only []; omega) _
        exact Lib.hid ⟨hx.os.trans hbt.os, hx.tape.trans hbt.tape, hx.output.trans hbt.output, Nat.le_trans hbt.size hx.size, fun k hk hne => (hx.block k hk).trans (hbt.block k hk hne)⟩
      clear hS h4 hk9 hb9 hR9 hO9 hz9 hrun hown' hgrow hkt hkr hrr hbt hcc hGS
      refine wpAny_ready (rs := [5]) (by kernel_rfl) (by simp) (AllReady.cons rfl (fun K hK => ?_) AllReady.nil)
      refine step_append_run rfl _ _ 61 rfl _ _ _ rfl rfl HRUN.out ?_
      refine hK _ _ ?_
      clear hK K
      refine wpAny_ready (rs := [6]) (by kernel_rfl) (by simp) (AllReady.cons rfl (fun K hK => ?_) AllReady.nil)
      go_simp
      refine hK _ _ ?_
      clear hK K
      refine wpAny_ready (rs := [7]) (by kernel_rfl) (by simp) (AllReady.cons rfl (fun K hK => ?_) AllReady.nil)
      go_simp
      refine hK _ _ ?_
      clear hK K
      refine wpAny_done (by kernel_rfl) ?_ _
      clear d0 d1 d2 f0 f1 f2
      go_wp2_with fail
      go_roundw
      case rel => exact ⟨k + 1, q2, c2, by omega, by go_num, by rw [HGS.out]; exact HRR, by rw [HGS.out, List.length_append]; exact Lib.hid (by simpa using HKT.out), by rw [HGS.out, List.length_append]; exact HREL, HKR, HBT, by simpa using hsz, by rw [HGS.out, List.length_append]; show Gl.length + 1 ≤ k + 1; omega⟩
      case measure => simp [intOf]; omega
    · have hfin : Hid (G N = G k) := Lib.hid (by
        by_cases h1 : k < N
        · have h2 : ¬ (G k).2.2 = 0 := fun h => hgo ⟨h1, h⟩
          have := goK_stop (er := erS) (f := rdC l) (s := (s2a, s2e)) (k := k) (by rw [HGG.out]; exact h2) (N - k)
          rw [HGG.out, show k + (N - k) = N by omega] at this
          exact this
        · rw [show N = k by omega])
      have hw : (¬ k < N ∧ decide (k < N) = false) ∨ (k < N ∧ decide (k < N) = true ∧ ((G k).2.2 == 0) = false) := by
        by_cases h1 : k < N
        · exact Or.inr ⟨h1, decide_eq_true h1, beq_eq_false_iff_ne.2 fun h => hgo ⟨h1, h⟩⟩
        · exact Or.inl ⟨h1, decide_eq_false h1⟩
      obtain ⟨r0, r1, r2, g0, g1, g2⟩ := KRr.out.o3
      have HF : Hid (TabOwn w.heap.size (((wr.setCell ⟨w.heap.size, 0, none⟩ (.int .i64 I)).setCell ⟨w.heap.size, 1, none⟩ (.int .i64 O)).setCell ⟨w.heap.size, 2, none⟩ (.slice q (G k).1.length c)) (.agg #[.int .i64 I, .int .i64 O, .slice q (G k).1.length c]) t ∧ R6V (((wr.setCell ⟨w.heap.size, 0, none⟩ (.int .i64 I)).setCell ⟨w.heap.size, 1, none⟩ (.int .i64 O)).setCell ⟨w.heap.size, 2, none⟩ (.slice q (G k).1.length c)) lo b l a' e' ∧ But b w (((wr.setCell ⟨w.heap.size, 0, none⟩ (.int .i64 I)).setCell ⟨w.heap.size, 1, none⟩ (.int .i64 O)).setCell ⟨w.heap.size, 2, none⟩ (.slice q (G k).1.length c))) := by
        have k1 := KRr.out.set 0 (.int .i64 I)
        have k2 := k1.set 1 (.int .i64 O)
        have o1 := owns_set (owns_set (owns_set HO.out KRr.out (by decide) 0 (.int .i64 I)) k1 (by decide) 1 (.int .i64 O)) k2 (by decide) 2 (.slice q (G k).1.length c)
        have m1 := R6V.set (R6V.set (R6V.set HRr.out KRr.out (by decide) (by decide) (by omega) 0 (.int .i64 I)) k1 (by decide) (by decide) (by omega) 1 (.int .i64 O)) k2 (by decide) (by decide) (by omega) 2 (.slice q (G k).1.length c)
        have hx : Below w.heap.size wr (((wr.setCell ⟨w.heap.size, 0, none⟩ (.int .i64 I)).setCell ⟨w.heap.size, 1, none⟩ (.int .i64 O)).setCell ⟨w.heap.size, 2, none⟩ (.slice q (G k).1.length c)) := by
          iterate 3 (refine Below.setCell ?_ (by simp only []; omega) _)
          exact Below.refl _ _
        have hy := HBr.out
        have e1 := HT1.out
        have e2 := HT2.out
        rw [hfin.out] at e1 e2
        refine Lib.hid ⟨?_, ?_, ⟨hx.os.trans hy.os, hx.tape.trans hy.tape, hx.output.trans hy.output, Nat.le_trans hy.size hx.size, fun k hk hne => (hx.block k hk).trans (hy.block k hk hne)⟩⟩
        · rw [e1]; exact ⟨_, rfl, o1⟩
        · rw [← e2] at m1; exact m1
      clear hgo
      rcases hw with ⟨h1, h2⟩ | ⟨h1, h2, h3⟩
      all_goals
        go_wp2_with fail
        exact bodyPost_ret (v := .agg #[.int .i64 I, .int .i64 O, .slice q (G k).1.length c]) (by simp [results, Tryz.results29, go_sem]; go_simp) rfl ⟨_, rfl, HF.out⟩

end Go.Proofs.YtjapdbegfanfiaaGreatDoor.GB
