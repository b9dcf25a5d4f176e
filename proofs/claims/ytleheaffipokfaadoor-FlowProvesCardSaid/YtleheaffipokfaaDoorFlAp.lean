/-
  Rows of edges of one's own: copied, and with more of them at the end.
-/
import Derived.Test.YtleheaffipokfaaDoorFlCp
namespace Go.Proofs.YtleheaffipokfaaDoor
open Go.RowKit

theorem owns_base {w : World} {base base' : Nat} {e : TypeId} {size : Nat} {v : Value} {n : Nat} {xs : List Value} (h : w.ownsRow base e size v n xs) (hb : base' ≤ base) : w.ownsRow base' e size v n xs := by
  refine ⟨h.1, ?_⟩
  rcases h.2 with h0 | ⟨g, cap, cur, h1, h2, h3⟩
  · exact Or.inl h0
  · exact Or.inr ⟨g, cap, cur, h1, Nat.le_trans hb h2, h3⟩
theorem add0' (xb j : Nat) : (⟨xb, 0, none⟩ : Addr).add j = ⟨xb, j, none⟩ := by unfold Addr.add; split <;> simp_all
theorem copyO (W : World) (v : Value) (l : List (Int × Int)) (hv : Prs W v l) (hs : l.length ≤ 100000) (g base : Nat) (hg : Blk W g #[] 33) (hb : base ≤ g) :
    ∃ v' w', (Builtin.append_ #[22, 22] 22 #[.slice (some ⟨g, 0, none⟩) 0 0, v]).run Tryd.prog W = .ok v' w' ∧ w'.ownsRow base 33 2 v' l.length (flatP l) ∧ Below W.heap.size W w' := by
  obtain ⟨i0, hi, hz0, hz1, hz2⟩ := info_parts infoPair
  have ht : Tryd.prog.underlying 22 = some (.slice 33) := Tryd.underlying22
  have hnil : W.ownsRow base 33 2 (.slice (some ⟨g, 0, none⟩) 0 0) 0 (flatP []) := ⟨rfl, Or.inr ⟨g, 0, #[], rfl, hb, hg, Nat.le_refl _, by simp [maxLen], rfl, rfl⟩⟩
  have hgl := hg.lt
  rcases hv with ⟨rfl, p, c, rfl, hpc⟩ | ⟨hl, b, o, c, -, -, rfl, hc⟩
  · refine ⟨.slice (some ⟨g, 0, none⟩) 0 0, W, ?_, hnil, Below.refl _ _⟩
    cases p with
    | none =>
      simp [Builtin.append_, run_underlying ht, sizeOf, typeInfo, hi, Builtin.lenOf, Builtin.firstCells, storeCells]
    | some ad =>
      have := run_append_room_cells (P := Tryd.prog) (w := W) 22 22 33 i0 ht hi g 0 0 0 ad 0 c [] (by simp) (by intro j u h; simp at h) (by intro u h; cases h) (by omega) (by intro j h; simp at h) (by intro j h; simp at h)
      simpa [World.setCells] using this
  · by_cases h0 : l.length = 0
    · obtain rfl : l = [] := List.length_eq_zero_iff.1 h0
      refine ⟨.slice (some ⟨g, 0, none⟩) 0 0, W, ?_, hnil, Below.refl _ _⟩
      have := run_append_room_cells (P := Tryd.prog) (w := W) 22 22 33 i0 ht hi g 0 0 0 ⟨b, o, none⟩ 0 c [] (by simp) (by intro j u h; simp at h) (by intro u h; cases h) (by omega) (by intro j h; simp at h) (by intro j h; simp at h)
      simpa [World.setCells] using this
    · obtain ⟨v', w', hr, h1, h2⟩ := run_append_arg_grows (P := Tryd.prog) (w := W) 22 22 33 i0 (.agg #[.int .i64 0, .int .i64 0]) 2 16 ht hi hz0 hz1 hz2 rfl (by decide) ⟨g, 0, none⟩ 0 0 [] (by simp) (by intro j u h; simp at h) ⟨b, o, none⟩ l.length c (flatP l) (by rw [flatP_len])
        (fun j u hu => by
          have e : (⟨b, o, none⟩ : Addr).add j = ⟨b, o + j, none⟩ := by unfold Addr.add; split <;> simp_all
          rw [e]
          have hj : j < l.length * 2 := by have := (List.getElem?_eq_some_iff.1 hu).1; rwa [flatP_len] at this
          obtain ⟨k, r, hk, hr⟩ : ∃ k r, j = k * 2 + r ∧ r < 2 := ⟨j / 2, j % 2, by omega, Nat.mod_lt _ (by decide)⟩
          have hkl : k < l.length := by omega
          obtain ⟨c0, c1⟩ := hc k hkl
          obtain ⟨f0, f1⟩ := flatP_at l k hkl
          subst hk
          match r, hr with
          | 0, _ =>
            rw [Nat.add_zero] at hu
            rw [Nat.add_zero, c0, ← hu, f0]
          | 1, _ => rw [← Nat.add_assoc, c1, ← hu, f1]) (by omega) (by simp [maxLen]; omega) (by omega)
      rw [List.nil_append, Nat.zero_add] at h1
      exact ⟨v', w', hr, owns_base h1 (by omega), (Below.refl _ _).grown h2 (Nat.le_refl _) (by intro k hk; cases hk)⟩
set_option maxRecDepth 100000 in
theorem copies_own {w : World} {v : Value} {l : List (Int × Int)} (h : Prs w v l) (hs : l.length ≤ 100000) :
    Calls Tryd.prog 6 #[v] w fun e w' => ∃ u, e = .returned u ∧ w'.ownsRow w.heap.size 33 2 u l.length (flatP l) ∧ Below w.heap.size w w' := by
  obtain ⟨W1, hW1⟩ := named (w.alloc (.cells #[] 33))
  have hb1 : Below w.heap.size w W1 := by rw [hW1]; exact below_alloc1 _
  have kb : Blk W1 w.heap.size #[] 33 := by rw [hW1]; exact Blk.new _ _ _ _ rfl
  obtain ⟨u, w2, hr, hp, hb2⟩ := copyO W1 v l (h.below hb1) hs w.heap.size w.heap.size kb (Nat.le_refl _)
  have HP := Lib.hid hp
  have HB := Lib.hid (bOn6 hb1 hb2)
  have HR := Lib.hid hr
  have e1 := hW1.symm
  clear h hb1 hr hp hb2 hW1 kb
  go_enter Tryd.func6, Tryd.ntmps6
  go_wp2_with (at_builtin; refine wpList_append_run (by rfl) _ _ _ rfl _ _ _ rfl rfl HR.out ?_)
  go_ret
  exact ⟨_, rfl, HP.out, HB.out⟩
/-- More edges behind a row of one's own. -/
theorem appP {W : World} {base : Nat} {v : Value} {l news : List (Int × Int)} (h : W.ownsRow base 33 2 v l.length (flatP l)) {g : Nat} (hk : Blk W g (flatP news).toArray 33) (hl : l.length ≤ 100000) (hn : news.length ≤ 100) (hb : base ≤ W.heap.size) :
    ∃ q c w', (Builtin.append_ #[22, 22] 22 #[v, .slice (some ⟨g, 0, none⟩) news.length news.length]).run Tryd.prog W = .ok (.slice q (l.length + news.length) c) w' ∧ w'.ownsRow base 33 2 (.slice q (l.length + news.length) c) (l ++ news).length (flatP (l ++ news)) ∧ Below base W w' := by
  obtain ⟨i0, hi, hz0, hz1, hz2⟩ := info_parts infoPair
  obtain ⟨v', w', hr, h1, h2, -⟩ := run_append_own (P := Tryd.prog) W base 22 22 33 i0 (.agg #[.int .i64 0, .int .i64 0]) 2 16 Tryd.underlying22 hi hz0 hz1 hz2 rfl (by decide) v l.length (flatP l) h ⟨g, 0, none⟩ news.length news.length (flatP news) (flatP_len news)
    (fun j u hj => by
      rw [add0', hk.cell j (by rw [List.getElem?_toArray]; exact hj)]) (by
      intro u hu
      have key : ∀ (l : List (Int × Int)) (u : Value), u ∈ flatP l → u.oneCell' = true := by
        intro l
        induction l with
        | nil => intro u h; cases h
        | cons x r ih =>
          intro u h
          rw [flatP] at h
          rcases List.mem_cons.1 h with rfl | h
          · rfl
          · rcases List.mem_cons.1 h with rfl | h
            · rfl
            · exact ih u h
      exact key news u hu) (by simp [maxLen]; omega) (by omega) hb
  obtain ⟨q, c, rfl⟩ := own_shape h1
  refine ⟨q, c, w', hr, ?_, (Below.refl _ _).grown h2 hb (fun g hg => own_ge h g (by simpa using hg))⟩
  rw [List.length_append, flatP_app]
  exact h1
end Go.Proofs.YtleheaffipokfaaDoor
