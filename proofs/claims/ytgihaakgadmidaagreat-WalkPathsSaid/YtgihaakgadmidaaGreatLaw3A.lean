/-
  Rows of structs of three numbers that a call makes: appends, and what stays.
-/
import Derived.Test.YtgihaakgadmidaaGreatRNetA
import Derived.Test.YtgihaakgadmidaaGreatA2
import Derived.Test.YtgihaakgadmidaaGreatGrowX
namespace Go.Proofs.YtgihaakgadmidaaGreat
open Go.RowKit

/-- The cells of a row of structs of three numbers. -/
def flatT : List Tri → List Value
  | [] => []
  | x :: r => .int .i64 x.1 :: .int .i64 x.2.1 :: .int .i64 x.2.2 :: flatT r
theorem flatT_length : ∀ l, (flatT l).length = l.length * 3
  | [] => rfl
  | x :: r => by rw [flatT, List.length_cons, List.length_cons, List.length_cons, flatT_length r, List.length_cons]; omega
theorem flatT_append : ∀ (l m : List Tri), flatT (l ++ m) = flatT l ++ flatT m
  | [], m => rfl
  | x :: r, m => by rw [List.cons_append, flatT, flatT, flatT_append r m]; rfl
theorem flatT_at : ∀ (l : List Tri) (i : Nat) (h : i < l.length), (flatT l)[i * 3]? = some (.int .i64 l[i].1) ∧ (flatT l)[i * 3 + 1]? = some (.int .i64 l[i].2.1) ∧ (flatT l)[i * 3 + 2]? = some (.int .i64 l[i].2.2)
  | [], i, h => by simp at h
  | x :: r, 0, h => by simp [flatT]
  | x :: r, i + 1, h => by
    have := flatT_at r i (by simpa using h)
    rw [flatT, show (i + 1) * 3 = i * 3 + 1 + 1 + 1 by omega]
    simpa using this
/-- A row of one's own reads as it is. -/
theorem tris_of_owns {w : World} {base : Nat} {e : TypeId} {v : Value} {l : List Tri} (h : w.ownsRow base e 3 v l.length (flatT l)) (hl : l.length ≤ 9223372036854775807) : Tris w v l := by
  rcases h.2 with ⟨rfl, e0⟩ | ⟨g, cap, cur, rfl, _, _, hnc, hcm, _, _⟩
  · have : l = [] := List.length_eq_zero_iff.1 e0
    subst this
    exact Or.inl ⟨rfl, none, 0, rfl, fun _ => rfl⟩
  · refine Or.inr ⟨hl, g, 0, cap, hnc, by unfold maxLen at hcm; omega, rfl, fun i hi => ?_⟩
    obtain ⟨a, b, c⟩ := flatT_at l i hi
    rw [Nat.zero_add]
    exact ⟨(h.cellAt _ (by omega)).trans a, (h.cellAt _ (by omega)).trans b, (h.cellAt _ (by omega)).trans c⟩
theorem own_shape {w : World} {base : Nat} {e : TypeId} {size : Nat} {v : Value} {n : Nat} {xs : List Value} (h : w.ownsRow base e size v n xs) : ∃ q c, v = .slice q n c := by
  rcases h.2 with ⟨rfl, e0⟩ | ⟨g, cap, cur, rfl, _⟩
  · exact ⟨none, 0, by rw [e0]⟩
  · exact ⟨_, cap, rfl⟩
/-- A row stays where another one of other elements has grown. -/
theorem owns_grown {w w' : World} {base base' : Nat} {e e' : TypeId} {size size' : Nat} {v v' : Value} {n n' : Nat} {xs xs' : List Value} (h : w.ownsRow base e size v n xs) (h' : w.ownsRow base' e' size' v' n' xs') (hne : e ≠ e') (hg : w.grownBy w' v'.ownBlock) : w'.ownsRow base e size v n xs := by
  refine ⟨h.1, ?_⟩
  rcases h.2 with h0 | ⟨g, cap, cur, rfl, h1, h2, h3⟩
  · exact Or.inl h0
  · refine Or.inr ⟨g, cap, cur, rfl, h1, ?_, h3⟩
    have hlt : g < w.heap.size := (Array.getElem?_eq_some_iff.1 h2).1
    refine (hg.block g hlt ?_).trans h2
    rcases h'.2 with ⟨rfl, _⟩ | ⟨g', cap', cur', rfl, _, h4, _⟩
    · simp [Value.ownBlock]
    · simp only [Value.ownBlock, ne_eq, Option.some.injEq]
      intro e0
      subst e0
      rw [h2] at h4
      injection h4 with h4
      injection h4 with _ h4
      exact hne h4
/-- v is a literal of one struct of three numbers. -/
def LitT (t : TypeId) (x : Tri) (v : Value) (w : World) : Prop := ∃ g, v = .slice (some ⟨g, 0, none⟩) 1 1 ∧ Blk w g #[.int .i64 x.1, .int .i64 x.2.1, .int .i64 x.2.2] t
theorem LitT.below {t : TypeId} {x : Tri} {v : Value} {w w' : World} (h : LitT t x v w) (hb : Below w.heap.size w w') : LitT t x v w' := by
  obtain ⟨g, e, h⟩ := h
  exact ⟨g, e, h.keep hb⟩
theorem infoVert : (Tryz.prog.info? 102).map (fun i => (i.zero, i.size, i.bytes)) = some (some (.agg #[.int .i64 0, .int .i64 0, .int .i64 0]), 3, 24) := by kernel_rfl
theorem infoArc : (Tryz.prog.info? 98).map (fun i => (i.zero, i.size, i.bytes)) = some (some (.agg #[.int .i64 0, .int .i64 0, .int .i64 0]), 3, 24) := by kernel_rfl
/-- One struct of three numbers, behind a row of one's own: the run of that append. -/
theorem app3 {t e : TypeId} (ht : Tryz.prog.underlying t = some (.slice e)) (hinf : (Tryz.prog.info? e).map (fun i => (i.zero, i.size, i.bytes)) = some (some (.agg #[.int .i64 0, .int .i64 0, .int .i64 0]), 3, 24)) {W : World} {base : Nat} {v u : Value} {l : List Tri} {x : Tri} (h : W.ownsRow base e 3 v l.length (flatT l)) (hu : LitT e x u W) (hl : l.length ≤ 100000) (hb : base ≤ W.heap.size) :
    ∃ q c w', (Builtin.append_ #[t, t] t #[v, u]).run Tryz.prog W = .ok (.slice q (l.length + 1) c) w' ∧ w'.ownsRow base e 3 (.slice q (l.length + 1) c) (l.length + 1) (flatT (l ++ [x])) ∧ W.grownBy w' v.ownBlock := by
  obtain ⟨i0, hi, hz0, hz1, hz2⟩ := info_parts hinf
  obtain ⟨g, rfl, hk⟩ := hu
  obtain ⟨v', w', hr, h1, h2, -⟩ := run_append_own (P := Tryz.prog) W base t t e i0 (.agg #[.int .i64 0, .int .i64 0, .int .i64 0]) 3 24 ht hi hz0 hz1 hz2 rfl (by decide) v l.length (flatT l) h ⟨g, 0, none⟩ 1 1 [.int .i64 x.1, .int .i64 x.2.1, .int .i64 x.2.2] rfl
    (fun j u hj => by
      obtain ⟨k0, k1, k2, -, -, -⟩ := hk.o3
      match j, hj with
      | 0, hj => simp at hj; subst hj; simpa [Addr.add] using k0
      | 1, hj => simp at hj; subst hj; simpa [Addr.add] using k1
      | 2, hj => simp at hj; subst hj; simpa [Addr.add] using k2) (by intro u hu; simp at hu; rcases hu with rfl | rfl | rfl <;> rfl) (by simp [maxLen]; omega) (by omega) hb
  obtain ⟨q, c, rfl⟩ := own_shape h1
  exact ⟨q, c, w', hr, by rw [flatT_append]; exact h1, h2⟩

/-! ### rows of tables -/
/-- A row of numbers of one's own. -/
def RowI (w : World) (u : Value) (l : List Int) : Prop := ∃ base, w.ownsRow base 2 1 u l.length (l.map (Value.int .i64))
theorem RowI.below {w w' : World} {u : Value} {l : List Int} (h : RowI w u l) (hb : Below w.heap.size w w') : RowI w' u l := by
  obtain ⟨base, h⟩ := h
  exact ⟨base, owns_below h hb⟩
theorem RowI.grown {w w' : World} {u : Value} {l : List Int} (h : RowI w u l) {base' : Nat} {e' : TypeId} {size' : Nat} {v' : Value} {n' : Nat} {xs' : List Value} (h' : w.ownsRow base' e' size' v' n' xs') (hne : 2 ≠ e') (hg : w.grownBy w' v'.ownBlock) : RowI w' u l := by
  obtain ⟨base, h⟩ := h
  exact ⟨base, owns_grown h h' hne hg⟩
theorem RowI.set {w : World} {u : Value} {l : List Int} (h : RowI w u l) {k : Nat} {cs : Array Value} {t : TypeId} (hk : Blk w k cs t) (hne : 2 ≠ t) (o : Nat) (x : Value) : RowI (w.setCell ⟨k, o, none⟩ x) u l := by
  obtain ⟨base, h⟩ := h
  refine ⟨base, h.1, ?_⟩
  rcases h.2 with h0 | ⟨g, cap, cur, h1, h2, h3, h4⟩
  · exact Or.inl h0
  · refine Or.inr ⟨g, cap, cur, h1, h2, ?_, h4⟩
    have hg : g ≠ k := fun e => by
      subst e
      unfold Blk at hk
      rw [hk] at h3
      injection h3 with h3
      injection h3 with _ h3
      exact hne h3.symm
    exact (heap_setCell_other w ⟨k, o, none⟩ g x hg).trans h3
/-- The cells of a row of tables. -/
def flatB : List Tab → List Value → List Value
  | t :: r, u :: us => .int .i64 t.1 :: .int .i64 t.2.1 :: u :: flatB r us
  | _, _ => []
theorem flatB_append : ∀ (l : List Tab) (us : List Value) (t : Tab) (u : Value), us.length = l.length → flatB (l ++ [t]) (us ++ [u]) = flatB l us ++ [.int .i64 t.1, .int .i64 t.2.1, u]
  | [], [], t, u, _ => rfl
  | [], _ :: _, t, u, h => by simp at h
  | _ :: _, [], t, u, h => by simp at h
  | x :: r, y :: us, t, u, h => by
    rw [List.cons_append, List.cons_append, flatB, flatB, flatB_append r us t u (by simpa using h)]
    rfl
theorem flatB_at : ∀ (l : List Tab) (us : List Value) (i : Nat) (h : i < l.length) (h' : i < us.length), (flatB l us)[i * 3]? = some (.int .i64 l[i].1) ∧ (flatB l us)[i * 3 + 1]? = some (.int .i64 l[i].2.1) ∧ (flatB l us)[i * 3 + 2]? = some us[i]
  | [], us, i, h, _ => by simp at h
  | _ :: _, [], i, _, h' => by simp at h'
  | x :: r, u :: us, 0, h, h' => by simp [flatB]
  | x :: r, u :: us, i + 1, h, h' => by
    have := flatB_at r us i (by simpa using h) (by simpa using h')
    rw [flatB, show (i + 1) * 3 = i * 3 + 1 + 1 + 1 by omega]
    simpa using this
/-- The rows of tables lie in blocks of their own. -/
def RowsI (w : World) (l : List Tab) (us : List Value) : Prop := us.length = l.length ∧ ∀ (i : Nat) (t : Tab) (u : Value), l[i]? = some t → us[i]? = some u → RowI w u t.2.2
theorem RowsI.map {w w' : World} {l : List Tab} {us : List Value} (h : RowsI w l us) (hf : ∀ u m, RowI w u m → RowI w' u m) : RowsI w' l us := ⟨h.1, fun i t u h1 h2 => hf _ _ (h.2 i t u h1 h2)⟩
theorem RowsI.snoc {w : World} {l : List Tab} {us : List Value} (h : RowsI w l us) {t : Tab} {u : Value} (hu : RowI w u t.2.2) : RowsI w (l ++ [t]) (us ++ [u]) := by
  refine ⟨by simp [h.1], fun i t' u' h1 h2 => ?_⟩
  by_cases hi : i < l.length
  · rw [List.getElem?_append_left hi] at h1
    rw [List.getElem?_append_left (by rw [h.1]; exact hi)] at h2
    exact h.2 i t' u' h1 h2
  · rw [List.getElem?_append_right (by omega)] at h1
    rw [List.getElem?_append_right (by rw [h.1]; omega), h.1] at h2
    have hz : i - l.length = 0 := by
      have := (List.getElem?_eq_some_iff.1 h1).1
      simp at this
      omega
    rw [hz] at h1 h2
    simp at h1 h2
    subst h1
    subst h2
    exact hu
theorem tabs_of_owns {w : World} {base : Nat} {e : TypeId} {v : Value} {l : List Tab} {us : List Value} (h : w.ownsRow base e 3 v l.length (flatB l us)) (hr : RowsI w l us) (hl : l.length ≤ 9223372036854775807) (hc : ∀ t ∈ l, t.2.2.length ≤ 1000) : Tabs w v l := by
  rcases h.2 with ⟨rfl, e0⟩ | ⟨g, cap, cur, rfl, _, _, hnc, hcm, _, _⟩
  · have : l = [] := List.length_eq_zero_iff.1 e0
    subst this
    exact Or.inl ⟨rfl, none, 0, rfl, fun _ => rfl⟩
  · refine Or.inr ⟨hl, g, 0, cap, hnc, by unfold maxLen at hcm; omega, rfl, fun i hi => ?_⟩
    have hi' : i < us.length := by rw [hr.1]; exact hi
    obtain ⟨a, b, c⟩ := flatB_at l us i hi hi'
    rw [Nat.zero_add]
    obtain ⟨base', ho⟩ := hr.2 i l[i] us[i] (List.getElem?_eq_getElem hi) (List.getElem?_eq_getElem hi')
    exact ⟨us[i], (h.cellAt _ (by omega)).trans a, (h.cellAt _ (by omega)).trans b, (h.cellAt _ (by omega)).trans c, ints_of_owns ho (by have := hc _ (List.getElem_mem hi); omega)⟩
/-- v is a table with a row of its own. -/
def TabI (I O : Int) (l : List Int) (v : Value) (w : World) : Prop := ∃ u, v = .agg #[.int .i64 I, .int .i64 O, u] ∧ RowI w u l
theorem TabI.below {I O : Int} {l : List Int} {v : Value} {w w' : World} (h : TabI I O l v w) (hb : Below w.heap.size w w') : TabI I O l v w' := by
  obtain ⟨u, e, h⟩ := h
  exact ⟨u, e, h.below hb⟩
/-- v is a literal of one table. -/
def LitB (I O : Int) (l : List Int) (v : Value) (w : World) : Prop := ∃ g u, v = .slice (some ⟨g, 0, none⟩) 1 1 ∧ Blk w g #[.int .i64 I, .int .i64 O, u] 103 ∧ RowI w u l
theorem LitB.below {I O : Int} {l : List Int} {v : Value} {w w' : World} (h : LitB I O l v w) (hb : Below w.heap.size w w') : LitB I O l v w' := by
  obtain ⟨g, u, e, h, h'⟩ := h
  exact ⟨g, u, e, h.keep hb, h'.below hb⟩
theorem infoTab : (Tryz.prog.info? 103).map (fun i => (i.zero, i.size, i.bytes)) = some (some (.agg #[.int .i64 0, .int .i64 0, .slice none 0 0]), 3, 40) := by kernel_rfl
theorem appB {W : World} {base : Nat} {v u : Value} {l : List Tab} {us : List Value} {t : Tab} (h : W.ownsRow base 103 3 v l.length (flatB l us)) (hus : us.length = l.length) (hu : LitB t.1 t.2.1 t.2.2 u W) (hl : l.length ≤ 100000) (hb : base ≤ W.heap.size) :
    ∃ q c w' y, (Builtin.append_ #[60, 60] 60 #[v, u]).run Tryz.prog W = .ok (.slice q (l.length + 1) c) w' ∧ w'.ownsRow base 103 3 (.slice q (l.length + 1) c) (l.length + 1) (flatB (l ++ [t]) (us ++ [y])) ∧ W.grownBy w' v.ownBlock ∧ RowI W y t.2.2 := by
  obtain ⟨i0, hi, hz0, hz1, hz2⟩ := info_parts infoTab
  obtain ⟨g, y, rfl, hk, hy⟩ := hu
  have hy1 : y.oneCell' = true := by
    obtain ⟨b', hy'⟩ := hy
    obtain ⟨q, c, rfl⟩ := own_shape hy'
    rfl
  obtain ⟨v', w', hr, h1, h2, -⟩ := run_append_own (P := Tryz.prog) W base 60 60 103 i0 (.agg #[.int .i64 0, .int .i64 0, .slice none 0 0]) 3 40 Tryz.underlying60 hi hz0 hz1 hz2 rfl (by decide) v l.length (flatB l us) h ⟨g, 0, none⟩ 1 1 [.int .i64 t.1, .int .i64 t.2.1, y] rfl
    (fun j u hj => by
      obtain ⟨k0, k1, k2, -, -, -⟩ := hk.o3
      match j, hj with
      | 0, hj => simp at hj; subst hj; simpa [Addr.add] using k0
      | 1, hj => simp at hj; subst hj; simpa [Addr.add] using k1
      | 2, hj => simp at hj; subst hj; simpa [Addr.add] using k2) (by intro u hu; simp at hu; rcases hu with rfl | rfl | rfl; rfl; rfl; exact hy1) (by simp [maxLen]; omega) (by omega) hb
  obtain ⟨q, c, rfl⟩ := own_shape h1
  exact ⟨q, c, w', y, hr, by rw [flatB_append _ _ _ _ hus]; exact h1, h2, hy⟩

end Go.Proofs.YtgihaakgadmidaaGreat
