/-
  A queue: numbers taken from the front of a row of one's own, others put behind it.
-/
import Derived.Test.YtleheaffipokfaaDoorFlPa
import Derived.Test.YtleheaffipokfaaDoorFlCu
namespace Go.Proofs.YtleheaffipokfaaDoor
open Go.RowKit

/-- A queue in a block of its own. -/
def QueM (w : World) (base : Nat) (v : Value) (l : List Nat) : Prop :=
  (v = .slice none 0 0 ∧ l = []) ∨ ∃ g o cap cur, v = .slice (some ⟨g, o, none⟩) l.length cap ∧ base ≤ g ∧ Blk w g cur 3 ∧ l.length ≤ cap ∧ o + cap ≤ cur.size ∧ cap ≤ 9223372036854775807 ∧ ∀ i (h : i < l.length), cur[o + i]? = some (.int .i64 (l[i] : Int))
section
variable {w w' : World} {base : Nat} {v : Value} {l : List Nat}
theorem QueM.old (h : QueM w base v l) (hb : Below w.heap.size w w') : QueM w' base v l := by
  rcases h with h | ⟨g, o, cap, cur, h1, h2, h3, h4⟩
  · exact Or.inl h
  · exact Or.inr ⟨g, o, cap, cur, h1, h2, h3.keep hb, h4⟩
theorem QueM.set (h : QueM w base v l) {k : Nat} (hk : k < base) (o : Nat) (x : Value) : QueM (w.setCell ⟨k, o, none⟩ x) base v l := by
  rcases h with h | ⟨g, o', cap, cur, h1, h2, h3, h4⟩
  · exact Or.inl h
  · exact Or.inr ⟨g, o', cap, cur, h1, h2, h3.other o x (by omega), h4⟩
theorem QueM.cell {x : Nat} (h : QueM w base v (x :: l)) : ∃ g o cap, v = .slice (some ⟨g, o, none⟩) (l.length + 1) (cap + 1) ∧ w.cell? ⟨g, o, none⟩ = some (.int .i64 (x : Int)) ∧ g < w.heap.size ∧ cap + 1 ≤ 9223372036854775807 ∧ l.length ≤ cap ∧ QueM w base (.slice (some ⟨g, o + 1, none⟩) l.length cap) l ∧ (cap = 0 → QueM w base (.slice (some ⟨g, o, none⟩) l.length 0) l) := by
  rcases h with ⟨-, h⟩ | ⟨g, o, cap, cur, h1, h2, h3, h4, h5, h6, h7⟩
  · cases h
  · rw [List.length_cons] at h4
    obtain ⟨c, rfl⟩ : ∃ c, cap = c + 1 := ⟨cap - 1, by omega⟩
    have h0 := h7 0 (by simp)
    rw [Nat.add_zero] at h0
    refine ⟨g, o, c, h1, h3.cell o (by simpa using h0), h3.lt, h6, by omega, Or.inr ⟨g, o + 1, c, cur, rfl, h2, h3, by omega, by omega, by omega, fun i hi => ?_⟩, fun e => Or.inr ⟨g, o, 0, cur, rfl, h2, h3, by omega, by omega, by omega, fun i hi => by omega⟩⟩
    have := h7 (i + 1) (by simp; omega)
    rw [show o + 1 + i = o + (i + 1) by omega, this]
    rfl
theorem QueM.nil (w : World) (base : Nat) : QueM w base (.slice none 0 0) [] := Or.inl ⟨rfl, rfl⟩
theorem QueM.shape (h : QueM w base v l) : ∃ q c, v = .slice q l.length c := by
  rcases h with ⟨rfl, rfl⟩ | ⟨g, o, cap, cur, h1, -⟩
  · exact ⟨none, 0, rfl⟩
  · exact ⟨_, _, h1⟩
/-- One more behind it. -/
theorem QueM.app (h : QueM w base v l) {x g : Nat} (hg : Blk w g #[.int .i64 (x : Int)] 3) (hl : l.length ≤ 100000) (hb : base ≤ w.heap.size) :
    ∃ q c w', (Builtin.append_ #[23, 23] 23 #[v, .slice (some ⟨g, 0, none⟩) 1 1]).run Tryd.prog w = .ok (.slice q (l.length + 1) c) w' ∧ QueM w' base (.slice q (l.length + 1) c) (l ++ [x]) ∧ Below base w w' := by
  obtain ⟨i0, hi, hz0, hz1, hz2⟩ := info_parts infoInt
  have ht : Tryd.prog.underlying 23 = some (.slice 3) := Tryd.underlying23
  have hnew : ∀ (j : Nat) (u : Value), [Value.int .i64 (x : Int)][j]? = some u → w.cell? ((⟨g, 0, none⟩ : Addr).add j) = some u := by
    intro j u hj
    match j, hj with
    | 0, hj =>
      rw [add0']
      rw [hg.cell 0 rfl]
      exact hj
    | j + 1, hj => simp at hj
  have fin : ∀ {v' : Value} {w' : World} {olds : List Value}, olds = l.map (fun n : Nat => Value.int .i64 (n : Int)) → w'.ownsRow w.heap.size 3 1 v' (l.length + 1) (olds ++ [.int .i64 (x : Int)]) → w.grownBy w' none → ∃ q c, v' = .slice q (l.length + 1) c ∧ QueM w' base (.slice q (l.length + 1) c) (l ++ [x]) ∧ Below base w w' := by
    rintro v' w' olds rfl h1 h2
    rcases h1.2 with ⟨-, e⟩ | ⟨g', cap, cur, rfl, hge, hk, hnc, hcm, hcz, htk⟩
    · omega
    · refine ⟨_, _, rfl, Or.inr ⟨g', 0, cap, cur, by simp, by omega, hk, by simpa using hnc, by omega, by unfold maxLen at hcm; omega, fun i hi => ?_⟩, ((Below.refl _ _).grown h2 (Nat.le_refl _) (by intro k hk; cases hk)).mono hb⟩
      rw [List.length_append, List.length_singleton] at hi
      have := congrArg (fun L => L[i]?) htk
      simp only [List.getElem?_take] at this
      rw [if_pos (by omega)] at this
      rw [Nat.zero_add, ← Array.getElem?_toList, this]
      rw [show l.map (fun n : Nat => Value.int .i64 (n : Int)) ++ [Value.int .i64 (x : Int)] = (l ++ [x]).map (fun n : Nat => Value.int .i64 (n : Int)) by simp, List.getElem?_map, List.getElem?_eq_getElem (by simpa using hi)]
      rfl
  rcases h with ⟨rfl, rfl⟩ | ⟨gq, o, cap, cur, rfl, h2, h3, h4, h5, h6, h7⟩
  · obtain ⟨v', w', hr, h1, h2, -⟩ := run_append_own (P := Tryd.prog) w base 23 23 3 i0 (.int .i64 0) 1 8 ht hi hz0 hz1 hz2 rfl (by decide) (.slice none 0 0) 0 [] ⟨rfl, Or.inl ⟨rfl, rfl⟩⟩ ⟨g, 0, none⟩ 1 1 [.int .i64 (x : Int)] rfl hnew (by intro u hu; simp at hu; subst hu; rfl) (by simp [maxLen]) (by omega) hb
    rcases h1.2 with ⟨-, e⟩ | ⟨g', cap, cur, rfl, hge, hk, hnc, hcm, hcz, htk⟩
    · omega
    · refine ⟨_, _, w', hr, Or.inr ⟨g', 0, cap, cur, rfl, hge, hk, hnc, by omega, by unfold maxLen at hcm; omega, fun i hi => ?_⟩, (Below.refl _ _).grown h2 hb (by intro k hk; cases hk)⟩
      have hi' : i < 1 := by simpa using hi
      obtain rfl : i = 0 := by omega
      have := congrArg (fun L => L[0]?) htk
      simp only [List.getElem?_take] at this
      rw [if_pos (by omega)] at this
      rw [Nat.zero_add, ← Array.getElem?_toList, this]
      rfl
  · by_cases hroom : l.length + 1 ≤ cap
    · have := run_append_room_cells (P := Tryd.prog) (w := w) 23 23 3 i0 ht hi gq o l.length cap ⟨g, 0, none⟩ 1 1 [.int .i64 (x : Int)] (by rw [hz1]; rfl) hnew (by intro u hu; simp at hu; subst hu; rfl) hroom
        (by
          intro j hj
          obtain rfl : j = 0 := by simpa using hj
          have hsz : o + l.length < cur.size := by omega
          rw [hz1, Nat.mul_one, Nat.add_zero, h3.cell (o + l.length) (Array.getElem?_eq_getElem hsz)]
          rfl)
        (by intro j hj; exact h3.free _)
      rw [hz1, Nat.mul_one] at this
      refine ⟨_, _, _, this, Or.inr ⟨gq, o, cap, cur.setIfInBounds (o + l.length) (.int .i64 (x : Int)), by simp, h2, ?_, by simpa using hroom, by simpa using h5, h6, fun i hi => ?_⟩, ?_⟩
      · have := h3.set (o + l.length) (.int .i64 (x : Int))
        simpa [World.setCells] using this
      · rw [List.length_append, List.length_singleton] at hi
        by_cases e : i = l.length
        · subst e
          rw [Array.getElem?_setIfInBounds_self_of_lt (by omega)]
          simp
        · rw [Array.getElem?_setIfInBounds_ne (by omega), h7 i (by omega), List.getElem_append_left (by omega)]
      · have : Below base w (w.setCell ⟨gq, o + l.length, none⟩ (.int .i64 (x : Int))) := (Below.refl _ _).setCell h2 _
        simpa [World.setCells] using this
    · obtain ⟨v', w', hr, h1, h2'⟩ := run_append_arg_grows (P := Tryd.prog) (w := w) 23 23 3 i0 (.int .i64 0) 1 8 ht hi hz0 hz1 hz2 rfl (by decide) ⟨gq, o, none⟩ l.length cap (l.map fun n : Nat => Value.int .i64 (n : Int)) (by simp)
        (fun j u hj => by
          have e : (⟨gq, o, none⟩ : Addr).add j = ⟨gq, o + j, none⟩ := by unfold Addr.add; split <;> simp_all
          rw [e]
          obtain ⟨hj', hu⟩ := List.getElem?_eq_some_iff.1 hj
          have hjl : j < l.length := by simpa using hj'
          rw [h3.cell (o + j) (h7 j hjl), ← hu, List.getElem_map]) ⟨g, 0, none⟩ 1 1 [.int .i64 (x : Int)] rfl hnew (by omega) (by simp [maxLen]; omega) (by omega)
      obtain ⟨q, c, rfl, hq, hbb⟩ := fin rfl h1 h2'
      exact ⟨q, c, w', hr, hq, hbb⟩
end
end Go.Proofs.YtleheaffipokfaaDoor
