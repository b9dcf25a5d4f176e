/-
  The document's own tables of turns: one that is turned into another.
-/
import Derived.Test.YtboimdgldjimpaaDoorRTab
import Derived.Test.YtboimdgldjimpaaDoorRows1
namespace Go.Proofs.YtboimdgldjimpaaDoor
open Go.RowKit

/-- v is a table: so many ins and outs, and what each turn costs. -/
def TabV (w : World) (v : Value) (I O : Int) (l : List Int) : Prop := ∃ u, v = .agg #[.int .i64 I, .int .i64 O, u] ∧ I64s w u l
/-- What a call answers that tells a table and a Wrong. -/
def TWPost (I O : Int) (l : List Int) (ps : List (ByteArray × Int)) (e : Int) (w : World) (ev : Ending) (w' : World) : Prop :=
  ∃ tv wv, ev = .returned (.tuple #[tv, wv]) ∧ TabV w' tv I O l ∧ WrongV w' wv ps e ∧ Below w.heap.size w w'
theorem tab_zero (w : World) : TabV w (.agg #[.int .i64 0, .int .i64 0, .slice none 0 0]) 0 0 [] := ⟨_, rfl, Or.inl ⟨rfl, _, _, rfl, fun _ => rfl⟩⟩

set_option maxHeartbeats 1000000 in
theorem rwith_in (I O : Int) (u : Value) (x y c : Int) (w : World) (h : x < 0 ∨ I ≤ x) :
    Calls Tryd.prog 16 #[.agg #[.int .i64 I, .int .i64 O, u], .int .i64 x, .int .i64 y, .int .i64 c] w (TWPost 0 0 [] [(turnB, 0)] 5 w) := by
  go_enter Tryd.func16, Tryd.ntmps16
  go_wp2_with (go_at_call 27; refine (at_any turnB _ _ _).mono ?_; rintro e w' ⟨rfl, rfl⟩)
  all_goals
    refine bodyPost_ret (v := .tuple #[.agg #[.int .i64 0, .int .i64 0, .slice none 0 0], .agg #[.slice (some ⟨w.heap.size + 1 + 1 + 1 + 1, 0, none⟩) 1 1, .int .i64 5]]) (by simp [results, Tryd.results16, go_sem]) rfl ⟨_, _, rfl, tab_zero _, wrong_last _ _ (by simp) _ _ _, ?_⟩
    exact (below_alloc4 _ _ _ _).alloc (by simp; omega) _

set_option maxHeartbeats 1000000 in
theorem rwith_out (I O : Int) (u : Value) (x y c : Int) (w : World) (h0 : ¬ (x < 0 ∨ I ≤ x)) (h : y < 0 ∨ O ≤ y) :
    Calls Tryd.prog 16 #[.agg #[.int .i64 I, .int .i64 O, u], .int .i64 x, .int .i64 y, .int .i64 c] w (TWPost 0 0 [] [(turnB, 1)] 5 w) := by
  go_enter Tryd.func16, Tryd.ntmps16
  go_wp2_with (go_at_call 27; refine (at_any turnB _ _ _).mono ?_; rintro e w' ⟨rfl, rfl⟩)
  all_goals
    refine bodyPost_ret (v := .tuple #[.agg #[.int .i64 0, .int .i64 0, .slice none 0 0], .agg #[.slice (some ⟨w.heap.size + 1 + 1 + 1 + 1, 0, none⟩) 1 1, .int .i64 5]]) (by simp [results, Tryd.results16, go_sem]) rfl ⟨_, _, rfl, tab_zero _, wrong_last _ _ (by simp) _ _ _, ?_⟩
    exact (below_alloc4 _ _ _ _).alloc (by simp; omega) _

set_option maxHeartbeats 1000000 in
theorem rwith_range (I O : Int) (u : Value) (x y c : Int) (w : World) (h0 : ¬ (x < 0 ∨ I ≤ x)) (h1 : ¬ (y < 0 ∨ O ≤ y)) (c0 : -9223372036854775808 ≤ c) (c1 : c ≤ 9223372036854775807) (h : wgt c = false) :
    Calls Tryd.prog 16 #[.agg #[.int .i64 I, .int .i64 O, u], .int .i64 x, .int .i64 y, .int .i64 c] w (TWPost 0 0 [] [(turnB, 2)] 8 w) := by
  go_enter Tryd.func16, Tryd.ntmps16
  go_wp2_with (first | (go_at_call 26; refine (rweight_any _ _ (by omega) (by omega)).mono ?_; rintro e w' ⟨rfl, rfl⟩) | (go_at_call 27; refine (at_any turnB _ _ _).mono ?_; rintro e w' ⟨rfl, rfl⟩))
  all_goals
    refine bodyPost_ret (v := .tuple #[.agg #[.int .i64 0, .int .i64 0, .slice none 0 0], .agg #[.slice (some ⟨w.heap.size + 1 + 1 + 1 + 1, 0, none⟩) 1 1, .int .i64 8]]) (by simp [results, Tryd.results16, go_sem]) rfl ⟨_, _, rfl, tab_zero _, wrong_last _ _ (by simp) _ _ _, ?_⟩
    exact (below_alloc4 _ _ _ _).alloc (by simp; omega) _

/-- The world ahead of the copy: the table's box, the two results' cells. -/
def withWorld (I O : Int) (u : Value) (w : World) : World := ((w.alloc (.cells #[.int .i64 I, .int .i64 O, u] 24)).alloc (.cells #[.int .i64 0, .int .i64 0, .slice none 0 0] 24)).alloc (.cells #[.slice none 0 0, .int .i64 0] 28)

set_option maxRecDepth 100000 in
set_option maxHeartbeats 1000000 in
theorem rwith_ok (I O : Int) (u : Value) (l : List Int) (x y c : Int) (w : World) (hs : 0 ≤ I ∧ I ≤ 16 ∧ 0 ≤ O ∧ O ≤ 16) (hn : (l.length : Int) = I * O) (hu : I64s w u l) (h : 0 ≤ x ∧ x < I ∧ 0 ≤ y ∧ y < O) (c0 : -9223372036854775808 ≤ c) (c1 : c ≤ 9223372036854775807) (hc : wgt c = true) :
    Calls Tryd.prog 16 #[.agg #[.int .i64 I, .int .i64 O, u], .int .i64 x, .int .i64 y, .int .i64 c] w (TWPost I O (l.set (x * O + y).toNat c) [] 0 w) := by
  obtain ⟨p0, p1⟩ := place_lt hn h
  obtain ⟨s0, s1⟩ := size_le hs
  have hI := hs.1
  obtain ⟨x0, x1, y0, y1⟩ := h
  obtain ⟨q, cu, rfl⟩ := hu.shape
  have b3 : Below w.heap.size w (withWorld I O (.slice q l.length cu) w) := (below_alloc2 _ _).alloc (by simp; omega) _
  have z3 : (withWorld I O (.slice q l.length cu) w).heap.size = w.heap.size + 1 + 1 + 1 := by simp [withWorld]
  obtain ⟨v', w', hr, hown, hb⟩ := copy_own (withWorld I O (.slice q l.length cu) w) _ l (hu.below b3) (by omega) _ z3
  have hj : (x * O + y).toNat < l.length := by omega
  obtain ⟨g, cap, cur, rfl, hg0, hg1, hg2, hg3⟩ : ∃ g cap cur, v' = .slice (some ⟨g, 0, none⟩) l.length cap ∧ (withWorld I O (.slice q l.length cu) w).heap.size ≤ g ∧ w'.heap[g]? = some (.cells cur 2 (0, 0)) ∧ l.length ≤ cap ∧ cap ≤ maxLen := by
    rcases hown.2 with ⟨_, hz⟩ | ⟨g, cap, cur, e, h1, h2, h3, h4, _, _⟩
    · omega
    · exact ⟨g, cap, cur, e, h1, h2, h3, h4⟩
  have hcA : w'.cell? ⟨g, (x * O + y).toNat, none⟩ = some (.int .i64 l[(x * O + y).toNat]) := by
    rw [hown.cellAt _ (by omega)]; simp [hj]
  have hfA := hown.frozenAt (x * O + y).toNat
  have hgb : w.heap.size + 1 + 1 + 1 ≤ g := by omega
  have hcells : ∀ b o v, b < w.heap.size + 1 + 1 + 1 → (withWorld I O (.slice q l.length cu) w).cell? ⟨b, o, none⟩ = some v → w'.cell? ⟨b, o, none⟩ = some v := fun b o v h1 h2 => (hb.cell (by rw [z3]; exact h1)).trans h2
  have hfroz : ∀ b o, b < w.heap.size + 1 + 1 + 1 → w'.frozen? ⟨b, o, none⟩ = (withWorld I O (.slice q l.length cu) w).frozen? ⟨b, o, none⟩ := fun b o h1 => hb.frozen (by rw [z3]; exact h1)
  have a0 := hcells w.heap.size 0 (.int .i64 I) (by omega) (by unfold withWorld; go_simp)
  have a1 := hcells w.heap.size 1 (.int .i64 O) (by omega) (by unfold withWorld; go_simp)
  have r0 := hcells (w.heap.size + 1) 0 (.int .i64 0) (by omega) (by unfold withWorld; go_simp)
  have r1 := hcells (w.heap.size + 1) 1 (.int .i64 0) (by omega) (by unfold withWorld; go_simp)
  have r2 := hcells (w.heap.size + 1) 2 (.slice none 0 0) (by omega) (by unfold withWorld; go_simp)
  have e0 := hcells (w.heap.size + 1 + 1) 0 (.slice none 0 0) (by omega) (by unfold withWorld; go_simp)
  have e1 := hcells (w.heap.size + 1 + 1) 1 (.int .i64 0) (by omega) (by unfold withWorld; go_simp)
  have f0 := (hfroz (w.heap.size + 1) 0 (by omega)).trans (show _ = false by unfold withWorld; go_simp)
  have f1 := (hfroz (w.heap.size + 1) 1 (by omega)).trans (show _ = false by unfold withWorld; go_simp)
  have f2 := (hfroz (w.heap.size + 1) 2 (by omega)).trans (show _ = false by unfold withWorld; go_simp)
  have f3 := (hfroz (w.heap.size + 1 + 1) 0 (by omega)).trans (show _ = false by unfold withWorld; go_simp)
  have f4 := (hfroz (w.heap.size + 1 + 1) 1 (by omega)).trans (show _ = false by unfold withWorld; go_simp)
  have HR := Lib.hid hr
  have HO := Lib.hid hown
  have HB : Hid (Below w.heap.size w w') := Lib.hid (b3.trans (hb.mono (by rw [z3]; omega)))
  have HU := Lib.hid hu
  clear hu hr hown hb hcells hfroz hg0 hg1 b3 z3
  go_enter Tryd.func16, Tryd.ntmps16
  go_wp2_with (first | (go_at_call 26; refine (rweight_any _ _ (by omega) (by omega)).mono ?_; rintro e w' ⟨rfl, rfl⟩) | (at_builtin; refine wpList_append_run (by rfl) _ _ 22 rfl _ _ _ rfl rfl HR.out ?_))
  have z3 : (withWorld I O (.slice q l.length cu) w).heap.size = w.heap.size + 1 + 1 + 1 := by simp [withWorld]
  refine bodyPost_ret (v := .tuple #[.agg #[.int .i64 I, .int .i64 O, .slice (some ⟨g, 0, none⟩) l.length cap], .agg #[.slice none 0 0, .int .i64 0]]) (by simp [results, Tryd.results16, go_sem]; go_simp) rfl ⟨_, _, rfl, ⟨_, rfl, ?_⟩, ⟨_, rfl, Or.inl ⟨rfl, rfl⟩⟩, ?_⟩
  · have h1 := (HO.out.stored (x * O + y).toNat (.int .i64 c)).1
    rw [← List.map_set] at h1
    have h2 : ∀ {W : World} (o : Nat) (k : Nat) (v : Value), k < w.heap.size + 1 + 1 + 1 → W.ownsRow (withWorld I O (.slice q l.length cu) w).heap.size 2 1 (.slice (some ⟨g, 0, none⟩) l.length cap) l.length ((l.set (x * O + y).toNat c).map (Value.int .i64)) → (W.setCell ⟨k, o, none⟩ v).ownsRow (withWorld I O (.slice q l.length cu) w).heap.size 2 1 (.slice (some ⟨g, 0, none⟩) l.length cap) l.length ((l.set (x * O + y).toNat c).map (Value.int .i64)) := fun o k v hk h => ownsRow_setCell_below h (by rw [z3]; exact hk) v
    have h3 := h2 1 (w.heap.size + 1 + 1) (.int .i64 0) (by omega) (h2 0 (w.heap.size + 1 + 1) (.slice none 0 0) (by omega) (h2 2 (w.heap.size + 1) (.slice (some ⟨g, 0, none⟩) l.length cap) (by omega) (h2 1 (w.heap.size + 1) (.int .i64 O) (by omega) (h2 0 (w.heap.size + 1) (.int .i64 I) (by omega) h1))))
    have h4 := i64s_of_owns h3 (by rw [List.length_set]; omega)
    exact h4
  · exact (((((HB.out.setCell (by simp only []; omega) _).setCell (by simp only []; omega) _).setCell (by simp only []; omega) _).setCell (by simp only []; omega) _).setCell (by simp only []; omega) _).setCell (by simp only []; omega) _

/-- The document's With, of a table that may be. -/
theorem rwith_any (I O : Int) (u : Value) (l : List Int) (x y c : Int) (w : World) (hs : 0 ≤ I ∧ I ≤ 16 ∧ 0 ≤ O ∧ O ≤ 16) (hn : (l.length : Int) = I * O) (hu : I64s w u l) (c0 : -9223372036854775808 ≤ c) (c1 : c ≤ 9223372036854775807) :
    Calls Tryd.prog 16 #[.agg #[.int .i64 I, .int .i64 O, u], .int .i64 x, .int .i64 y, .int .i64 c] w (TWPost (withT I O l x y c).1 (withT I O l x y c).2.1 (withT I O l x y c).2.2 (turnW (withW I O x y c)) (withW I O x y c).2 w) := by
  unfold withT withW
  by_cases h0 : x < 0 ∨ I ≤ x
  · simp only [if_pos h0]; exact rwith_in I O u x y c w h0
  simp only [if_neg h0]
  by_cases h1 : y < 0 ∨ O ≤ y
  · simp only [if_pos h1]; exact rwith_out I O u x y c w h0 h1
  simp only [if_neg h1]
  by_cases h2 : wgt c = false
  · simp only [if_pos h2]; exact rwith_range I O u x y c w h0 h1 c0 c1 h2
  simp only [if_neg h2]
  exact rwith_ok I O u l x y c w hs hn hu (by omega) c0 c1 (by simpa using h2)

end Go.Proofs.YtboimdgldjimpaaDoor
