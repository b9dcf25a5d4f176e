/-
  The program's own tables of turns: With.
-/
import Derived.Test.YtboimdgldjimpaaDoorTurnB
import Derived.Deep.RegionHeld3
namespace Go.Proofs.YtboimdgldjimpaaDoor
open Go.RowKit

/-- What a call answers that tells a row of its own. -/
def RowPost (l : List Int) (w : World) (ev : Ending) (w' : World) : Prop := ∃ v, ev = .returned v ∧ w'.ownsRow w.heap.size 2 1 v l.length (l.map (Value.int .i64)) ∧ Below w.heap.size w w'

set_option maxHeartbeats 1000000 in
set_option maxRecDepth 100000 in
theorem clone_any (v : Value) (l : List Int) (w : World) (hs : l.length ≤ 600) (hv : I64s w v l) :
    Calls Tryd.prog 36 #[v] w (RowPost l w) := by
  by_cases hn : ∃ c, v = .slice none 0 c
  · obtain ⟨c, rfl⟩ := hn
    have hl : l = [] := by
      rcases hv with ⟨rfl, _⟩ | ⟨_, b, o, c', _, _, e, _⟩
      · rfl
      · injection e with e1; cases e1
    have hc : c = 0 := by
      rcases hv with ⟨_, p, c', e, hp⟩ | ⟨_, b, o, c', _, _, e, _⟩
      · injection e with e1 e2 e3; subst e1; rw [e3]; exact hp rfl
      · injection e with e1; cases e1
    subst hl
    subst hc
    clear hv
    have HS := Lib.hid hs
    clear hs
    have hq := Lib.run_eql_slice_nil (P := Tryd.prog) w 22 2 none 0 0 0 0 Tryd.underlying22
    go_enter Tryd.func36, Tryd.ntmps36
    go_wp2
    go_ret
    exact ⟨_, rfl, ⟨by simp, Or.inl ⟨rfl, rfl⟩⟩, Below.refl _ _⟩
  · obtain ⟨v', w', hr, hown, hb⟩ := copy_own w v l hv (by omega) w.heap.size rfl
    obtain ⟨q, c, rfl⟩ := hv.shape
    cases q with
    | none =>
      exfalso
      have h0 : l.length = 0 := by
        rcases hv with ⟨rfl, _⟩ | ⟨_, b, o, c', _, _, e, _⟩
        · rfl
        · injection e with e1; cases e1
      exact hn ⟨c, by rw [h0]⟩
    | some ad =>
      have HR := Lib.hid hr
      have HO := Lib.hid hown
      have HB := Lib.hid hb
      clear hr hown hb hn hv hs
      have hq := Lib.run_eql_slice_nil (P := Tryd.prog) w 22 2 (some ad) l.length c 0 0 Tryd.underlying22
      go_enter Tryd.func36, Tryd.ntmps36
      go_wp2_with (at_builtin; refine wpList_append_run (by rfl) _ _ 22 rfl _ _ _ rfl rfl HR.out ?_)
      go_ret
      exact ⟨_, rfl, HO.out, HB.out⟩

theorem owns_base {w : World} {base base' : Nat} {e : TypeId} {size : Nat} {v : Value} {n : Nat} {xs : List Value} (h : w.ownsRow base e size v n xs) (hb : base' ≤ base) : w.ownsRow base' e size v n xs := by
  refine ⟨h.1, ?_⟩
  rcases h.2 with h | ⟨g, cap, cur, h1, h2, h3⟩
  · exact Or.inl h
  · exact Or.inr ⟨g, cap, cur, h1, Nat.le_trans hb h2, h3⟩
theorem FaultV.none {w : World} {v : Value} {e : Int} (h : FaultV w v [] e) : v = .nilIface := by
  rcases h with ⟨_, h⟩ | ⟨h, _⟩
  · exact h
  · exact absurd rfl h

set_option maxHeartbeats 4000000 in
set_option maxRecDepth 100000 in
theorem twith_ok (I O : Int) (u : Value) (l : List Int) (x y c : Int) (w : World) (hck : chkT I O l = (0, 0)) (hu : I64s w u l) (hin : In64 l) (h : 0 ≤ x ∧ x < I ∧ 0 ≤ y ∧ y < O) (c0 : -9223372036854775808 ≤ c) (c1 : c ≤ 9223372036854775807) (hc : wgt c = true) :
    Calls Tryd.prog 15 #[.agg #[.int .i64 I, .int .i64 O, u], .int .i64 x, .int .i64 y, .int .i64 c] w (FreePost I O (l.set (x * O + y).toNat c) w) := by
  obtain ⟨q0, q1, q2, q3, hn, hall⟩ := chkT_ok (I := I) (O := O) (l := l) (by rw [hck])
  obtain ⟨p0, p1⟩ := place_lt hn h
  obtain ⟨s0, s1⟩ := size_le (I := I) (O := O) ⟨q0, q1, q2, q3⟩
  have hlen : l.length ≤ 256 := by omega
  obtain ⟨x0, x1, y0, y1⟩ := h
  have d1 : decide (0 ≤ x ∧ x < I) = true := by simp; omega
  have d2 : decide (0 ≤ y ∧ y < O) = true := by simp; omega
  have D1 := Lib.hid d1
  have D2 := Lib.hid d2
  have HCK := Lib.hid hck
  have p2 : x * O + y ≤ 1000000 := by omega
  have p3 : 0 ≤ x * O + y := by omega
  obtain ⟨q, cu, rfl⟩ := hu.shape
  have HU := Lib.hid hu
  have HN := Lib.hid hn
  clear d1 d2 hck hn hu hall
  go_enter Tryd.func15, Tryd.ntmps15
  go_wp2_with fail
  refine (tcheck_any I O _ l _ (HU.out.below (below_alloc2 _ _)) hin).mono ?_
  rw [HCK.out]
  rintro e w1 ⟨v, rfl, hF, hb⟩
  obtain rfl := FaultV.none hF
  have hz : w.heap.size + 1 + 1 ≤ w1.heap.size := by have := hb.size; simpa using this
  have a0 : w1.cell? ⟨w.heap.size, 0, none⟩ = some (.int .i64 I) := (hb.cell (by simp; omega)).trans (by go_simp)
  have a1 : w1.cell? ⟨w.heap.size, 1, none⟩ = some (.int .i64 O) := (hb.cell (by simp; omega)).trans (by go_simp)
  have a2 : w1.cell? ⟨w.heap.size, 2, none⟩ = some (.slice q l.length cu) := (hb.cell (by simp; omega)).trans (by go_simp)
  have fa2 : w1.frozen? ⟨w.heap.size, 2, none⟩ = false := (hb.frozen (by simp; omega)).trans (by go_simp)
  have r0 : w1.cell? ⟨w.heap.size + 1, 0, none⟩ = some (.int .i64 0) := (hb.cell (by simp)).trans (by go_simp)
  have r1 : w1.cell? ⟨w.heap.size + 1, 1, none⟩ = some (.int .i64 0) := (hb.cell (by simp)).trans (by go_simp)
  have r2 : w1.cell? ⟨w.heap.size + 1, 2, none⟩ = some (.slice none 0 0) := (hb.cell (by simp)).trans (by go_simp)
  have f0 : w1.frozen? ⟨w.heap.size + 1, 0, none⟩ = false := (hb.frozen (by simp)).trans (by go_simp)
  have f1 : w1.frozen? ⟨w.heap.size + 1, 1, none⟩ = false := (hb.frozen (by simp)).trans (by go_simp)
  have f2 : w1.frozen? ⟨w.heap.size + 1, 2, none⟩ = false := (hb.frozen (by simp)).trans (by go_simp)
  have HB1 : Hid (Below w.heap.size w w1) := Lib.hid ((below_alloc2 _ _).trans (hb.mono (by simp; omega)))
  clear hF hb
  go_wp2_with fail
  refine (among_any x I _).mono ?_
  rw [D1.out]
  rintro e w' ⟨rfl, rfl⟩
  go_wp2_with fail
  refine (among_any y O _).mono ?_
  rw [D2.out]
  rintro e w' ⟨rfl, rfl⟩
  go_wp2_with fail
  refine (weight_any _ _ c0 c1).mono ?_
  rw [hc]
  rintro e w' ⟨rfl, rfl⟩
  go_wp2_with fail
  refine (clone_any _ l _ (by omega) (HU.out.below HB1.out)).mono ?_
  rintro e w2 ⟨v, rfl, hown, hb⟩
  obtain ⟨g, cap, cur, rfl, hg0, hg1, hg2, hg3⟩ : ∃ g cap cur, v = .slice (some ⟨g, 0, none⟩) l.length cap ∧ w1.heap.size ≤ g ∧ w2.heap[g]? = some (.cells cur 2 (0, 0)) ∧ l.length ≤ cap ∧ cap ≤ maxLen := by
    rcases hown.2 with ⟨_, hz⟩ | ⟨g, cap, cur, e, h1, h2, h3, h4, _, _⟩
    · omega
    · exact ⟨g, cap, cur, e, h1, h2, h3, h4⟩
  have hj : (x * O + y).toNat < l.length := by omega
  have hcA : w2.cell? ⟨g, (x * O + y).toNat, none⟩ = some (.int .i64 l[(x * O + y).toNat]) := by
    rw [hown.cellAt _ (by omega)]; simp [hj]
  have hfA := hown.frozenAt (x * O + y).toNat
  have hgl : g < w2.heap.size := (Array.getElem?_eq_some_iff.1 hg1).1
  have hne : ¬ g = w.heap.size := by omega
  have hne' : ¬ w.heap.size = g := by omega
  have hne2 : ¬ g = w.heap.size + 1 := by omega
  have hne3 : ¬ w.heap.size + 1 = g := by omega
  have t0 := (hb.cell (p := ⟨w.heap.size, 0, none⟩) (by simp only []; omega)).trans a0
  have t1 := (hb.cell (p := ⟨w.heap.size, 1, none⟩) (by simp only []; omega)).trans a1
  have t2 := (hb.cell (p := ⟨w.heap.size, 2, none⟩) (by simp only []; omega)).trans a2
  have ft2 := (hb.frozen (p := ⟨w.heap.size, 2, none⟩) (by simp only []; omega)).trans fa2
  have u0 := (hb.cell (p := ⟨w.heap.size + 1, 0, none⟩) (by simp only []; omega)).trans r0
  have u1 := (hb.cell (p := ⟨w.heap.size + 1, 1, none⟩) (by simp only []; omega)).trans r1
  have u2 := (hb.cell (p := ⟨w.heap.size + 1, 2, none⟩) (by simp only []; omega)).trans r2
  have fu0 := (hb.frozen (p := ⟨w.heap.size + 1, 0, none⟩) (by simp only []; omega)).trans f0
  have fu1 := (hb.frozen (p := ⟨w.heap.size + 1, 1, none⟩) (by simp only []; omega)).trans f1
  have fu2 := (hb.frozen (p := ⟨w.heap.size + 1, 2, none⟩) (by simp only []; omega)).trans f2
  have hz2 : w.heap.size + 1 + 1 ≤ w2.heap.size := by have := hb.size; omega
  have i0 : (0 : Int) ≤ x * O + y := p3
  have HB2 : Hid (Below w.heap.size w w2) := Lib.hid (HB1.out.trans (hb.mono (by omega)))
  have HO := Lib.hid hown
  clear a0 a1 a2 fa2 r0 r1 r2 f0 f1 f2 hb hown hg1 HB1
  go_wp2_with fail
  obtain ⟨w3, hw3⟩ : ∃ w3, w3 = w2.setCell ⟨w.heap.size, 2, none⟩ (.slice (some ⟨g, 0, none⟩) l.length cap) := ⟨_, rfl⟩
  rw [← hw3]
  have s0' : w3.cell? ⟨w.heap.size, 0, none⟩ = some (.int .i64 I) := by rw [hw3]; go_simp
  have s1' : w3.cell? ⟨w.heap.size, 1, none⟩ = some (.int .i64 O) := by rw [hw3]; go_simp
  have s2' : w3.cell? ⟨w.heap.size, 2, none⟩ = some (.slice (some ⟨g, 0, none⟩) l.length cap) := by rw [hw3]; go_simp
  have v0 : w3.cell? ⟨w.heap.size + 1, 0, none⟩ = some (.int .i64 0) := by rw [hw3]; go_simp
  have v1 : w3.cell? ⟨w.heap.size + 1, 1, none⟩ = some (.int .i64 0) := by rw [hw3]; go_simp
  have v2 : w3.cell? ⟨w.heap.size + 1, 2, none⟩ = some (.slice none 0 0) := by rw [hw3]; go_simp
  have g0 : w3.frozen? ⟨w.heap.size + 1, 0, none⟩ = false := by rw [hw3]; go_simp
  have g1 : w3.frozen? ⟨w.heap.size + 1, 1, none⟩ = false := by rw [hw3]; go_simp
  have g2 : w3.frozen? ⟨w.heap.size + 1, 2, none⟩ = false := by rw [hw3]; go_simp
  have k0 : w3.cell? ⟨g, (x * O + y).toNat, none⟩ = some (.int .i64 l[(x * O + y).toNat]) := by rw [hw3]; go_simp
  have k1 : w3.frozen? ⟨g, (x * O + y).toNat, none⟩ = false := by rw [hw3]; go_simp
  have z3 : w3.heap.size = w2.heap.size := by rw [hw3]; simp
  have HW := Lib.hid hw3
  have HZ := Lib.hid z3
  have gl3 : g < w3.heap.size := by omega
  have zl3 : w.heap.size + 1 + 1 ≤ w3.heap.size := by omega
  clear hw3 z3 t0 t1 t2 ft2 u0 u1 u2 fu0 fu1 fu2 hcA hfA
  have n0 := World.new_ne w3 _ s0'
  have n1 := World.new_ne w3 _ s1'
  have n2 := World.new_ne w3 _ s2'
  have n3 := World.new_ne w3 _ v0
  have n4 := World.new_ne w3 _ v1
  have n5 := World.new_ne w3 _ v2
  go_region_held3 (fun w' => w'.cell? ⟨w.heap.size, 0, none⟩ = some (.int .i64 I) ∧ w'.cell? ⟨w.heap.size, 1, none⟩ = some (.int .i64 O) ∧ w'.cell? ⟨w.heap.size, 2, none⟩ = some (.slice (some ⟨g, 0, none⟩) l.length cap)) (go_keep)
    (first | (go_at_call 37; refine (place_any _ _ _ _ _ _ p0 y0 p2).mono ?_; rintro e w' ⟨rfl, rfl⟩))
  have HO3 : Hid ((w3.setCell ⟨g, (x * O + y).toNat, none⟩ (.int .i64 c)).ownsRow w1.heap.size 2 1 (.slice (some ⟨g, 0, none⟩) l.length cap) l.length ((l.set (x * O + y).toNat c).map (Value.int .i64))) := by
    have h1 := ownsRow_setCell_below HO.out (a := ⟨w.heap.size, 2, none⟩) (by show w.heap.size < w1.heap.size; omega) (.slice (some ⟨g, 0, none⟩) l.length cap)
    rw [← HW.out] at h1
    have h2 := (h1.stored (x * O + y).toNat (.int .i64 c)).1
    rw [← List.map_set] at h2
    exact Lib.hid h2
  have HB3 : Hid (Below w.heap.size w (w3.setCell ⟨g, (x * O + y).toNat, none⟩ (.int .i64 c))) := by
    rw [HW.out]
    exact Lib.hid ((HB2.out.setCell (Nat.le_refl _) _).setCell (by simp only []; omega) _)
  obtain ⟨w4, hw4⟩ : ∃ w4, w4 = ((w3.setCell ⟨g, (x * O + y).toNat, none⟩ (.int .i64 c)).alloc (.cells #[.int .i64 I, .int .i64 O, .slice (some ⟨g, 0, none⟩) l.length cap] 34)).drew := ⟨_, rfl⟩
  rw [← hw4]
  have hb4 : Below (w.heap.size + 2) w3 w4 := by
    rw [hw4]
    exact (((Below.refl _ _).setCell (by simp only []; omega) _).alloc (by simp; omega) _).drew
  have b0 := (hb4.cell (p := ⟨w.heap.size, 0, none⟩) (by simp only []; omega)).trans s0'
  have b1 := (hb4.cell (p := ⟨w.heap.size, 1, none⟩) (by simp only []; omega)).trans s1'
  have b2 := (hb4.cell (p := ⟨w.heap.size, 2, none⟩) (by simp only []; omega)).trans s2'
  have y0' := (hb4.cell (p := ⟨w.heap.size + 1, 0, none⟩) (by simp only []; omega)).trans v0
  have y1' := (hb4.cell (p := ⟨w.heap.size + 1, 1, none⟩) (by simp only []; omega)).trans v1
  have y2' := (hb4.cell (p := ⟨w.heap.size + 1, 2, none⟩) (by simp only []; omega)).trans v2
  have e0 := (hb4.frozen (p := ⟨w.heap.size + 1, 0, none⟩) (by simp only []; omega)).trans g0
  have e1 := (hb4.frozen (p := ⟨w.heap.size + 1, 1, none⟩) (by simp only []; omega)).trans g1
  have e2 := (hb4.frozen (p := ⟨w.heap.size + 1, 2, none⟩) (by simp only []; omega)).trans g2
  clear hb4
  have HW4 := Lib.hid hw4
  clear hw4 s0' s1' s2' v0 v1 v2 g0 g1 g2 k0 k1 n0 n1 n2 n3 n4 n5
  go_wp2_with fail
  have hq : w1.heap.size ≤ w3.heap.size := by omega
  have HQ := Lib.hid hq
  refine bodyPost_ret (v := .tuple #[.agg #[.int .i64 I, .int .i64 O, .slice (some ⟨g, 0, none⟩) l.length cap], .nilIface]) (by simp [results, Tryd.results15, go_sem]; go_simp) rfl ⟨_, rfl, ⟨_, rfl, ?_⟩, ?_⟩
  · rw [HW4.out, List.length_set]
    have h1 := (HO3.out.alloc (.cells #[.int .i64 I, .int .i64 O, .slice (some ⟨g, 0, none⟩) l.length cap] 34)).drew
    have h2 : ∀ {W : World} (o : Nat) (v : Value), W.ownsRow w1.heap.size 2 1 (.slice (some ⟨g, 0, none⟩) l.length cap) l.length ((l.set (x * O + y).toNat c).map (Value.int .i64)) → (W.setCell ⟨w.heap.size + 1, o, none⟩ v).ownsRow w1.heap.size 2 1 (.slice (some ⟨g, 0, none⟩) l.length cap) l.length ((l.set (x * O + y).toNat c).map (Value.int .i64)) := fun o v h => ownsRow_setCell_below h (by show w.heap.size + 1 < w1.heap.size; omega) v
    exact owns_base (h2 2 _ (h2 1 _ (h2 0 _ h1))) (by omega)
  · rw [HW4.out]
    exact ((((HB3.out.alloc (by simp; omega) _).drew.setCell (by simp only []; omega) _).setCell (by simp only []; omega) _).setCell (by simp only []; omega) _)

end Go.Proofs.YtboimdgldjimpaaDoor
