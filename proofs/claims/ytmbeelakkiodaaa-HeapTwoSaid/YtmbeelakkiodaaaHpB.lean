/-
  The program's heap: which of the two below goes ahead; up and down.
-/
import Derived.Test.YtmbeelakkiodaaaHpA
import Derived.WalkSmall
namespace Go.Proofs.Ytmbeelakkiodaaa
open Go.RowKit

section
variable {S : Nat → Prop} {w : World} {p : Nat} {R : List It} {P : List Int} {rv pv : Value}

set_option maxHeartbeats 2000000 in
set_option maxRecDepth 100000 in
theorem hbelow_none (h : HpS S w p R P rv pv) (a : Nat) (h1 : R.length ≤ 2 * a + 1) (ha : a ≤ 16384) : Calls Try.prog 30 #[hp p, .int .i64 a] w fun e w' => e = .returned (.int .i64 (-1)) ∧ w = w' := by
  obtain ⟨⟨q, c, rfl, -⟩, q', c', rfl⟩ := h.shape
  obtain ⟨c0, c1, -, -⟩ := h.k.o2
  have hi : (R.length : Int) ≤ 2 * (a : Int) + 1 := by omega
  clear h
  go_enter Try.func30, Try.ntmps30
  go_wp2
  go_ret
  exact ⟨rfl, rfl⟩

set_option maxHeartbeats 2000000 in
set_option maxRecDepth 100000 in
theorem hbelow_only (h : HpS S w p R P rv pv) (a : Nat) (hR : R.length ≤ 16384) (h1 : R.length = 2 * a + 2) : Calls Try.prog 30 #[hp p, .int .i64 a] w fun e w' => e = .returned (.int .i64 (2 * a + 1)) ∧ ∃ n, w' = w.drewN n := by
  obtain ⟨⟨q, c, rfl, -⟩, q', c', rfl⟩ := h.shape
  obtain ⟨c0, c1, -, -⟩ := h.k.o2
  have hi : 2 * (a : Int) + 1 < (R.length : Int) := by omega
  have hj : decide (2 * (a : Int) + 2 < (R.length : Int)) = false := by simp; omega
  have ha : (a : Int) ≤ 16384 := by omega
  clear h
  go_enter Try.func30, Try.ntmps30
  go_wp2
  go_quiet (fail)
  go_wp2
  go_ret
  exact ⟨rfl, _, rfl⟩

set_option maxHeartbeats 2000000 in
set_option maxRecDepth 100000 in
theorem hbelow_two (h : HpS S w p R P rv pv) (a : Nat) (hR : R.length ≤ 16384) {x y : It} (hx : R[2 * a + 2]? = some x) (hy : R[2 * a + 1]? = some y) (hB : ahdB x y = true) : Calls Try.prog 30 #[hp p, .int .i64 a] w fun e w' => e = .returned (.int .i64 (2 * a + 2)) ∧ Below w.heap.size w w' := by
  obtain ⟨⟨q, c, rfl, -⟩, q', c', rfl⟩ := h.shape
  obtain ⟨c0, c1, -, -⟩ := h.k.o2
  have hlt := lt_of_get hx
  have hi : 2 * (a : Int) + 1 < (R.length : Int) := by omega
  have hi2 : 2 * (a : Int) + 2 < (R.length : Int) := by omega
  have hj : decide (2 * (a : Int) + 2 < (R.length : Int)) = true := by simp; omega
  have ha : (a : Int) ≤ 16384 := by omega
  obtain ⟨g, rfl, x0, x1, hg⟩ := h.at hx
  obtain ⟨g', e, y0, y1, -⟩ := h.at hy
  cases e
  have C0 := Lib.hid c0
  have X0 := Lib.hid x0
  have X1 := Lib.hid x1
  have Y0 := Lib.hid y0
  have Y1 := Lib.hid y1
  have HB := Lib.hid hB
  clear h x0 x1 y0 y1 hx hy hB hlt
  go_enter Try.func30, Try.ntmps30
  go_wp2_with fail
  clear c0 c1
  have n2 : (2 * (a : Int) + 2).toNat = 2 * a + 2 := by omega
  have n1 : (2 * (a : Int) + 1).toNat = 2 * a + 1 := by omega
  have hGS : Grows (fun w' => Below w.heap.size w w') := Grows.below w
  refine' wp_growL _ (fun w' => Below w.heap.size w w') [[], [], [1], [2], [3], [4], [0, 5], [6], [7], [7, 8], [7, 9], [7, 10], [7], [7, 11, 12], [7, 13], [7], [7, 15], [7, 16], [7, 17], [7], [7, 18, 19], [7, 20], [7, 14, 21], [7, 22]] (Fact.lit _ :: Fact.lit _ :: Fact.lit _ :: Fact.lit _ :: Fact.lit _ :: Fact.lit _ :: Fact.lit _ :: Fact.lit _ :: Fact.lit _ :: Fact.lit _ :: Fact.lit _ :: Fact.lit _ :: Fact.lit _ :: Fact.lit _ :: Fact.lit _ :: Fact.lit _ :: Fact.lit _ :: Fact.lit _ :: Fact.lit _ :: Fact.lit _ :: Fact.lit _ :: Fact.lit _ :: Fact.lit _ :: Fact.lit _ :: []) (by kernel_rfl) rfl (by kernel_rfl) (Below.refl _ _).drew ?seqb4
  case' seqb4 => skip
  iterate 22 ((first | (apply grow_skip; (case hf => rfl); (case hw => rfl)) | (apply grow_lit; (case hf => rfl); (case hw => rfl); (case hrun => (intro w' hS H; clear H; (have y0 := keep hS C0.out); (have y1 := keep hS X0.out); (have y2 := keep hS X1.out); (have y3 := keep hS Y0.out); (have y4 := keep hS Y1.out); clear hS; go_simp; first | done | exact rfl)))); (case hc => (simp only [Act.put, List.setIfInBounds_toArray, List.set_cons_zero, List.set_cons_succ]; first | done | exact rfl)); (try (case hj => rfl)))
  (refine' grow_call (u := .bool true) rfl Try.func28 (by kernel_rfl) rfl hGS rfl ?wt1 ?run1 ?put1 ?next1; (case wt1 => rfl); (case run1 => (intro w' hS H; exact (ahead_any x y w').mono (fun e w2 h => ⟨h.1.trans (by rw [HB.out]), h.2⟩))); (case put1 => (simp only [Act.put, List.setIfInBounds_toArray, List.set_cons_zero, List.set_cons_succ]; first | done | exact rfl)); (case' next1 => skip))
  iterate 1 ((first | (apply grow_skip; (case hf => rfl); (case hw => rfl)) | (apply grow_lit; (case hf => rfl); (case hw => rfl); (case hrun => (intro w' hS H; clear H; (have y0 := keep hS C0.out); (have y1 := keep hS X0.out); (have y2 := keep hS X1.out); (have y3 := keep hS Y0.out); (have y4 := keep hS Y1.out); clear hS; go_simp; first | done | exact rfl)))); (case hc => (simp only [Act.put, List.setIfInBounds_toArray, List.set_cons_zero, List.set_cons_succ]; first | done | exact rfl)); (try (case hj => rfl)))
  intro w1 hb _
  go_wp2_with fail
  go_ret
  exact ⟨rfl, hb⟩

set_option maxHeartbeats 2000000 in
set_option maxRecDepth 100000 in
theorem hbelow_one (h : HpS S w p R P rv pv) (a : Nat) (hR : R.length ≤ 16384) {x y : It} (hx : R[2 * a + 2]? = some x) (hy : R[2 * a + 1]? = some y) (hB : ahdB x y = false) : Calls Try.prog 30 #[hp p, .int .i64 a] w fun e w' => e = .returned (.int .i64 (2 * a + 1)) ∧ Below w.heap.size w w' := by
  obtain ⟨⟨q, c, rfl, -⟩, q', c', rfl⟩ := h.shape
  obtain ⟨c0, c1, -, -⟩ := h.k.o2
  have hlt := lt_of_get hx
  have hi : 2 * (a : Int) + 1 < (R.length : Int) := by omega
  have hi2 : 2 * (a : Int) + 2 < (R.length : Int) := by omega
  have hj : decide (2 * (a : Int) + 2 < (R.length : Int)) = true := by simp; omega
  have ha : (a : Int) ≤ 16384 := by omega
  obtain ⟨g, rfl, x0, x1, hg⟩ := h.at hx
  obtain ⟨g', e, y0, y1, -⟩ := h.at hy
  cases e
  have C0 := Lib.hid c0
  have X0 := Lib.hid x0
  have X1 := Lib.hid x1
  have Y0 := Lib.hid y0
  have Y1 := Lib.hid y1
  have HB := Lib.hid hB
  clear h x0 x1 y0 y1 hx hy hB hlt
  go_enter Try.func30, Try.ntmps30
  go_wp2_with fail
  clear c0 c1
  have n2 : (2 * (a : Int) + 2).toNat = 2 * a + 2 := by omega
  have n1 : (2 * (a : Int) + 1).toNat = 2 * a + 1 := by omega
  have hGS : Grows (fun w' => Below w.heap.size w w') := Grows.below w
  refine' wp_growL _ (fun w' => Below w.heap.size w w') [[], [], [1], [2], [3], [4], [0, 5], [6], [7], [7, 8], [7, 9], [7, 10], [7], [7, 11, 12], [7, 13], [7], [7, 15], [7, 16], [7, 17], [7], [7, 18, 19], [7, 20], [7, 14, 21], [7, 22]] (Fact.lit _ :: Fact.lit _ :: Fact.lit _ :: Fact.lit _ :: Fact.lit _ :: Fact.lit _ :: Fact.lit _ :: Fact.lit _ :: Fact.lit _ :: Fact.lit _ :: Fact.lit _ :: Fact.lit _ :: Fact.lit _ :: Fact.lit _ :: Fact.lit _ :: Fact.lit _ :: Fact.lit _ :: Fact.lit _ :: Fact.lit _ :: Fact.lit _ :: Fact.lit _ :: Fact.lit _ :: Fact.lit _ :: Fact.lit _ :: []) (by kernel_rfl) rfl (by kernel_rfl) (Below.refl _ _).drew ?seqb4
  case' seqb4 => skip
  iterate 22 ((first | (apply grow_skip; (case hf => rfl); (case hw => rfl)) | (apply grow_lit; (case hf => rfl); (case hw => rfl); (case hrun => (intro w' hS H; clear H; (have y0 := keep hS C0.out); (have y1 := keep hS X0.out); (have y2 := keep hS X1.out); (have y3 := keep hS Y0.out); (have y4 := keep hS Y1.out); clear hS; go_simp; first | done | exact rfl)))); (case hc => (simp only [Act.put, List.setIfInBounds_toArray, List.set_cons_zero, List.set_cons_succ]; first | done | exact rfl)); (try (case hj => rfl)))
  (refine' grow_call (u := .bool false) rfl Try.func28 (by kernel_rfl) rfl hGS rfl ?wt2 ?run2 ?put2 ?next2; (case wt2 => rfl); (case run2 => (intro w' hS H; exact (ahead_any x y w').mono (fun e w2 h => ⟨h.1.trans (by rw [HB.out]), h.2⟩))); (case put2 => (simp only [Act.put, List.setIfInBounds_toArray, List.set_cons_zero, List.set_cons_succ]; first | done | exact rfl)); (case' next2 => skip))
  iterate 1 ((first | (apply grow_skip; (case hf => rfl); (case hw => rfl)) | (apply grow_lit; (case hf => rfl); (case hw => rfl); (case hrun => (intro w' hS H; clear H; (have y0 := keep hS C0.out); (have y1 := keep hS X0.out); (have y2 := keep hS X1.out); (have y3 := keep hS Y0.out); (have y4 := keep hS Y1.out); clear hS; go_simp; first | done | exact rfl)))); (case hc => (simp only [Act.put, List.setIfInBounds_toArray, List.set_cons_zero, List.set_cons_succ]; first | done | exact rfl)); (try (case hj => rfl)))
  intro w1 hb _
  go_wp2_with fail
  go_ret
  exact ⟨rfl, hb⟩

theorem hbelow_some (h : HpS S w p R P rv pv) (a : Nat) (hR : R.length ≤ 16384) (h1 : 2 * a + 1 < R.length) : ∃ (d : Nat) (D : It), (d = 2 * a + 1 ∨ d = 2 * a + 2) ∧ R[d]? = some D ∧ (∀ (i : Nat) (x : It), 0 < i → (i - 1) / 2 = a → R[i]? = some x → ¬ ahd x D) ∧
    Calls Try.prog 30 #[hp p, .int .i64 a] w fun e w' => e = .returned (.int .i64 d) ∧ Below w.heap.size w w' := by
  have hy : R[2 * a + 1]? = some R[2 * a + 1] := List.getElem?_eq_getElem h1
  obtain ⟨y, ey⟩ : ∃ y, R[2 * a + 1] = y := ⟨_, rfl⟩
  rw [ey] at hy
  by_cases h2 : 2 * a + 2 < R.length
  · have hx : R[2 * a + 2]? = some R[2 * a + 2] := List.getElem?_eq_getElem h2
    obtain ⟨x, ex⟩ : ∃ x, R[2 * a + 2] = x := ⟨_, rfl⟩
    rw [ex] at hx
    have two : ∀ (i : Nat), 0 < i → (i - 1) / 2 = a → i = 2 * a + 1 ∨ i = 2 * a + 2 := fun i _ _ => by omega
    rcases ahd_or x y with hB | hB
    · refine ⟨2 * a + 2, x, Or.inr rfl, hx, fun i z h0 hi hz => ?_, (hbelow_two h a hR hx hy (ahdB_true hB)).mono fun e w' h => ⟨h.1.trans (ret_int (by omega)), h.2⟩⟩
      rcases two i h0 hi with rfl | rfl
      · rw [hy] at hz; injection hz with hz; subst hz; exact ahd_asymm hB
      · rw [hx] at hz; injection hz with hz; subst hz; exact nahd_refl _
    · refine ⟨2 * a + 1, y, Or.inl rfl, hy, fun i z h0 hi hz => ?_, (hbelow_one h a hR hx hy (ahdB_false hB)).mono fun e w' h => ⟨h.1.trans (ret_int (by omega)), h.2⟩⟩
      rcases two i h0 hi with rfl | rfl
      · rw [hy] at hz; injection hz with hz; subst hz; exact nahd_refl _
      · rw [hx] at hz; injection hz with hz; subst hz; exact hB
  · refine ⟨2 * a + 1, y, Or.inl rfl, hy, fun i z h0 hi hz => ?_, (hbelow_only h a hR (by omega)).mono fun e w' h => ⟨h.1.trans (ret_int (by omega)), ?_⟩⟩
    · have hl := lt_of_get hz
      have : i = 2 * a + 1 := by omega
      subst this
      rw [hy] at hz; injection hz with hz; subst hz; exact nahd_refl _
    · obtain ⟨-, n, rfl⟩ := h
      exact below_drewN (Below.refl _ _) n
end

end Go.Proofs.Ytmbeelakkiodaaa
