/-
  A set of marks of one's own that is written; what is put into it makes it a cut.
-/
import Derived.Test.YthfljimgpcignaaGreatDoorG16
import Derived.Test.YthfljimgpcignaaGreatDoorG22
namespace Go.Proofs.YthfljimgpcignaaGreatDoor
open Go.RowKit

/-- Marks that begin a block. -/
def InC (w : World) (g : Nat) (M : List Bool) : Prop := ∃ cs, Blk w g cs 4 ∧ ∀ i (h : i < M.length), cs[i]? = some (.bool M[i])
section
variable {w w' : World} {g : Nat} {M : List Bool}
theorem InC.cell (h : InC w g M) {i : Nat} (hi : i < M.length) : w.cell? ⟨g, i, none⟩ = some (.bool (setB M i)) := by
  obtain ⟨cs, hk, hc⟩ := h
  rw [setB_at hi]
  exact hk.cell i (hc i hi)
theorem InC.free (h : InC w g M) (i : Nat) : w.frozen? ⟨g, i, none⟩ = false := by
  obtain ⟨cs, hk, -⟩ := h
  exact hk.free i
theorem InC.lt (h : InC w g M) : g < w.heap.size := by
  obtain ⟨cs, hk, -⟩ := h
  exact hk.lt
theorem InC.keep (h : InC w g M) (hb : Below w.heap.size w w') : InC w' g M := by
  obtain ⟨cs, hk, hc⟩ := h
  exact ⟨cs, hk.keep hb, hc⟩
theorem InC.set (h : InC w g M) (x : Nat) (b : Bool) : InC (w.setCell ⟨g, x, none⟩ (.bool b)) g (M.set x b) := by
  obtain ⟨cs, hk, hc⟩ := h
  refine ⟨_, hk.set x (.bool b), fun i hi => ?_⟩
  rw [List.length_set] at hi
  have h1 := hc i hi
  obtain ⟨hl, -⟩ := Array.getElem?_eq_some_iff.1 h1
  rw [List.getElem_set]
  by_cases e : x = i
  · subst e
    rw [if_pos rfl, Array.getElem?_setIfInBounds_self_of_lt hl]
  · rw [if_neg e, Array.getElem?_setIfInBounds_ne e]
    exact h1
theorem InC.bools (h : InC w g M) {c : Nat} (hl : M.length ≤ c) (hc : c ≤ 9223372036854775807) : Bools w (.slice (some ⟨g, 0, none⟩) M.length c) M := by
  refine Or.inr ⟨by omega, g, 0, c, hl, hc, rfl, fun i hi => ?_⟩
  rw [Nat.zero_add, h.cell hi, setB_at hi]
end
/-- A copy of one's own. -/
theorem copyBO (W : World) (v : Value) (l : List Bool) (hv : Bools W v l) (hs : l.length ≤ 100000) (g base : Nat) (hg : Blk W g #[] 4) (hb : base ≤ g) :
    ∃ g' c w', (Builtin.append_ #[23, 23] 23 #[.slice (some ⟨g, 0, none⟩) 0 0, v]).run Tryz.prog W = .ok (.slice (some ⟨g', 0, none⟩) l.length c) w' ∧ InC w' g' l ∧ l.length ≤ c ∧ c ≤ 9223372036854775807 ∧ base ≤ g' ∧ Below W.heap.size W w' := by
  obtain ⟨i0, hi, hz0, hz1, hz2⟩ := info_parts infoBool
  have ht : Tryz.prog.underlying 23 = some (.slice 4) := Tryz.underlying23
  have hgl := hg.lt
  have nil : InC W g [] := ⟨#[], hg, fun i h => by simp at h⟩
  rcases hv with ⟨rfl, p, c, rfl, hpc⟩ | ⟨hl, b, o, c, -, -, rfl, hc⟩
  · refine ⟨g, 0, W, ?_, nil, Nat.le_refl _, by decide, hb, Below.refl _ _⟩
    cases p with
    | none =>
      simp [Builtin.append_, run_underlying ht, sizeOf, typeInfo, hi, Builtin.lenOf, Builtin.firstCells, storeCells]
    | some ad =>
      have := run_append_room_cells (P := Tryz.prog) (w := W) 23 23 4 i0 ht hi g 0 0 0 ad 0 c [] (by simp) (by intro j u h; simp at h) (by intro u h; cases h) (by omega) (by intro j h; simp at h) (by intro j h; simp at h)
      simpa [World.setCells] using this
  · by_cases h0 : l.length = 0
    · obtain rfl : l = [] := List.length_eq_zero_iff.1 h0
      refine ⟨g, 0, W, ?_, nil, Nat.le_refl _, by decide, hb, Below.refl _ _⟩
      have := run_append_room_cells (P := Tryz.prog) (w := W) 23 23 4 i0 ht hi g 0 0 0 ⟨b, o, none⟩ 0 c [] (by simp) (by intro j u h; simp at h) (by intro u h; cases h) (by omega) (by intro j h; simp at h) (by intro j h; simp at h)
      simpa [World.setCells] using this
    · obtain ⟨v', w', hr, h1, h2⟩ := run_append_arg_grows (P := Tryz.prog) (w := W) 23 23 4 i0 (.bool false) 1 1 ht hi hz0 hz1 hz2 rfl (by decide) ⟨g, 0, none⟩ 0 0 [] (by simp) (by intro j u h; simp at h) ⟨b, o, none⟩ l.length c (l.map Value.bool) (by simp)
        (fun j u hu => by
          have e : (⟨b, o, none⟩ : Addr).add j = ⟨b, o + j, none⟩ := by unfold Addr.add; split <;> simp_all
          rw [e]
          obtain ⟨hj, hu⟩ := List.getElem?_eq_some_iff.1 hu
          have hj' : j < l.length := by simpa using hj
          rw [hc j hj', ← hu, List.getElem_map]) (by omega) (by simp [maxLen]; omega) (by omega)
      rw [List.nil_append, Nat.zero_add] at h1
      rcases h1.2 with ⟨-, e⟩ | ⟨g', cap, cur, rfl, hge, hk, hnc, hcm, hcz, htk⟩
      · exact absurd e h0
      · refine ⟨g', cap, w', hr, ⟨cur, hk, fun i hi => ?_⟩, hnc, by unfold maxLen at hcm; omega, by omega, (Below.refl _ _).grown h2 (Nat.le_refl _) (by intro k hk; cases hk)⟩
        have := congrArg (fun L => L[i]?) htk
        simp only [List.getElem?_take, List.getElem?_map] at this
        rw [if_pos (by omega), List.getElem?_eq_getElem hi] at this
        simpa using this
/-- What is put into a set, what is taken out of it. -/
def putL (B : List Bool) (S : List Nat) (b : Bool) : List Bool := S.foldl (fun M x => M.set x b) B
theorem putL_len (b : Bool) : ∀ (S : List Nat) (B : List Bool), (putL B S b).length = B.length
  | [], _ => rfl
  | x :: S, B => by
    show (putL (B.set x b) S b).length = _
    rw [putL_len b S, List.length_set]
theorem putL_snoc (B : List Bool) (S : List Nat) (x : Nat) (b : Bool) : putL B (S ++ [x]) b = (putL B S b).set x b := by simp [putL]
theorem setB_set {B : List Bool} {x v : Nat} (b : Bool) (h : v < B.length) : setB (B.set x b) v = if x = v then b else setB B v := by
  rw [setB_at (by simpa using h), setB_at h, List.getElem_set]
theorem setB_putL (b : Bool) {v : Nat} : ∀ (S : List Nat) (B : List Bool), v < B.length → setB (putL B S b) v = if v ∈ S then b else setB B v
  | [], B, h => by simp [putL]
  | x :: S, B, h => by
    show setB (putL (B.set x b) S b) v = _
    rw [setB_putL b S _ (by simpa using h), setB_set b h]
    by_cases e : x = v
    · subst e
      simp
    · have : ¬ v = x := fun k => e k.symm
      simp [e, this]
theorem cut_of {N : Nat} {B : List Bool} {S D : List Nat} (hB : B.length = N) (ht : ¬ Twice (zN S) (zN D)) : IsCut N (setB (markL N S)) (setB (markL N D)) (setB (putL (putL B S true) D false)) := by
  have h1 : ∀ {v}, v < N → v < (putL B S true).length := fun h => by rw [putL_len, hB]; exact h
  refine ⟨fun v hv ha => ?_, fun v hv hb => ?_⟩
  · rw [markL_in hv] at ha
    have hS : v ∈ S := by simpa using ha
    have hD : ¬ v ∈ D := fun k => ht ⟨(v : Int), zN_mem.2 ⟨v, hS, rfl⟩, zN_mem.2 ⟨v, k, rfl⟩⟩
    rw [setB_putL false D _ (h1 hv), if_neg hD, setB_putL true S _ (by rw [hB]; exact hv), if_pos hS]
  · rw [markL_in hv] at hb
    have hD : v ∈ D := by simpa using hb
    rw [setB_putL false D _ (h1 hv), if_pos hD]
/-- A loop's head: some of a row are put in. -/
def PutRel (W : World) (g : Nat) (B : List Bool) (S : List Nat) (b : Bool) (iv : Value) (wr : World) : Prop := ∃ k : Nat, k ≤ S.length ∧ iv = .int .i64 k ∧ InC wr g (putL B (S.take k) b) ∧ Below W.heap.size W wr
end Go.Proofs.YthfljimgpcignaaGreatDoor
