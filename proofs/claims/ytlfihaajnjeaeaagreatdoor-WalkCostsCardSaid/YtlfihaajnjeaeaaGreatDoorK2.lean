/-
  The least walks of a net: what may be next, ahead, within; plain mathematics, no program stands here.
-/
import Derived.Test.YtlfihaajnjeaeaaGreatDoorK1
import Derived.Test.YtlfihaajnjeaeaaGreatDoorA1
import Derived.Test.YtlfihaajnjeaeaaGreatDoorE1
namespace Go.Proofs.YtlfihaajnjeaeaaGreatDoor
open HP

/-- What an arc costs. -/
def wN (n : NetD) (a : Nat) : Int := (n.arc a).2.2
/-- What it costs to turn from a into b and go along b. -/
def oN (n : NetD) (a b : Nat) : Int := addC (n.turn a b) (wN n b)
/-- .. where a may be gone along. -/
def hN (n : NetD) (a b : Nat) : Int := if wN n a = 1152921504606846976 then 1152921504606846976 else oN n a b
/-- The arcs that may be next behind a. -/
def onwL (n : NetD) (a : Nat) : List It := (outsL n.a (n.arc a).2.1).map fun b => (b.toNat, oN n a b.toNat)
/-- The arcs that may be right ahead of b. -/
def bckL (n : NetD) (b : Nat) : List It := ((insL n.a (n.arc b).1).filter fun a => decide (¬ wN n a.toNat = 1152921504606846976)).map fun a => (a.toNat, oN n a.toNat b)
/-- .. next, within. -/
def inwL (n : NetD) (I : Nat → Bool) (a : Nat) : List It := (onwL n a).filter fun y => I y.1
section
variable {n : NetD} {a b s t : Nat} {x : Int} {I : Nat → Bool}
theorem outs_mem {v : Int} {y : Int} : y ∈ outsL n.a v ↔ ∃ k : Nat, k < n.a.length ∧ y = k ∧ (n.arc k).1 = v := by
  constructor
  · intro h
    obtain ⟨i, hi, rfl⟩ := List.getElem_of_mem h
    obtain ⟨k, hk, e, e2, -⟩ := outs_at hi
    exact ⟨k, hk, e, by rw [NetGood.arc_at k hk]; exact e2⟩
  · rintro ⟨k, hk, rfl, e⟩
    rw [NetGood.arc_at k hk] at e
    have e' : n.a = n.a.take k ++ n.a[k] :: n.a.drop (k + 1) := by rw [List.getElem_cons_drop, List.take_append_drop]
    have hl : (0 : Int) + ((n.a.take k).length : Int) = k := by rw [List.length_take, Nat.min_eq_left (by omega), Int.zero_add]
    unfold outsL
    rw [e', idxFrom_append, hl]
    refine List.mem_append.2 (Or.inr ?_)
    unfold idxFrom
    rw [if_pos (by simpa using e)]
    simp
theorem ins_mem {v : Int} {y : Int} : y ∈ insL n.a v ↔ ∃ k : Nat, k < n.a.length ∧ y = k ∧ (n.arc k).2.1 = v := by
  constructor
  · intro h
    obtain ⟨i, hi, rfl⟩ := List.getElem_of_mem h
    obtain ⟨k, hk, e, e2, -⟩ := ins_at hi
    exact ⟨k, hk, e, by rw [NetGood.arc_at k hk]; exact e2⟩
  · rintro ⟨k, hk, rfl, e⟩
    rw [NetGood.arc_at k hk] at e
    have e' : n.a = n.a.take k ++ n.a[k] :: n.a.drop (k + 1) := by rw [List.getElem_cons_drop, List.take_append_drop]
    have hl : (0 : Int) + ((n.a.take k).length : Int) = k := by rw [List.length_take, Nat.min_eq_left (by omega), Int.zero_add]
    unfold insL
    rw [e', idxFrom_append, hl]
    refine List.mem_append.2 (Or.inr ?_)
    unfold idxFrom
    rw [if_pos (by simpa using e)]
    simp
theorem oN_bd (n : NetD) (a b : Nat) : 0 ≤ oN n a b ∧ oN n a b ≤ 1152921504606846976 := addC_held _ _
theorem onw_mem {y : It} : y ∈ onwL n a ↔ y.1 < n.a.length ∧ (n.arc y.1).1 = (n.arc a).2.1 ∧ y.2 = oN n a y.1 := by
  unfold onwL
  rw [List.mem_map]
  constructor
  · rintro ⟨b, hb, rfl⟩
    obtain ⟨k, hk, rfl, e⟩ := outs_mem.1 hb
    simp only [Int.toNat_natCast]
    exact ⟨hk, e, trivial⟩
  · rintro ⟨hk, e, e2⟩
    refine ⟨(y.1 : Int), outs_mem.2 ⟨y.1, hk, rfl, e⟩, ?_⟩
    simp only [Int.toNat_natCast]
    rw [← e2]
theorem bck_mem {y : It} : y ∈ bckL n b ↔ y.1 < n.a.length ∧ (n.arc y.1).2.1 = (n.arc b).1 ∧ ¬ wN n y.1 = 1152921504606846976 ∧ y.2 = oN n y.1 b := by
  unfold bckL
  rw [List.mem_map]
  constructor
  · rintro ⟨a, ha, rfl⟩
    obtain ⟨ha, hw⟩ := List.mem_filter.1 ha
    obtain ⟨k, hk, rfl, e⟩ := ins_mem.1 ha
    simp only [Int.toNat_natCast] at hw ⊢
    exact ⟨hk, e, by simpa using hw, trivial⟩
  · rintro ⟨hk, e, hw, e2⟩
    refine ⟨(y.1 : Int), List.mem_filter.2 ⟨ins_mem.2 ⟨y.1, hk, rfl, e⟩, by simpa using hw⟩, ?_⟩
    simp only [Int.toNat_natCast]
    rw [← e2]
theorem inw_mem {y : It} : y ∈ inwL n I a ↔ (y.1 < n.a.length ∧ (n.arc y.1).1 = (n.arc a).2.1 ∧ y.2 = oN n a y.1) ∧ I y.1 = true := by
  unfold inwL
  rw [List.mem_filter, onw_mem]
theorem onw_ok (n : NetD) : StepsOK (onwL n) n.a.length := fun a _ y hy => by
  obtain ⟨h1, -, h2⟩ := onw_mem.1 hy
  rw [h2]
  exact ⟨h1, oN_bd n a y.1⟩
theorem bck_ok (n : NetD) : StepsOK (bckL n) n.a.length := fun b _ y hy => by
  obtain ⟨h1, -, -, h2⟩ := bck_mem.1 hy
  rw [h2]
  exact ⟨h1, oN_bd n y.1 b⟩
theorem inw_ok (n : NetD) (I : Nat → Bool) : StepsOK (inwL n I) n.a.length := fun a _ y hy => by
  obtain ⟨⟨h1, -, h2⟩, -⟩ := inw_mem.1 hy
  rw [h2]
  exact ⟨h1, oN_bd n a y.1⟩
theorem oN_apart (h : ¬ (a < n.a.length ∧ b < n.a.length ∧ (n.arc a).2.1 = (n.arc b).1)) : oN n a b = 1152921504606846976 := by
  unfold oN
  rw [turn_apart (fun ⟨h1, h2, h3⟩ => h ⟨by unfold NetD.there at h1; simp at h1; omega, by unfold NetD.there at h2; simp at h2; omega, h3⟩), addC_infL]
theorem turn_apartN (h : ¬ (a < n.a.length ∧ b < n.a.length ∧ (n.arc a).2.1 = (n.arc b).1)) : n.turn a b = 1152921504606846976 :=
  turn_apart (fun ⟨h1, h2, h3⟩ => h ⟨by unfold NetD.there at h1; simp at h1; omega, by unfold NetD.there at h2; simp at h2; omega, h3⟩)
theorem addC_ltL {u v : Int} (h : addC u v < 1152921504606846976) (hu : u ≤ 1152921504606846976) : u < 1152921504606846976 := by
  by_cases e : u = 1152921504606846976
  · rw [e, addC_infL] at h; omega
  · omega
theorem addC_ltR {u v : Int} (h : addC u v < 1152921504606846976) : v ≠ 1152921504606846976 := by
  rintro rfl
  rw [addC_inf] at h; omega
/-- A row that costs less than Inf is a walk, of arcs that may be gone along. -/
theorem onw_att (hs : wN n s ≠ 1152921504606846976) (h : LAt (onwL n) s b x) : x < 1152921504606846976 → Att (hN n) n.a.length s b x ∧ wN n b ≠ 1152921504606846976 := by
  induction h with
  | start => exact fun _ => ⟨.start, hs⟩
  | @step a y x h hy ih =>
    intro hx
    obtain ⟨h1, h2, h3⟩ := onw_mem.1 hy
    obtain ⟨k1, k2⟩ := ih (addC_ltL hx h.held.2)
    have he : hN n a y.1 = y.2 := by unfold hN; rw [if_neg k2, h3]
    refine ⟨?_, ?_⟩
    · rw [← he]; exact .step k1 h1
    · intro e
      have h4 := addC_ltR hx
      rw [h3] at h4
      unfold oN at h4
      rw [e, addC_inf] at h4
      exact h4 rfl
theorem bck_att (h : LAt (bckL n) t b x) : BAtt (hN n) n.a.length t b x := by
  induction h with
  | start => exact .start
  | @step a y x h hy ih =>
    obtain ⟨h1, h2, h3, h4⟩ := bck_mem.1 hy
    have he : hN n y.1 a = y.2 := by unfold hN; rw [if_neg h3, h4]
    rw [← he]
    exact .step ih h1
theorem inw_att (h : LAt (inwL n I) s b x) : (b = s ∧ x = 0) ∨ IAt (fun a b => n.turn a b) (wN n) I n.a.length s b x := by
  induction h with
  | start => exact Or.inl ⟨rfl, rfl⟩
  | @step a y x h hy ih =>
    obtain ⟨⟨h1, h2, h3⟩, h4⟩ := inw_mem.1 hy
    right
    rw [h3]
    rcases ih with ⟨rfl, rfl⟩ | ih
    · unfold oN
      rw [addC_zeroL]
      exact .start h1 h4
    · unfold oN
      rw [← addC_assoc]
      exact .step ih h1 h4
/-- .. and the other way round. -/
theorem iat_inw (h : IAt (fun a b => n.turn a b) (wN n) I n.a.length s b x) : (x = 1152921504606846976 ∨ LAt (inwL n I) s b x) ∧ b < n.a.length := by
  induction h with
  | @start b hb hI =>
    refine ⟨?_, hb⟩
    by_cases e : s < n.a.length ∧ b < n.a.length ∧ (n.arc s).2.1 = (n.arc b).1
    · right
      have := LAt.step (L := inwL n I) (y := (b, oN n s b)) (.start (s := s)) (inw_mem.2 ⟨⟨hb, e.2.2.symm, rfl⟩, hI⟩)
      unfold oN at this
      rw [addC_zeroL] at this
      exact this
    · left
      have := oN_apart e
      unfold oN at this
      exact this
  | @step a b x h hb hI ih =>
    refine ⟨?_, hb⟩
    rw [addC_assoc]
    rcases ih.1 with rfl | k
    · left; rw [addC_infL]
    · by_cases e : a < n.a.length ∧ b < n.a.length ∧ (n.arc a).2.1 = (n.arc b).1
      · right
        exact LAt.step (L := inwL n I) (y := (b, oN n a b)) k (inw_mem.2 ⟨⟨hb, e.2.2.symm, rfl⟩, hI⟩)
      · left
        have := oN_apart e
        unfold oN at this
        rw [this, addC_inf]
end
/-- What From tells. -/
def FromP (n : NetD) (s : Int) (C : List Int) : Prop :=
  C.length = n.a.length ∧ ((∃ k : Nat, s = k ∧ k < n.a.length ∧ wN n k ≠ 1152921504606846976 ∧ FromD (hN n) n.a.length k (ctL C)) ∨ ((∀ k : Nat, s = k → k < n.a.length → wN n k = 1152921504606846976) ∧ C = List.replicate n.a.length 1152921504606846976))
/-- What To tells. -/
def ToP (n : NetD) (s : Int) (C : List Int) : Prop :=
  C.length = n.a.length ∧ ((∃ k : Nat, s = k ∧ k < n.a.length ∧ wN n k ≠ 1152921504606846976 ∧ ToD (hN n) n.a.length k (ctL C)) ∨ ((∀ k : Nat, s = k → k < n.a.length → wN n k = 1152921504606846976) ∧ C = List.replicate n.a.length 1152921504606846976))
section
variable {n : NetD} {s t : Int} {C D : List Int} {B : List Int} {k j m : Nat}
theorem FromP.uniq (h : FromP n s C) (g : FromP n s D) : C = D := by
  rcases h with ⟨h0, ⟨k, rfl, h1, h2, h3⟩ | ⟨h1, h2⟩⟩
  · rcases g with ⟨g0, ⟨j, e, g1, g2, g3⟩ | ⟨g1, g2⟩⟩
    · obtain rfl : k = j := by omega
      exact from_rows h1 h0 g0 h3 g3
    · exact absurd (g1 k rfl h1) h2
  · rcases g with ⟨g0, ⟨j, e, g1, g2, g3⟩ | ⟨g1, g2⟩⟩
    · exact absurd (h1 j e g1) g2
    · rw [h2, g2]
theorem ToP.uniq (h : ToP n s C) (g : ToP n s D) : C = D := by
  rcases h with ⟨h0, ⟨k, rfl, h1, h2, h3⟩ | ⟨h1, h2⟩⟩
  · rcases g with ⟨g0, ⟨j, e, g1, g2, g3⟩ | ⟨g1, g2⟩⟩
    · obtain rfl : k = j := by omega
      exact to_rows h1 h0 g0 h3 g3
    · exact absurd (g1 k rfl h1) h2
  · rcases g with ⟨g0, ⟨j, e, g1, g2, g3⟩ | ⟨g1, g2⟩⟩
    · exact absurd (h1 j e g1) g2
    · rw [h2, g2]
theorem FromP.bd (h : FromP n s C) (j : Nat) (hj : j < n.a.length) : 0 ≤ ctL C j ∧ ctL C j ≤ 1152921504606846976 := by
  rcases h with ⟨h0, ⟨k, rfl, h1, h2, h3⟩ | ⟨h1, rfl⟩⟩
  · exact ⟨h3.lo hj, h3.hi j hj⟩
  · rw [ctL_rep]; omega
/-- From one arc to another one it costs the same, whichever end it is told from. -/
theorem FromP.meets (h : FromP n k C) (g : ToP n j D) (hk : k < n.a.length) (hj : j < n.a.length) : ctL C j = ctL D k := by
  rcases h with ⟨h0, ⟨k', e, h1, h2, h3⟩ | ⟨h1, rfl⟩⟩
  · obtain rfl : k = k' := by omega
    rcases g with ⟨g0, ⟨j', e', g1, g2, g3⟩ | ⟨g1, rfl⟩⟩
    · obtain rfl : j = j' := by omega
      exact h3.meets g3 h1 g1
    · rw [ctL_rep]
      have hc := g1 j rfl hj
      have hi := h3.hi j hj
      by_cases hl : ctL C j < 1152921504606846976
      · exfalso
        generalize hx : ctL C j = x at hl
        have h4 := h3.att j hj (by omega)
        rw [hx] at h4
        cases h4 with
        | start => exact h2 hc
        | step k hb =>
          have : ∀ i, hN n i j = 1152921504606846976 := fun i => by unfold hN oN; rw [hc, addC_inf]; split <;> rfl
          rw [this, addC_inf] at hl
          omega
      · omega
  · rw [ctL_rep]
    have hc := h1 k rfl hk
    rcases g with ⟨g0, ⟨j', e', g1, g2, g3⟩ | ⟨g1, rfl⟩⟩
    · obtain rfl : j = j' := by omega
      have hi := g3.hi k hk
      by_cases hl : ctL D k < 1152921504606846976
      · exfalso
        generalize hx : ctL D k = x at hl
        have h4 := g3.att k hk (by omega)
        rw [hx] at h4
        cases h4 with
        | start => exact g2 hc
        | step k2 hb =>
          have : ∀ i, hN n k i = 1152921504606846976 := fun i => by unfold hN; rw [if_pos hc]
          rw [this, addC_inf] at hl
          omega
      · omega
    · rw [ctL_rep]
/-- What is found onward. -/
theorem DjOut.fromD (h : DjOut (onwL n) n.a.length k C B) (hk : k < n.a.length) (ho : wN n k ≠ 1152921504606846976) : FromP n k C := by
  refine ⟨h.cl, Or.inl ⟨k, rfl, hk, ho, fun b hb => (h.hi b hb).2, by rw [h.start]; exact Int.le_refl _, fun b hb hl => (onw_att ho (h.att b hb hl) hl).1, fun a b ha hb => ?_⟩⟩
  unfold hN
  split
  · rw [addC_inf]; exact (h.hi b hb).2
  · by_cases e : a < n.a.length ∧ b < n.a.length ∧ (n.arc a).2.1 = (n.arc b).1
    · exact h.closed a ha (b, oN n a b) (onw_mem.2 ⟨hb, e.2.2.symm, rfl⟩) hb
    · rw [oN_apart e, addC_inf]; exact (h.hi b hb).2
theorem DjOut.toD (h : DjOut (bckL n) n.a.length k C B) (hk : k < n.a.length) (ho : wN n k ≠ 1152921504606846976) : ToP n k C := by
  refine ⟨h.cl, Or.inl ⟨k, rfl, hk, ho, fun b hb => (h.hi b hb).2, by rw [h.start]; exact Int.le_refl _, fun b hb hl => bck_att (h.att b hb hl), fun a b ha hb => ?_⟩⟩
  unfold hN
  split
  · rw [addC_inf]; exact (h.hi a ha).2
  · next hw =>
    by_cases e : a < n.a.length ∧ b < n.a.length ∧ (n.arc a).2.1 = (n.arc b).1
    · exact h.closed b hb (a, oN n a b) (bck_mem.2 ⟨ha, e.2.2, hw, rfl⟩) ha
    · rw [oN_apart e, addC_inf]; exact (h.hi a ha).2
/-- The least over a row of arcs. -/
def minT (n : NetD) (C : List Int) (t : Nat) (l : List Int) : Int := l.foldl (fun x a => min x (addC (ctL C a.toNat) (n.turn a t))) 1152921504606846976
theorem minT_snoc (n : NetD) (C : List Int) (t : Nat) (l : List Int) (a : Int) : minT n C t (l ++ [a]) = min (minT n C t l) (addC (ctL C a.toNat) (n.turn a t)) := by
  unfold minT; rw [List.foldl_append]; rfl
theorem minT_spec (n : NetD) (C : List Int) (t : Nat) (l : List Int) : minT n C t l ≤ 1152921504606846976 ∧ (∀ a, a ∈ l → minT n C t l ≤ addC (ctL C a.toNat) (n.turn a t)) ∧ (minT n C t l < 1152921504606846976 → ∃ a, a ∈ l ∧ minT n C t l = addC (ctL C a.toNat) (n.turn a t)) := by
  suffices key : ∀ (r : List Int) (u : List Int), u.reverse = r → minT n C t u ≤ 1152921504606846976 ∧ (∀ a, a ∈ u → minT n C t u ≤ addC (ctL C a.toNat) (n.turn a t)) ∧ (minT n C t u < 1152921504606846976 → ∃ a, a ∈ u ∧ minT n C t u = addC (ctL C a.toNat) (n.turn a t)) from key _ l rfl
  intro r
  induction r with
  | nil =>
    intro u hu
    have : u = [] := by simpa using hu
    subst this
    have e : minT n C t [] = 1152921504606846976 := rfl
    rw [e]
    exact ⟨Int.le_refl _, fun a ha => (by cases ha), fun h => absurd h (by omega)⟩
  | cons y r ih =>
    intro u hu
    obtain rfl : u = r.reverse ++ [y] := by rw [← List.reverse_reverse u, hu]; simp
    obtain ⟨h1, h2, h3⟩ := ih r.reverse (by simp)
    rw [minT_snoc]
    refine ⟨by omega, fun a ha => ?_, fun hl => ?_⟩
    · rcases List.mem_append.1 ha with ha | ha
      · have := h2 a ha
        omega
      · obtain rfl := List.mem_singleton.1 ha
        omega
    · by_cases e : minT n C t r.reverse ≤ addC (ctL C y.toNat) (n.turn y t)
      · rw [Int.min_eq_left e] at hl ⊢
        obtain ⟨a, ha, k⟩ := h3 hl
        exact ⟨a, List.mem_append.2 (Or.inl ha), k⟩
      · rw [Int.min_eq_right (by omega)]
        exact ⟨y, by simp, rfl⟩
/-- What is found within. -/
theorem DjOut.inside {I : Nat → Bool} (h : DjOut (inwL n I) n.a.length k C B) (hk : k < n.a.length) : LeastOf (Ins (fun a b => n.turn a b) (wN n) I n.a.length k j) (minT n C j (insL n.a (n.arc j).1)) := by
  obtain ⟨m1, m2, m3⟩ := minT_spec n C j (insL n.a (n.arc j).1)
  have via : ∀ a : Nat, a < n.a.length → minT n C j (insL n.a (n.arc j).1) ≤ addC (ctL C a) (n.turn a j) := fun a ha => by
    by_cases e : (n.arc a).2.1 = (n.arc j).1
    · have := m2 (a : Int) (ins_mem.2 ⟨a, ha, rfl, e⟩)
      simpa using this
    · rw [turn_apartN (fun h => e h.2.2), addC_inf]; exact m1
  refine ⟨m1, fun hl => ?_, fun x hx => ?_⟩
  · obtain ⟨a, ha, e⟩ := m3 hl
    obtain ⟨q, hq, rfl, e2⟩ := ins_mem.1 ha
    rw [Int.toNat_natCast] at e
    rw [e] at hl ⊢
    have hlt := addC_ltL hl (h.hi q hq).2
    rcases inw_att (h.att q hq hlt) with ⟨rfl, e0⟩ | k2
    · rw [e0, addC_comm, addC_zero]
      exact .one
    · exact .more k2
  · cases hx with
    | one =>
      have := via k hk
      rw [h.start, addC_comm, addC_zero] at this
      exact this
    | @more a y k2 =>
      obtain ⟨h1, h2⟩ := iat_inw k2
      refine Int.le_trans (via a h2) (addC_mono ?_ (Int.le_refl _))
      rcases h1 with rfl | h1
      · exact (h.hi a h2).2
      · exact (h.le (inw_ok n I) hk h1).2
end

end Go.Proofs.YtlfihaajnjeaeaaGreatDoor

/-
  What a row of arcs costs, told arc by arc; the row that was found, from its end: plain mathematics, no program stands here.
-/
namespace Go.Proofs.YtlfihaajnjeaeaaGreatDoor
open HP

/-- What an arc costs, Inf where there is none. -/
def wt (n : NetD) (a : Int) : Int := if n.there a = true then (n.arc a).2.2 else 1152921504606846976
/-- To turn from a into b and go along b. -/
def ontoZ (n : NetD) (a b : Int) : Int := addC (n.turn a b) (wt n b)
section
variable {n : NetD} {l : List Int} {a b : Int}
theorem wt_at {k : Nat} (hk : k < n.a.length) : wt n k = wN n k := by unfold wt; rw [if_pos (there_at hk)]; rfl
theorem wt_not (h : n.there a = false) : wt n a = 1152921504606846976 := by unfold wt; rw [h, if_neg (by simp)]
theorem wN_bd (hg : NetGood n) {k : Nat} (hk : k < n.a.length) : 0 ≤ wN n k ∧ wN n k ≤ 1152921504606846976 := by
  unfold wN
  rw [NetGood.arc_at k hk]
  have := wgt_in (hg.arcs k hk).2.2.2.2
  omega
theorem wt_bd (hg : NetGood n) (a : Int) : 0 ≤ wt n a ∧ wt n a ≤ 1152921504606846976 := by
  cases h : n.there a with
  | false => rw [wt_not h]; omega
  | true =>
    obtain ⟨k, rfl, hk⟩ := there_of h
    rw [wt_at hk]
    exact wN_bd hg hk
theorem ontoZ_arc (n : NetD) (a b : Int) : ontoZ n a b = addC (n.turn a b) (n.arc b).2.2 := by
  unfold ontoZ wt
  split
  · rfl
  · next h => rw [turn_apart (fun h1 => h h1.2.1), addC_infL, addC_infL]
theorem ontoZ_at {i j : Nat} (hj : j < n.a.length) : ontoZ n i j = oN n i j := by unfold ontoZ oN; rw [wt_at hj]
theorem stepOK_zero : n.stepOK l 0 = true ↔ wt n (l.getD 0 0) ≠ 1152921504606846976 := by
  unfold NetD.stepOK wt
  cases n.there (l.getD 0 0) <;> simp
theorem costTo_snoc (n : NetD) (l : List Int) (k : Nat) : n.costTo l (k + 2) = addC (n.costTo l (k + 1)) (ontoZ n (l.getD k 0) (l.getD (k + 1) 0)) := by
  rw [ontoZ_arc]
  rfl
theorem costTo_inf {k : Nat} (h1 : 0 < k) (hk : n.stepOK l k = false) : ∀ j, n.costTo l (k + 1 + j) = 1152921504606846976
  | 0 => by
    obtain ⟨i, rfl⟩ : ∃ i, k = i + 1 := ⟨k - 1, by omega⟩
    show n.costTo l (i + 2) = _
    rw [costTo_snoc]
    have : ontoZ n (l.getD i 0) (l.getD (i + 1) 0) = 1152921504606846976 := by
      unfold NetD.stepOK at hk
      unfold ontoZ wt
      cases hT : n.there (l.getD (i + 1) 0) with
      | false => rw [if_neg (by simp), addC_inf]
      | true =>
        rw [if_pos rfl]
        rw [hT] at hk
        by_cases hw : (n.arc (l.getD (i + 1) 0)).2.2 = 1152921504606846976
        · rw [hw, addC_inf]
        · by_cases ht : n.turn (l.getD i 0) (l.getD (i + 1) 0) = 1152921504606846976
          · rw [ht, addC_infL]
          · exfalso
            simp at hk
            exact ht (by simpa using hk (by simpa using hw))
    rw [this, addC_inf]
  | j + 1 => by
    have ih := costTo_inf h1 hk j
    obtain ⟨i, hi⟩ : ∃ i, k + 1 + j = i + 1 := ⟨k + j, by omega⟩
    rw [show k + 1 + (j + 1) = i + 2 from by omega, costTo_snoc, ← hi, ih, addC_infL]
theorem cost_open (h0 : 0 < l.length) (ho : n.stepOK l 0 = true) : n.cost l = n.costTo l l.length := by
  unfold NetD.cost
  split
  · rfl
  · next hw =>
    have : ∃ i, i < l.length ∧ n.stepOK l i = false := by
      refine Classical.byContradiction fun hn => hw ((walk_of h0).2 fun i hi => ?_)
      cases hs : n.stepOK l i with
      | true => rfl
      | false => exact absurd ⟨i, hi, hs⟩ hn
    obtain ⟨i, hi, hs⟩ := this
    have hi0 : 0 < i := by
      rcases Nat.eq_zero_or_pos i with rfl | h
      · rw [ho] at hs; cases hs
      · exact h
    have := costTo_inf hi0 hs (l.length - (i + 1))
    rw [show i + 1 + (l.length - (i + 1)) = l.length from by omega] at this
    exact this.symm
theorem cost_shut (h : l.length = 0 ∨ n.stepOK l 0 = false) : n.cost l = 1152921504606846976 := by
  unfold NetD.cost
  rw [if_neg]
  intro hw
  rcases h with h | h
  · unfold NetD.walk at hw
    simp [h] at hw
  · have h0 : 0 < l.length := by
      unfold NetD.walk at hw
      simp at hw
      omega
    rw [(walk_of h0).1 hw 0 h0] at h
    cases h
end
/-- The row that was found, from its end. -/
inductive PathR (L : Nat → List It) (s : Nat) (C B : List Int) : Nat → List Nat → Prop
  | start : ctB B s = -1 → PathR L s C B s [s]
  | step {a b : Nat} {r : List Nat} {d : Int} : PathR L s C B a r → b ∉ r → (b, d) ∈ L a → ctL C b = addC (ctL C a) d → ctB B b = (a : Int) → PathR L s C B b (b :: r)
/-- As it is told. -/
def zL (r : List Nat) : List Int := r.map fun k : Nat => (k : Int)
theorem zL_length (r : List Nat) : (zL r).length = r.length := by simp [zL]
section
variable {L : Nat → List It} {n : NetD} {N s a b : Nat} {C B : List Int} {D r : List Nat}
theorem Chn.path : ∀ {D : List Nat}, Chn L s C B D → D.Nodup → ∀ b, b ∈ D → ∃ r, PathR L s C B b r ∧ ∀ x, x ∈ r → x ∈ D
  | [], _, _, b, hb => by cases hb
  | y :: D, ⟨h1, h2⟩, hn, b, hb => by
    obtain ⟨hy, hn2⟩ := List.nodup_cons.1 hn
    rcases List.mem_cons.1 hb with rfl | hb
    · rcases h1 with ⟨rfl, -, hB⟩ | ⟨-, a, ha, d, hd, hx, hB⟩
      · exact ⟨[b], .start hB, fun x hx => by simp at hx; simp [hx]⟩
      · obtain ⟨r, hr, hD⟩ := h2.path hn2 a ha
        exact ⟨b :: r, .step hr (fun hbr => hy (hD b hbr)) hd hx hB, fun x hx => by
          rcases List.mem_cons.1 hx with rfl | hx
          · simp
          · simp [hD x hx]⟩
    · obtain ⟨r, hr, hD⟩ := h2.path hn2 b hb
      exact ⟨r, hr, fun x hx => by simp [hD x hx]⟩
theorem DjOut.path (h : DjOut L N s C B) (hb : b < N) (hl : ctL C b < 1152921504606846976) : ∃ r, PathR L s C B b r := by
  obtain ⟨D, h1, h2, -, h4⟩ := h.way
  obtain ⟨r, hr, -⟩ := h1.path h2 b (h4 b hb hl)
  exact ⟨r, hr⟩
theorem PathR.head (h : PathR L s C B b r) : ∃ q, r = b :: q := by
  cases h with
  | start _ => exact ⟨_, rfl⟩
  | step _ _ _ _ _ => exact ⟨_, rfl⟩
theorem PathR.nodup (h : PathR L s C B b r) : r.Nodup := by
  induction h with
  | start _ => simp
  | step _ hb _ _ _ ih => exact List.nodup_cons.2 ⟨hb, ih⟩
theorem PathR.lt (h : PathR L s C B b r) (hL : StepsOK L N) (hs : s < N) : b < N ∧ ∀ x, x ∈ r → x < N := by
  induction h with
  | start _ => exact ⟨hs, fun x hx => by simp at hx; omega⟩
  | step _ _ hd _ _ ih =>
    have := (hL _ ih.1 _ hd).1
    refine ⟨this, fun x hx => ?_⟩
    rcases List.mem_cons.1 hx with rfl | hx
    · exact this
    · exact ih.2 x hx
theorem getD_snoc_lt {l : List Int} {x : Int} {i : Nat} (h : i < l.length) : (l ++ [x]).getD i 0 = l.getD i 0 := by
  simp [List.getD_eq_getElem?_getD, List.getElem?_append_left h]
theorem getD_snoc_at {l : List Int} {x : Int} : (l ++ [x]).getD l.length 0 = x := by
  simp [List.getD_eq_getElem?_getD]
theorem costTo_same {l : List Int} {x : Int} : n.costTo (l ++ [x]) l.length = n.costTo l l.length := by
  have := costTo_take (n := n) (l := l ++ [x]) (k := l.length) l.length (Nat.le_refl _)
  rw [List.take_left] at this
  exact this.symm
/-- It is a row from s to b that costs what was found. -/
theorem PathR.cost (h : PathR (onwL n) s C B b r) (h0 : ctL C s = 0) : (zL r.reverse).length = r.length ∧ 0 < r.length ∧ (zL r.reverse).getD 0 0 = (s : Int) ∧ (zL r.reverse).getD (r.length - 1) 0 = (b : Int) ∧ n.costTo (zL r.reverse) r.length = ctL C b := by
  induction h with
  | start _ => exact ⟨by simp [zL], by simp, by simp [zL], by simp [zL], by rw [h0]; rfl⟩
  | @step a b r d h hb hd hx hB ih =>
    obtain ⟨i1, i2, i3, i4, i5⟩ := ih
    have e : zL (b :: r).reverse = zL r.reverse ++ [(b : Int)] := by simp [zL]
    rw [e]
    obtain ⟨k, hk⟩ : ∃ k, r.length = k + 1 := ⟨r.length - 1, by omega⟩
    refine ⟨by simp [i1], by simp, ?_, ?_, ?_⟩
    · rw [getD_snoc_lt (by omega)]; exact i3
    · rw [List.length_cons, Nat.add_sub_cancel, ← i1]; exact getD_snoc_at
    · rw [List.length_cons, hk, costTo_snoc, ← hk]
      have e1 : n.costTo (zL r.reverse ++ [(b : Int)]) r.length = n.costTo (zL r.reverse) r.length := by
        have := costTo_same (n := n) (l := zL r.reverse) (x := (b : Int))
        rw [i1] at this
        exact this
      have e2 : (zL r.reverse ++ [(b : Int)]).getD k 0 = (a : Int) := by
        rw [getD_snoc_lt (by omega)]
        rw [hk, Nat.add_sub_cancel] at i4
        exact i4
      have e3 : (zL r.reverse ++ [(b : Int)]).getD (k + 1) 0 = (b : Int) := by
        rw [← hk, ← i1]; exact getD_snoc_at
      rw [hk] at e1 i5
      rw [hk, e1, i5, e2, e3, hx]
      obtain ⟨m1, -, m3⟩ := onw_mem.1 hd
      rw [ontoZ_at m1]
      simp only [] at m3
      rw [m3]
end

end Go.Proofs.YtlfihaajnjeaeaaGreatDoor
