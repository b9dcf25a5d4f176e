/-
  Flows, and what holds them back: plain mathematics, no program stands here.
-/
import Derived.Test.YtleheaffipokfaaDoorCostM
namespace Go.Proofs.YtleheaffipokfaaDoor

/-- Edges between numbers; what goes along them. -/
abbrev Edg := List (Nat × Nat)
/-- The k-th edge, what goes along it. -/
def eL (E : Edg) (i : Nat) : Nat × Nat := E.getD i (0, 0)
def fL (f : List Int) (i : Nat) : Int := f.getD i 0
/-- Sums over the first k places. -/
def sumN (g : Nat → Int) : Nat → Int
  | 0 => 0
  | k + 1 => sumN g k + g k
theorem sumN_congr {g h : Nat → Int} : ∀ {k : Nat}, (∀ i, i < k → g i = h i) → sumN g k = sumN h k
  | 0, _ => rfl
  | k + 1, e => by
    unfold sumN
    rw [sumN_congr fun i hi => e i (by omega), e k (by omega)]
theorem sumN_add (g h : Nat → Int) : ∀ k, sumN (fun i => g i + h i) k = sumN g k + sumN h k
  | 0 => rfl
  | k + 1 => by
    show sumN (fun i => g i + h i) k + (g k + h k) = (sumN g k + g k) + (sumN h k + h k)
    rw [sumN_add g h k]
    omega
theorem sumN_sub (g h : Nat → Int) : ∀ k, sumN (fun i => g i - h i) k = sumN g k - sumN h k
  | 0 => rfl
  | k + 1 => by
    show sumN (fun i => g i - h i) k + (g k - h k) = (sumN g k + g k) - (sumN h k + h k)
    rw [sumN_sub g h k]
    omega
theorem sumN_zero : ∀ k, sumN (fun _ => 0) k = 0
  | 0 => rfl
  | k + 1 => by
    show sumN (fun _ => 0) k + 0 = 0
    rw [sumN_zero k]
    rfl
theorem sumN_le {g h : Nat → Int} : ∀ {k : Nat}, (∀ i, i < k → g i ≤ h i) → sumN g k ≤ sumN h k
  | 0, _ => Int.le_refl _
  | k + 1, e => by
    have := sumN_le (g := g) (h := h) (k := k) fun i hi => e i (by omega)
    have := e k (by omega)
    unfold sumN
    omega
/-- .. of as much: each is. -/
theorem sumN_eq {g h : Nat → Int} : ∀ {k : Nat}, (∀ i, i < k → g i ≤ h i) → sumN g k = sumN h k → ∀ i, i < k → g i = h i
  | 0, _, _, i, hi => absurd hi (Nat.not_lt_zero i)
  | k + 1, e, hs, i, hi => by
    have h1 := sumN_le (g := g) (h := h) (k := k) fun i hi => e i (by omega)
    have h2 := e k (by omega)
    unfold sumN at hs
    rcases Nat.lt_succ_iff_lt_or_eq.1 hi with hlt | rfl
    · exact sumN_eq (fun i hi => e i (by omega)) (by omega) i hlt
    · omega
theorem sumN_swap (g : Nat → Nat → Int) (n : Nat) : ∀ k, sumN (fun i => sumN (fun j => g i j) n) k = sumN (fun j => sumN (fun i => g i j) k) n
  | 0 => (sumN_zero n).symm
  | k + 1 => by
    show sumN (fun i => sumN (fun j => g i j) n) k + sumN (fun j => g k j) n = sumN (fun j => sumN (fun i => g i j) k + g k j) n
    rw [sumN_swap g n k, sumN_add]
theorem sumN_mul (c : Int) (g : Nat → Int) : ∀ k, sumN (fun i => c * g i) k = c * sumN g k
  | 0 => by simp [sumN]
  | k + 1 => by
    show sumN (fun i => c * g i) k + c * g k = c * (sumN g k + g k)
    rw [sumN_mul c g k, Int.mul_add]
/-- One place alone counts. -/
theorem sumN_one (g : Nat → Int) (j : Nat) : ∀ {k : Nat}, j < k → sumN (fun i => if i = j then g i else 0) k = g j
  | 0, h => absurd h (Nat.not_lt_zero j)
  | k + 1, h => by
    show sumN (fun i => if i = j then g i else 0) k + (if k = j then g k else 0) = g j
    rcases Nat.lt_succ_iff_lt_or_eq.1 h with hlt | rfl
    · rw [sumN_one g j hlt, if_neg (by omega)]
      omega
    · rw [if_pos rfl, sumN_congr (h := fun _ => 0) fun i hi => if_neg (by omega), sumN_zero]
      omega
/-- A sum in which one place turns. -/
theorem sumN_set {g h : Nat → Int} (j : Nat) : ∀ {k : Nat}, j < k → (∀ i, i < k → i ≠ j → h i = g i) → sumN h k = sumN g k + (h j - g j)
  | 0, hj, _ => absurd hj (Nat.not_lt_zero j)
  | k + 1, hj, e => by
    show sumN h k + h k = sumN g k + g k + (h j - g j)
    rcases Nat.lt_succ_iff_lt_or_eq.1 hj with hlt | rfl
    · rw [sumN_set j hlt fun i hi hn => e i (by omega) hn, e k (by omega) (by omega)]
      omega
    · rw [sumN_congr (h := g) fun i hi => e i (by omega) (by omega)]
      omega

/-- A set of numbers, and one as a number. -/
abbrev VSet := Nat → Bool
def b1 (b : Bool) : Int := if b then 1 else 0
/-- How many edges go between a set and the others. -/
def crossS (S : VSet) (E : Edg) : Int := sumN (fun i => b1 (S (eL E i).1 != S (eL E i).2)) E.length
/-- How many more go out of a vertex than come back. -/
def netF (E : Edg) (f : List Int) (v : Nat) : Int := sumN (fun i => (if (eL E i).1 = v then fL f i else 0) - (if (eL E i).2 = v then fL f i else 0)) E.length
/-- An edge has room from u to v (way 1), where one goes along it the other way round (way -1). -/
def Room (E : Edg) (f : List Int) (way : Int) (u v : Nat) : Prop :=
  ∃ i, i < E.length ∧ ((eL E i = (u, v) ∧ fL f i ≠ way) ∨ (eL E i = (v, u) ∧ fL f i ≠ -way))
/-- What can be reached by edges with room. -/
inductive Rch (E : Edg) (f : List Int) (way : Int) (S : VSet) : Nat → Prop
  | start {v : Nat} : S v = true → Rch E f way S v
  | step {u v : Nat} : Rch E f way S u → Room E f way u v → Rch E f way S v
theorem Room.back {E : Edg} {f : List Int} {way : Int} {u v : Nat} (h : Room E f way u v) : Room E f (-way) v u := by
  obtain ⟨i, hi, ⟨e, hf⟩ | ⟨e, hf⟩⟩ := h
  · exact ⟨i, hi, Or.inr ⟨e, by rw [Int.neg_neg]; exact hf⟩⟩
  · exact ⟨i, hi, Or.inl ⟨e, hf⟩⟩
/-- A flow of a value. -/
structure IsFlow (N : Nat) (E : Edg) (A B : VSet) (f : List Int) : Prop where
  len : f.length = E.length
  one : ∀ i, i < E.length → fL f i = -1 ∨ fL f i = 0 ∨ fL f i = 1
  self : ∀ i, i < E.length → (eL E i).1 = (eL E i).2 → fL f i = 0
  even : ∀ v, v < N → A v = false → B v = false → netF E f v = 0
def valF (N : Nat) (E : Edg) (A : VSet) (f : List Int) : Int := sumN (fun v => if A v = true then netF E f v else 0) N
/-- A set that parts the one from the other. -/
structure IsCut (N : Nat) (A B S : VSet) : Prop where
  has : ∀ v, v < N → A v = true → S v = true
  none : ∀ v, v < N → B v = true → S v = false
def EdgIn (N : Nat) (E : Edg) : Prop := ∀ i, i < E.length → (eL E i).1 < N ∧ (eL E i).2 < N
section
variable {N : Nat} {E : Edg} {A B S : VSet} {f : List Int}
/-- What goes out of a set, edge by edge. -/
theorem net_set (hE : EdgIn N E) (S : VSet) : sumN (fun v => if S v = true then netF E f v else 0) N = sumN (fun i => fL f i * (b1 (S (eL E i).1) - b1 (S (eL E i).2))) E.length := by
  have h1 : sumN (fun v => if S v = true then netF E f v else 0) N = sumN (fun v => sumN (fun i => (if v = (eL E i).1 then (if S v = true then fL f i else 0) else 0) - (if v = (eL E i).2 then (if S v = true then fL f i else 0) else 0)) E.length) N := by
    refine sumN_congr fun v hv => ?_
    cases hs : S v
    · rw [if_neg (by simp)]
      exact ((sumN_congr fun i _ => by simp).trans (sumN_zero _)).symm
    · rw [if_pos rfl]
      unfold netF
      refine sumN_congr fun i _ => ?_
      simp only [eq_comm (a := v)]
      simp
  rw [h1, ← sumN_swap (fun i v => (if v = (eL E i).1 then (if S v = true then fL f i else 0) else 0) - (if v = (eL E i).2 then (if S v = true then fL f i else 0) else 0)) N E.length]
  refine sumN_congr fun i hi => ?_
  rw [sumN_sub (fun v => if v = (eL E i).1 then (if S v = true then fL f i else 0) else 0) (fun v => if v = (eL E i).2 then (if S v = true then fL f i else 0) else 0)]
  rw [sumN_one (fun v => if S v = true then fL f i else 0) _ (hE i hi).1, sumN_one (fun v => if S v = true then fL f i else 0) _ (hE i hi).2]
  unfold b1
  cases S (eL E i).1 <;> cases S (eL E i).2 <;> simp
theorem val_cut (h : IsFlow N E A B f) (hE : EdgIn N E) (hS : IsCut N A B S) : valF N E A f = sumN (fun i => fL f i * (b1 (S (eL E i).1) - b1 (S (eL E i).2))) E.length := by
  rw [← net_set hE S]
  unfold valF
  refine sumN_congr fun v hv => ?_
  cases ha : A v
  · cases hs : S v
    · simp
    · cases hb : B v
      · simp [h.even v hv ha hb]
      · have := hS.none v hv hb
        rw [hs] at this
        cases this
  · rw [hS.has v hv ha]
theorem edge_le (h : IsFlow N E A B f) {i : Nat} (hi : i < E.length) : fL f i * (b1 (S (eL E i).1) - b1 (S (eL E i).2)) ≤ b1 (S (eL E i).1 != S (eL E i).2) := by
  unfold b1
  rcases h.one i hi with h | h | h <;> rw [h] <;> cases S (eL E i).1 <;> cases S (eL E i).2 <;> decide
/-- No more goes through than edges leave the set. -/
theorem val_le (h : IsFlow N E A B f) (hE : EdgIn N E) (hS : IsCut N A B S) : valF N E A f ≤ crossS S E := by
  rw [val_cut h hE hS]
  exact sumN_le fun i hi => edge_le h hi
/-- Just as many, where no edge has room out of the set. -/
theorem val_eq (h : IsFlow N E A B f) (hE : EdgIn N E) (hS : IsCut N A B S) : valF N E A f = crossS S E ↔ ∀ u v, Room E f 1 u v → S u = true → S v = true := by
  rw [val_cut h hE hS]
  constructor
  · intro e u v ⟨i, hi, hr⟩ hu
    have := sumN_eq (fun i hi => edge_le (S := S) h hi) e i hi
    cases hv : S v
    · exfalso
      rcases hr with ⟨e1, hf⟩ | ⟨e1, hf⟩
      · rw [e1] at this
        simp only [hu, hv] at this
        revert this hf
        rcases h.one i hi with h | h | h <;> rw [h] <;> decide
      · rw [e1] at this
        simp only [hu, hv] at this
        revert this hf
        rcases h.one i hi with h | h | h <;> rw [h] <;> decide
    · rfl
  · intro e
    refine sumN_congr fun i hi => ?_
    cases h1 : S (eL E i).1 <;> cases h2 : S (eL E i).2
    · simp [b1]
    · have : fL f i = -1 := by
        refine Classical.byContradiction fun hn => ?_
        have := e (eL E i).2 (eL E i).1 ⟨i, hi, Or.inr ⟨rfl, hn⟩⟩ h2
        rw [h1] at this
        cases this
      rw [this]; decide
    · have : fL f i = 1 := by
        refine Classical.byContradiction fun hn => ?_
        have := e (eL E i).1 (eL E i).2 ⟨i, hi, Or.inl ⟨rfl, hn⟩⟩ h1
        rw [h2] at this
        cases this
      rw [this]; decide
    · simp [b1]
end
/-- What Max tells of how much goes through: the value, and both least cuts. -/
structure MaxQ (N : Nat) (E : Edg) (A B : VSet) (V : Int) (near far : VSet) : Prop where
  nearC : IsCut N A B near
  farC : IsCut N A B far
  nearV : crossS near E = V
  farV : crossS far E = V
  least : ∀ S, IsCut N A B S → V ≤ crossS S E
  both : ∀ S, IsCut N A B S → crossS S E = V → (∀ v, v < N → near v = true → S v = true) ∧ (∀ v, v < N → S v = true → far v = true)
section
variable {N : Nat} {E : Edg} {A B S near far : VSet} {f : List Int} {way : Int} {v : Nat}
theorem Rch.within {S : VSet} (h : Rch E f way A v) (hE : EdgIn N E) (hA : ∀ v, A v = true → v < N ∧ S v = true) (hc : ∀ u v, Room E f way u v → S u = true → S v = true) : v < N ∧ S v = true := by
  induction h with
  | start h => exact hA _ h
  | step _ hr ih =>
    refine ⟨?_, hc _ _ hr ih.2⟩
    obtain ⟨i, hi, ⟨e, -⟩ | ⟨e, -⟩⟩ := hr
    · have := (hE i hi).2; rw [e] at this; exact this
    · have := (hE i hi).1; rw [e] at this; exact this
/-- A flow by which nothing of the other is reached is one of the greatest. -/
theorem MaxQ.of (h : IsFlow N E A B f) (hE : EdgIn N E) (hA : ∀ v, A v = true → v < N) (hB : ∀ v, B v = true → v < N)
    (hn : ∀ v, v < N → (near v = true ↔ Rch E f 1 A v)) (hf : ∀ v, v < N → (far v = false ↔ Rch E f (-1) B v)) (hd : ∀ v, B v = true → ¬ Rch E f 1 A v) : MaxQ N E A B (valF N E A f) near far := by
  have room_lt : ∀ {w : Int} {u v}, Room E f w u v → u < N ∧ v < N := by
    intro w u v ⟨i, hi, h⟩
    have := hE i hi
    rcases h with ⟨e, -⟩ | ⟨e, -⟩ <;> rw [e] at this
    · exact this
    · exact ⟨this.2, this.1⟩
  have c1 : IsCut N A B near := ⟨fun v hv ha => (hn v hv).2 (.start ha), fun v hv hb => by
    cases h : near v
    · rfl
    · exact absurd ((hn v hv).1 h) (hd v hb)⟩
  -- from where the other is reached
  have tr : ∀ u, Rch E f (-1) B u → ∃ v, B v = true ∧ (Rch E f 1 A u → Rch E f 1 A v) := by
    intro u hu
    induction hu with
    | @start v h => exact ⟨v, h, id⟩
    | @step u v h hr ih =>
      obtain ⟨w, hw, k⟩ := ih
      exact ⟨w, hw, fun hv => k (.step hv (by have := hr.back; rwa [Int.neg_neg] at this))⟩
  have c2 : IsCut N A B far := ⟨fun v hv ha => by
    cases h : far v
    · obtain ⟨w, hw, k⟩ := tr v ((hf v hv).1 h)
      exact absurd (k (.start ha)) (hd w hw)
    · rfl, fun v hv hb => (hf v hv).2 (.start hb)⟩
  refine ⟨c1, c2, ?_, ?_, fun S hS => val_le h hE hS, fun S hS e => ⟨fun v hv hnv => ?_, fun v hv hs => ?_⟩⟩
  · exact ((val_eq h hE c1).2 fun u v hr hu => (hn v (room_lt hr).2).2 (.step ((hn u (room_lt hr).1).1 hu) hr)).symm
  · refine ((val_eq h hE c2).2 fun u v hr hu => ?_).symm
    cases hfv : far v
    · have : far u = false := (hf u (room_lt hr).1).2 (.step ((hf v (room_lt hr).2).1 hfv) hr.back)
      rw [hu] at this
      cases this
    · rfl
  · have hc := (val_eq h hE hS).1 e.symm
    exact (((hn v hv).1 hnv).within (S := S) hE (fun v ha => ⟨hA v ha, hS.has v (hA v ha) ha⟩) hc).2
  · have hc := (val_eq h hE hS).1 e.symm
    cases hfv : far v
    · exfalso
      have : ∀ u, Rch E f (-1) B u → S u = true → False := by
        intro u hu
        induction hu with
        | @start v h => intro hs; rw [hS.none v (hB v h) h] at hs; cases hs
        | @step u v h hr ih => intro hs; exact ih (hc _ _ (by have := hr.back; rwa [Int.neg_neg] at this) hs)
      exact this v ((hf v hv).1 hfv) hs
    · rfl
/-- There is but one answer. -/
theorem MaxQ.uniq {V W : Int} {near' far' : VSet} (h : MaxQ N E A B V near far) (k : MaxQ N E A B W near' far') : V = W ∧ (∀ v, v < N → near v = near' v) ∧ (∀ v, v < N → far v = far' v) := by
  have e : V = W := by
    have h1 := h.least _ k.nearC
    have h2 := k.least _ h.nearC
    rw [k.nearV] at h1
    rw [h.nearV] at h2
    omega
  subst e
  have a := h.both _ k.nearC k.nearV
  have b := k.both _ h.nearC h.nearV
  have c := h.both _ k.farC k.farV
  have d := k.both _ h.farC h.farV
  refine ⟨rfl, fun v hv => ?_, fun v hv => ?_⟩
  · have x := a.1 v hv
    have y := b.1 v hv
    cases h1 : near v <;> cases h2 : near' v <;> simp_all
  · have x := c.2 v hv
    have y := d.2 v hv
    cases h1 : far v <;> cases h2 : far' v <;> simp_all
theorem MaxQ.sub {V : Int} (h : MaxQ N E A B V near far) : ∀ v, v < N → near v = true → far v = true := (h.both _ h.nearC h.nearV).2
end
end Go.Proofs.YtleheaffipokfaaDoor
