/-
  Plain mathematics of costs: no program stands here.
-/
import Derived.WalkKit
namespace Go.Proofs.YthfljimgpcignaaGreatDoor

theorem ret_int {k : IntKind} {a b : Int} (h : a = b) : Ending.returned (.int k a) = .returned (.int k b) := by rw [h]
theorem ret_bool {a b : Bool} (h : a = b) : Ending.returned (.bool a) = .returned (.bool b) := by rw [h]
theorem ret_str {a b : ByteArray} (h : a = b) : Ending.returned (.string a) = .returned (.string b) := by rw [h]
theorem ret_tup1 {k : IntKind} {a b : Int} {x : Value} (h : a = b) : Ending.returned (.tuple #[.int k a, x]) = .returned (.tuple #[.int k b, x]) := by rw [h]
theorem ret_int_int {k l : IntKind} {a b c d : Int} (h : a = b) (h' : c = d) : Ending.returned (.tuple #[.int k a, .int l c]) = .returned (.tuple #[.int k b, .int l d]) := by rw [h, h']

/-- A number, held to what a cost may be. -/
def hld (a : Int) : Int := if a < 0 then 0 else if 1152921504606846976 < a then 1152921504606846976 else a
theorem hld_lo (a : Int) : 0 ≤ hld a := by unfold hld; split <;> (try split) <;> omega
theorem hld_hi (a : Int) : hld a ≤ 1152921504606846976 := by unfold hld; split <;> (try split) <;> omega
theorem hld_in (a : Int) (h : 0 ≤ a) (h' : a ≤ 1152921504606846976) : hld a = a := by unfold hld; split <;> (try split) <;> omega
theorem hld_hld (a : Int) : hld (hld a) = hld a := hld_in _ (hld_lo a) (hld_hi a)
theorem hld_neg (a : Int) (h : a < 0) : hld a = 0 := by unfold hld; rw [if_pos h]
theorem hld_big (a : Int) (h : 1152921504606846976 < a) : hld a = 1152921504606846976 := by unfold hld; split <;> (try split) <;> omega
/-- The sum of two, held. -/
def addC (a b : Int) : Int := hld (hld a + hld b)
theorem addC_lo (a b : Int) : 0 ≤ addC a b := hld_lo _
theorem addC_hi (a b : Int) : addC a b ≤ 1152921504606846976 := hld_hi _
/-- The sum of a row, from a beginning on. -/
def sumC (c : Int) (l : List Int) : Int := l.foldl addC c
theorem sumC_nil (c : Int) : sumC c [] = c := rfl
theorem sumC_snoc (c : Int) (l : List Int) (a : Int) : sumC c (l ++ [a]) = addC (sumC c l) a := by simp [sumC]
theorem sumC_lo (c : Int) (h : 0 ≤ c) (l : List Int) : 0 ≤ sumC c l := by
  induction l generalizing c with
  | nil => exact h
  | cons a r ih => exact ih (addC c a) (addC_lo _ _)
theorem sumC_hi (c : Int) (h : c ≤ 1152921504606846976) (l : List Int) : sumC c l ≤ 1152921504606846976 := by
  induction l generalizing c with
  | nil => exact h
  | cons a r ih => exact ih (addC c a) (addC_hi _ _)
/-- The least one's place and cost, so far (-1: none yet); k: the next one's place. -/
def leastStep (p : Int × Int) (k : Int) (a : Int) : Int × Int := if p.1 < 0 ∨ hld a < p.2 then (k, hld a) else p
def leastGo : Int × Int → Int → List Int → Int × Int
  | p, _, [] => p
  | p, k, a :: r => leastGo (leastStep p k a) (k + 1) r
def leastC (l : List Int) : Int × Int := leastGo (-1, 1152921504606846976) 0 l
theorem leastGo_snoc (p : Int × Int) (k : Int) (l : List Int) (a : Int) : leastGo p k (l ++ [a]) = leastStep (leastGo p k l) (k + l.length) a := by
  induction l generalizing p k with
  | nil => simp [leastGo]
  | cons b r ih => simp only [List.cons_append, leastGo, ih, List.length_cons]; congr 1; omega
theorem leastC_snoc (l : List Int) (a : Int) : leastC (l ++ [a]) = leastStep (leastC l) l.length a := by
  unfold leastC; rw [leastGo_snoc]; simp
theorem leastGo_bd (p : Int × Int) (k : Int) (l : List Int) (h : -1 ≤ p.1 ∧ p.1 < k ∧ 0 ≤ p.2 ∧ p.2 ≤ 1152921504606846976) :
    -1 ≤ (leastGo p k l).1 ∧ (leastGo p k l).1 < k + l.length ∧ 0 ≤ (leastGo p k l).2 ∧ (leastGo p k l).2 ≤ 1152921504606846976 := by
  induction l generalizing p k with
  | nil => obtain ⟨a, b, c, d⟩ := h; exact ⟨a, by simpa [leastGo] using b, c, d⟩
  | cons x r ih =>
    have h0 := hld_lo x
    have h1 := hld_hi x
    have := ih (leastStep p k x) (k + 1) (by unfold leastStep; split <;> (try simp only []) <;> omega)
    rw [List.length_cons]
    unfold leastGo
    omega
theorem leastC_bd (l : List Int) : -1 ≤ (leastC l).1 ∧ (leastC l).1 < l.length ∧ 0 ≤ (leastC l).2 ∧ (leastC l).2 ≤ 1152921504606846976 := by
  by_cases h : l = []
  · subst h; simp [leastC, leastGo]
  · have hl : 0 < l.length := List.length_pos_iff.2 h
    cases l with
    | nil => exact absurd rfl h
    | cons a r =>
      have h0 := hld_lo a
      have h1 := hld_hi a
      have := leastGo_bd (leastStep (-1, 1152921504606846976) 0 a) (0 + 1) r (by unfold leastStep; split <;> (try simp only []) <;> omega)
      rw [List.length_cons]
      unfold leastC leastGo
      omega
/-- May it be a weight? -/
def wgt (a : Int) : Bool := (decide (0 ≤ a) && decide (a ≤ 2147483648)) || decide (a = 1152921504606846976)
theorem take_snoc {α : Type} (l : List α) (k : Nat) (h : k < l.length) : l.take (k + 1) = l.take k ++ [l[k]] := by
  rw [List.take_succ_eq_append_getElem h]

end Go.Proofs.YthfljimgpcignaaGreatDoor

/-
  Flows, and what holds them back: plain mathematics, no program stands here.
-/
namespace Go.Proofs.YthfljimgpcignaaGreatDoor

/-- Edges between numbers; what goes along them. -/
abbrev Edg := List (Nat × Nat)
/-- The k-th edge, what goes along it. -/
def eL (E : Edg) (i : Nat) : Nat × Nat := E.getD i (0, 0)
def fL (f : List Int) (i : Nat) : Int := f.getD i 0
/-- Sums over the first k places. -/
def sumN (g : Nat → Int) : Nat → Int
  | 0 => 0
  | k + 1 => sumN g k + g k
theorem sumN_congr {g h : Nat → Int} : ∀ {k : Nat}, (∀ i, i < k → g i = h i) → sumN g k = sumN h k
  | 0, _ => rfl
  | k + 1, e => by
    unfold sumN
    rw [sumN_congr fun i hi => e i (by omega), e k (by omega)]
theorem sumN_add (g h : Nat → Int) : ∀ k, sumN (fun i => g i + h i) k = sumN g k + sumN h k
  | 0 => rfl
  | k + 1 => by
    show sumN (fun i => g i + h i) k + (g k + h k) = (sumN g k + g k) + (sumN h k + h k)
    rw [sumN_add g h k]
    omega
theorem sumN_sub (g h : Nat → Int) : ∀ k, sumN (fun i => g i - h i) k = sumN g k - sumN h k
  | 0 => rfl
  | k + 1 => by
    show sumN (fun i => g i - h i) k + (g k - h k) = (sumN g k + g k) - (sumN h k + h k)
    rw [sumN_sub g h k]
    omega
theorem sumN_zero : ∀ k, sumN (fun _ => 0) k = 0
  | 0 => rfl
  | k + 1 => by
    show sumN (fun _ => 0) k + 0 = 0
    rw [sumN_zero k]
    rfl
theorem sumN_le {g h : Nat → Int} : ∀ {k : Nat}, (∀ i, i < k → g i ≤ h i) → sumN g k ≤ sumN h k
  | 0, _ => Int.le_refl _
  | k + 1, e => by
    have := sumN_le (g := g) (h := h) (k := k) fun i hi => e i (by omega)
    have := e k (by omega)
    unfold sumN
    omega
/-- .. of as much: each is. -/
theorem sumN_eq {g h : Nat → Int} : ∀ {k : Nat}, (∀ i, i < k → g i ≤ h i) → sumN g k = sumN h k → ∀ i, i < k → g i = h i
  | 0, _, _, i, hi => absurd hi (Nat.not_lt_zero i)
  | k + 1, e, hs, i, hi => by
    have h1 := sumN_le (g := g) (h := h) (k := k) fun i hi => e i (by omega)
    have h2 := e k (by omega)
    unfold sumN at hs
    rcases Nat.lt_succ_iff_lt_or_eq.1 hi with hlt | rfl
    · exact sumN_eq (fun i hi => e i (by omega)) (by omega) i hlt
    · omega
theorem sumN_swap (g : Nat → Nat → Int) (n : Nat) : ∀ k, sumN (fun i => sumN (fun j => g i j) n) k = sumN (fun j => sumN (fun i => g i j) k) n
  | 0 => (sumN_zero n).symm
  | k + 1 => by
    show sumN (fun i => sumN (fun j => g i j) n) k + sumN (fun j => g k j) n = sumN (fun j => sumN (fun i => g i j) k + g k j) n
    rw [sumN_swap g n k, sumN_add]
theorem sumN_mul (c : Int) (g : Nat → Int) : ∀ k, sumN (fun i => c * g i) k = c * sumN g k
  | 0 => by simp [sumN]
  | k + 1 => by
    show sumN (fun i => c * g i) k + c * g k = c * (sumN g k + g k)
    rw [sumN_mul c g k, Int.mul_add]
/-- One place alone counts. -/
theorem sumN_one (g : Nat → Int) (j : Nat) : ∀ {k : Nat}, j < k → sumN (fun i => if i = j then g i else 0) k = g j
  | 0, h => absurd h (Nat.not_lt_zero j)
  | k + 1, h => by
    show sumN (fun i => if i = j then g i else 0) k + (if k = j then g k else 0) = g j
    rcases Nat.lt_succ_iff_lt_or_eq.1 h with hlt | rfl
    · rw [sumN_one g j hlt, if_neg (by omega)]
      omega
    · rw [if_pos rfl, sumN_congr (h := fun _ => 0) fun i hi => if_neg (by omega), sumN_zero]
      omega
/-- A sum in which one place turns. -/
theorem sumN_set {g h : Nat → Int} (j : Nat) : ∀ {k : Nat}, j < k → (∀ i, i < k → i ≠ j → h i = g i) → sumN h k = sumN g k + (h j - g j)
  | 0, hj, _ => absurd hj (Nat.not_lt_zero j)
  | k + 1, hj, e => by
    show sumN h k + h k = sumN g k + g k + (h j - g j)
    rcases Nat.lt_succ_iff_lt_or_eq.1 hj with hlt | rfl
    · rw [sumN_set j hlt fun i hi hn => e i (by omega) hn, e k (by omega) (by omega)]
      omega
    · rw [sumN_congr (h := g) fun i hi => e i (by omega) (by omega)]
      omega

/-- A set of numbers, and one as a number. -/
abbrev VSet := Nat → Bool
def b1 (b : Bool) : Int := if b then 1 else 0
/-- How many edges go between a set and the others. -/
def crossS (S : VSet) (E : Edg) : Int := sumN (fun i => b1 (S (eL E i).1 != S (eL E i).2)) E.length
/-- How many more go out of a vertex than come back. -/
def netF (E : Edg) (f : List Int) (v : Nat) : Int := sumN (fun i => (if (eL E i).1 = v then fL f i else 0) - (if (eL E i).2 = v then fL f i else 0)) E.length
/-- An edge has room from u to v (way 1), where one goes along it the other way round (way -1). -/
def Room (E : Edg) (f : List Int) (way : Int) (u v : Nat) : Prop :=
  ∃ i, i < E.length ∧ ((eL E i = (u, v) ∧ fL f i ≠ way) ∨ (eL E i = (v, u) ∧ fL f i ≠ -way))
/-- What can be reached by edges with room. -/
inductive Rch (E : Edg) (f : List Int) (way : Int) (S : VSet) : Nat → Prop
  | start {v : Nat} : S v = true → Rch E f way S v
  | step {u v : Nat} : Rch E f way S u → Room E f way u v → Rch E f way S v
theorem Room.back {E : Edg} {f : List Int} {way : Int} {u v : Nat} (h : Room E f way u v) : Room E f (-way) v u := by
  obtain ⟨i, hi, ⟨e, hf⟩ | ⟨e, hf⟩⟩ := h
  · exact ⟨i, hi, Or.inr ⟨e, by rw [Int.neg_neg]; exact hf⟩⟩
  · exact ⟨i, hi, Or.inl ⟨e, hf⟩⟩
/-- A flow of a value. -/
structure IsFlow (N : Nat) (E : Edg) (A B : VSet) (f : List Int) : Prop where
  len : f.length = E.length
  one : ∀ i, i < E.length → fL f i = -1 ∨ fL f i = 0 ∨ fL f i = 1
  self : ∀ i, i < E.length → (eL E i).1 = (eL E i).2 → fL f i = 0
  even : ∀ v, v < N → A v = false → B v = false → netF E f v = 0
def valF (N : Nat) (E : Edg) (A : VSet) (f : List Int) : Int := sumN (fun v => if A v = true then netF E f v else 0) N
/-- A set that parts the one from the other. -/
structure IsCut (N : Nat) (A B S : VSet) : Prop where
  has : ∀ v, v < N → A v = true → S v = true
  none : ∀ v, v < N → B v = true → S v = false
def EdgIn (N : Nat) (E : Edg) : Prop := ∀ i, i < E.length → (eL E i).1 < N ∧ (eL E i).2 < N
section
variable {N : Nat} {E : Edg} {A B S : VSet} {f : List Int}
/-- What goes out of a set, edge by edge. -/
theorem net_set (hE : EdgIn N E) (S : VSet) : sumN (fun v => if S v = true then netF E f v else 0) N = sumN (fun i => fL f i * (b1 (S (eL E i).1) - b1 (S (eL E i).2))) E.length := by
  have h1 : sumN (fun v => if S v = true then netF E f v else 0) N = sumN (fun v => sumN (fun i => (if v = (eL E i).1 then (if S v = true then fL f i else 0) else 0) - (if v = (eL E i).2 then (if S v = true then fL f i else 0) else 0)) E.length) N := by
    refine sumN_congr fun v hv => ?_
    cases hs : S v
    · rw [if_neg (by simp)]
      exact ((sumN_congr fun i _ => by simp).trans (sumN_zero _)).symm
    · rw [if_pos rfl]
      unfold netF
      refine sumN_congr fun i _ => ?_
      simp only [eq_comm (a := v)]
      simp
  rw [h1, ← sumN_swap (fun i v => (if v = (eL E i).1 then (if S v = true then fL f i else 0) else 0) - (if v = (eL E i).2 then (if S v = true then fL f i else 0) else 0)) N E.length]
  refine sumN_congr fun i hi => ?_
  rw [sumN_sub (fun v => if v = (eL E i).1 then (if S v = true then fL f i else 0) else 0) (fun v => if v = (eL E i).2 then (if S v = true then fL f i else 0) else 0)]
  rw [sumN_one (fun v => if S v = true then fL f i else 0) _ (hE i hi).1, sumN_one (fun v => if S v = true then fL f i else 0) _ (hE i hi).2]
  unfold b1
  cases S (eL E i).1 <;> cases S (eL E i).2 <;> simp
theorem val_cut (h : IsFlow N E A B f) (hE : EdgIn N E) (hS : IsCut N A B S) : valF N E A f = sumN (fun i => fL f i * (b1 (S (eL E i).1) - b1 (S (eL E i).2))) E.length := by
  rw [← net_set hE S]
  unfold valF
  refine sumN_congr fun v hv => ?_
  cases ha : A v
  · cases hs : S v
    · simp
    · cases hb : B v
      · simp [h.even v hv ha hb]
      · have := hS.none v hv hb
        rw [hs] at this
        cases this
  · rw [hS.has v hv ha]
theorem edge_le (h : IsFlow N E A B f) {i : Nat} (hi : i < E.length) : fL f i * (b1 (S (eL E i).1) - b1 (S (eL E i).2)) ≤ b1 (S (eL E i).1 != S (eL E i).2) := by
  unfold b1
  rcases h.one i hi with h | h | h <;> rw [h] <;> cases S (eL E i).1 <;> cases S (eL E i).2 <;> decide
/-- No more goes through than edges leave the set. -/
theorem val_le (h : IsFlow N E A B f) (hE : EdgIn N E) (hS : IsCut N A B S) : valF N E A f ≤ crossS S E := by
  rw [val_cut h hE hS]
  exact sumN_le fun i hi => edge_le h hi
/-- Just as many, where no edge has room out of the set. -/
theorem val_eq (h : IsFlow N E A B f) (hE : EdgIn N E) (hS : IsCut N A B S) : valF N E A f = crossS S E ↔ ∀ u v, Room E f 1 u v → S u = true → S v = true := by
  rw [val_cut h hE hS]
  constructor
  · intro e u v ⟨i, hi, hr⟩ hu
    have := sumN_eq (fun i hi => edge_le (S := S) h hi) e i hi
    cases hv : S v
    · exfalso
      rcases hr with ⟨e1, hf⟩ | ⟨e1, hf⟩
      · rw [e1] at this
        simp only [hu, hv] at this
        revert this hf
        rcases h.one i hi with h | h | h <;> rw [h] <;> decide
      · rw [e1] at this
        simp only [hu, hv] at this
        revert this hf
        rcases h.one i hi with h | h | h <;> rw [h] <;> decide
    · rfl
  · intro e
    refine sumN_congr fun i hi => ?_
    cases h1 : S (eL E i).1 <;> cases h2 : S (eL E i).2
    · simp [b1]
    · have : fL f i = -1 := by
        refine Classical.byContradiction fun hn => ?_
        have := e (eL E i).2 (eL E i).1 ⟨i, hi, Or.inr ⟨rfl, hn⟩⟩ h2
        rw [h1] at this
        cases this
      rw [this]; decide
    · have : fL f i = 1 := by
        refine Classical.byContradiction fun hn => ?_
        have := e (eL E i).1 (eL E i).2 ⟨i, hi, Or.inl ⟨rfl, hn⟩⟩ h1
        rw [h2] at this
        cases this
      rw [this]; decide
    · simp [b1]
end
/-- What Max tells of how much goes through: the value, and both least cuts. -/
structure MaxQ (N : Nat) (E : Edg) (A B : VSet) (V : Int) (near far : VSet) : Prop where
  nearC : IsCut N A B near
  farC : IsCut N A B far
  nearV : crossS near E = V
  farV : crossS far E = V
  least : ∀ S, IsCut N A B S → V ≤ crossS S E
  both : ∀ S, IsCut N A B S → crossS S E = V → (∀ v, v < N → near v = true → S v = true) ∧ (∀ v, v < N → S v = true → far v = true)
section
variable {N : Nat} {E : Edg} {A B S near far : VSet} {f : List Int} {way : Int} {v : Nat}
theorem Rch.within {S : VSet} (h : Rch E f way A v) (hE : EdgIn N E) (hA : ∀ v, A v = true → v < N ∧ S v = true) (hc : ∀ u v, Room E f way u v → S u = true → S v = true) : v < N ∧ S v = true := by
  induction h with
  | start h => exact hA _ h
  | step _ hr ih =>
    refine ⟨?_, hc _ _ hr ih.2⟩
    obtain ⟨i, hi, ⟨e, -⟩ | ⟨e, -⟩⟩ := hr
    · have := (hE i hi).2; rw [e] at this; exact this
    · have := (hE i hi).1; rw [e] at this; exact this
/-- A flow by which nothing of the other is reached is one of the greatest. -/
theorem MaxQ.of (h : IsFlow N E A B f) (hE : EdgIn N E) (hA : ∀ v, A v = true → v < N) (hB : ∀ v, B v = true → v < N)
    (hn : ∀ v, v < N → (near v = true ↔ Rch E f 1 A v)) (hf : ∀ v, v < N → (far v = false ↔ Rch E f (-1) B v)) (hd : ∀ v, B v = true → ¬ Rch E f 1 A v) : MaxQ N E A B (valF N E A f) near far := by
  have room_lt : ∀ {w : Int} {u v}, Room E f w u v → u < N ∧ v < N := by
    intro w u v ⟨i, hi, h⟩
    have := hE i hi
    rcases h with ⟨e, -⟩ | ⟨e, -⟩ <;> rw [e] at this
    · exact this
    · exact ⟨this.2, this.1⟩
  have c1 : IsCut N A B near := ⟨fun v hv ha => (hn v hv).2 (.start ha), fun v hv hb => by
    cases h : near v
    · rfl
    · exact absurd ((hn v hv).1 h) (hd v hb)⟩
  -- from where the other is reached
  have tr : ∀ u, Rch E f (-1) B u → ∃ v, B v = true ∧ (Rch E f 1 A u → Rch E f 1 A v) := by
    intro u hu
    induction hu with
    | @start v h => exact ⟨v, h, id⟩
    | @step u v h hr ih =>
      obtain ⟨w, hw, k⟩ := ih
      exact ⟨w, hw, fun hv => k (.step hv (by have := hr.back; rwa [Int.neg_neg] at this))⟩
  have c2 : IsCut N A B far := ⟨fun v hv ha => by
    cases h : far v
    · obtain ⟨w, hw, k⟩ := tr v ((hf v hv).1 h)
      exact absurd (k (.start ha)) (hd w hw)
    · rfl, fun v hv hb => (hf v hv).2 (.start hb)⟩
  refine ⟨c1, c2, ?_, ?_, fun S hS => val_le h hE hS, fun S hS e => ⟨fun v hv hnv => ?_, fun v hv hs => ?_⟩⟩
  · exact ((val_eq h hE c1).2 fun u v hr hu => (hn v (room_lt hr).2).2 (.step ((hn u (room_lt hr).1).1 hu) hr)).symm
  · refine ((val_eq h hE c2).2 fun u v hr hu => ?_).symm
    cases hfv : far v
    · have : far u = false := (hf u (room_lt hr).1).2 (.step ((hf v (room_lt hr).2).1 hfv) hr.back)
      rw [hu] at this
      cases this
    · rfl
  · have hc := (val_eq h hE hS).1 e.symm
    exact (((hn v hv).1 hnv).within (S := S) hE (fun v ha => ⟨hA v ha, hS.has v (hA v ha) ha⟩) hc).2
  · have hc := (val_eq h hE hS).1 e.symm
    cases hfv : far v
    · exfalso
      have : ∀ u, Rch E f (-1) B u → S u = true → False := by
        intro u hu
        induction hu with
        | @start v h => intro hs; rw [hS.none v (hB v h) h] at hs; cases hs
        | @step u v h hr ih => intro hs; exact ih (hc _ _ (by have := hr.back; rwa [Int.neg_neg] at this) hs)
      exact this v ((hf v hv).1 hfv) hs
    · rfl
/-- There is but one answer. -/
theorem MaxQ.uniq {V W : Int} {near' far' : VSet} (h : MaxQ N E A B V near far) (k : MaxQ N E A B W near' far') : V = W ∧ (∀ v, v < N → near v = near' v) ∧ (∀ v, v < N → far v = far' v) := by
  have e : V = W := by
    have h1 := h.least _ k.nearC
    have h2 := k.least _ h.nearC
    rw [k.nearV] at h1
    rw [h.nearV] at h2
    omega
  subst e
  have a := h.both _ k.nearC k.nearV
  have b := k.both _ h.nearC h.nearV
  have c := h.both _ k.farC k.farV
  have d := k.both _ h.farC h.farV
  refine ⟨rfl, fun v hv => ?_, fun v hv => ?_⟩
  · have x := a.1 v hv
    have y := b.1 v hv
    cases h1 : near v <;> cases h2 : near' v <;> simp_all
  · have x := c.2 v hv
    have y := d.2 v hv
    cases h1 : far v <;> cases h2 : far' v <;> simp_all
theorem MaxQ.sub {V : Int} (h : MaxQ N E A B V near far) : ∀ v, v < N → near v = true → far v = true := (h.both _ h.nearC h.nearV).2
end
end Go.Proofs.YthfljimgpcignaaGreatDoor

/-
  Plain mathematics of heaps: keys, each at a cost, the least first. No program stands here.
-/
namespace Go.Proofs.YthfljimgpcignaaGreatDoor

/-- A key, and at what it is in. -/
abbrev It := Nat × Int
/-- Is one taken out ahead of another one? -/
def ahd (a b : It) : Prop := a.2 < b.2 ∨ a.2 = b.2 ∧ a.1 < b.1
theorem ahd_or (a b : It) : ahd a b ∨ ¬ ahd a b := by unfold ahd; omega
def ahdB (a b : It) : Bool := decide (a.2 < b.2 ∨ a.2 = b.2 ∧ a.1 < b.1)
theorem ahdB_true {a b : It} (h : ahd a b) : ahdB a b = true := by unfold ahdB; unfold ahd at h; simpa using h
theorem ahdB_false {a b : It} (h : ¬ ahd a b) : ahdB a b = false := by unfold ahdB; unfold ahd at h; simpa using h
theorem ahd_of {a b : It} (h : ahdB a b = true) : ahd a b := by unfold ahdB at h; unfold ahd; simpa using h
theorem ahd_not {a b : It} (h : ahdB a b = false) : ¬ ahd a b := by unfold ahdB at h; unfold ahd; simpa using h
theorem ahd_asymm {a b : It} (h : ahd a b) : ¬ ahd b a := by unfold ahd at *; omega
theorem nahd_trans {a b c : It} (h : ¬ ahd a b) (k : ¬ ahd b c) : ¬ ahd a c := by unfold ahd at *; omega
theorem nahd_refl (a : It) : ¬ ahd a a := by unfold ahd; omega
theorem ahd_eq {a b : It} (h : ¬ ahd a b) (k : ¬ ahd b a) : a = b := by
  obtain ⟨a1, a2⟩ := a
  obtain ⟨b1, b2⟩ := b
  unfold ahd at *
  simp only at h k
  have e1 : a1 = b1 := by omega
  have e2 : a2 = b2 := by omega
  rw [e1, e2]

/-! ### which keys are in, and at what -/
/-- What is in, with k at v. -/
def upd (m : Nat → Option Int) (k : Nat) (v : Option Int) : Nat → Option Int := fun j => if j = k then v else m j
theorem upd_at (m : Nat → Option Int) (k : Nat) (v : Option Int) : upd m k v k = v := if_pos rfl
theorem upd_ne (m : Nat → Option Int) {k j : Nat} (v : Option Int) (h : j ≠ k) : upd m k v j = m j := if_neg h
theorem upd_same {m : Nat → Option Int} {k : Nat} {v : Option Int} (h : m k = v) : upd m k v = m := by
  funext j
  unfold upd
  split
  · rename_i e; rw [e, h]
  · rfl
/-- How many of the first n keys are in. -/
def cnt (m : Nat → Option Int) : Nat → Nat
  | 0 => 0
  | n + 1 => cnt m n + if (m n).isSome then 1 else 0
theorem cnt_le (m : Nat → Option Int) (n : Nat) : cnt m n ≤ n := by
  induction n with
  | zero => exact Nat.le_refl _
  | succ n ih => unfold cnt; split <;> omega
theorem cnt_upd (m : Nat → Option Int) (k : Nat) (v : Option Int) (n : Nat) : cnt (upd m k v) n + (if k < n ∧ (m k).isSome then 1 else 0) = cnt m n + (if k < n ∧ v.isSome then 1 else 0) := by
  induction n with
  | zero => simp [cnt]
  | succ n ih =>
    unfold cnt
    by_cases h : n = k
    · subst h
      rw [upd_at]
      rw [if_neg (by omega), if_neg (by omega)] at ih
      have e : (n < n + 1) = True := by simp
      simp only [e, true_and]
      omega
    · rw [upd_ne _ _ h]
      have e : (k < n + 1) = (k < n) := by rw [eq_iff_iff]; omega
      simp only [e]
      omega
theorem cnt_put {m : Nat → Option Int} {k n : Nat} {c : Int} (hk : k < n) (h : m k = none) : cnt (upd m k (some c)) n = cnt m n + 1 := by
  have := cnt_upd m k (some c) n
  simp [h, hk] at this
  exact this
theorem cnt_low {m : Nat → Option Int} {k n : Nat} {c d : Int} (h : m k = some d) : cnt (upd m k (some c)) n = cnt m n := by
  have := cnt_upd m k (some c) n
  simp [h] at this
  exact this
theorem cnt_pop {m : Nat → Option Int} {k n : Nat} {c : Int} (hk : k < n) (h : m k = some c) : cnt (upd m k none) n + 1 = cnt m n := by
  have := cnt_upd m k none n
  simp [h, hk] at this
  exact this
theorem cnt_none (n : Nat) : cnt (fun _ => none) n = 0 := by
  induction n with
  | zero => rfl
  | succ n ih => unfold cnt; rw [ih]; rfl
theorem cnt_pos {m : Nat → Option Int} {k n : Nat} {c : Int} (hk : k < n) (h : m k = some c) : 0 < cnt m n := by
  have := cnt_pop hk h
  omega
theorem cnt_zero {m : Nat → Option Int} {n : Nat} (h : cnt m n = 0) : ∀ k, k < n → m k = none := by
  intro k hk
  cases e : m k with
  | none => rfl
  | some c => have := cnt_pos hk e; omega

/-- The least of the first n keys: how the document goes on from those ahead. -/
def lstStep (b : Option It) (k : Nat) (v : Option Int) : Option It :=
  match v with
  | none => b
  | some c => match b with
    | none => some (k, c)
    | some x => if c < x.2 then some (k, c) else some x
def lst (m : Nat → Option Int) : Nat → Option It
  | 0 => none
  | n + 1 => lstStep (lst m n) n (m n)
/-- x is the least. -/
def Lst (m : Nat → Option Int) (n : Nat) (x : It) : Prop := x.1 < n ∧ m x.1 = some x.2 ∧ ∀ k c, k < n → m k = some c → ¬ ahd (k, c) x
theorem lst_spec (m : Nat → Option Int) (n : Nat) : (lst m n = none ∧ ∀ k, k < n → m k = none) ∨ ∃ x, lst m n = some x ∧ Lst m n x := by
  induction n with
  | zero => exact Or.inl ⟨rfl, fun k h => by omega⟩
  | succ n ih =>
    show (lstStep (lst m n) n (m n) = none ∧ _) ∨ ∃ x, lstStep (lst m n) n (m n) = some x ∧ _
    cases e : m n with
    | none =>
      rcases ih with ⟨h1, h2⟩ | ⟨x, h1, h2, h3, h4⟩
      · refine Or.inl ⟨by rw [h1]; rfl, fun k hk => ?_⟩
        by_cases hn : k = n
        · rw [hn, e]
        · exact h2 k (by omega)
      · refine Or.inr ⟨x, by rw [h1]; rfl, by omega, h3, fun k c hk hc => ?_⟩
        by_cases hn : k = n
        · rw [hn, e] at hc; cases hc
        · exact h4 k c (by omega) hc
    | some c =>
      rcases ih with ⟨h1, h2⟩ | ⟨x, h1, h2, h3, h4⟩
      · refine Or.inr ⟨(n, c), by rw [h1]; rfl, by show n < n + 1; omega, e, fun k d hk hd => ?_⟩
        by_cases hn : k = n
        · subst hn
          rw [e] at hd
          injection hd with hd
          subst hd
          exact nahd_refl _
        · rw [h2 k (by omega)] at hd; cases hd
      · by_cases hlt : c < x.2
        · refine Or.inr ⟨(n, c), by rw [h1]; show (if c < x.2 then _ else _) = _; rw [if_pos hlt], by show n < n + 1; omega, e, fun k d hk hd => ?_⟩
          by_cases hn : k = n
          · subst hn
            rw [e] at hd
            injection hd with hd
            subst hd
            exact nahd_refl _
          · exact nahd_trans (h4 k d (by omega) hd) (by unfold ahd; simp only; omega)
        · refine Or.inr ⟨x, by rw [h1]; show (if c < x.2 then _ else _) = _; rw [if_neg hlt], by omega, h3, fun k d hk hd => ?_⟩
          by_cases hn : k = n
          · subst hn
            rw [e] at hd
            injection hd with hd
            subst hd
            unfold ahd
            simp only
            omega
          · exact h4 k d (by omega) hd
theorem Lst.uniq {m : Nat → Option Int} {n : Nat} {x y : It} (hx : Lst m n x) (hy : Lst m n y) : x = y :=
  ahd_eq (hy.2.2 x.1 x.2 hx.1 hx.2.1) (hx.2.2 y.1 y.2 hy.1 hy.2.1)
theorem lst_eq {m : Nat → Option Int} {n : Nat} {x : It} (hx : Lst m n x) : lst m n = some x := by
  rcases lst_spec m n with ⟨_, h2⟩ | ⟨y, h1, h2⟩
  · have := h2 x.1 hx.1
    rw [hx.2.1] at this
    cases this
  · rw [h1, hx.uniq h2]
theorem lst_of {m : Nat → Option Int} {n : Nat} {x : It} (h : lst m n = some x) : Lst m n x := by
  rcases lst_spec m n with ⟨h1, _⟩ | ⟨y, h1, h2⟩
  · rw [h1] at h; cases h
  · rw [h1] at h; injection h with h; subst h; exact h2
theorem lst_zero {m : Nat → Option Int} {n : Nat} (h : cnt m n = 0) : lst m n = none := by
  rcases lst_spec m n with ⟨h1, _⟩ | ⟨y, h1, h2⟩
  · exact h1
  · have := cnt_pos h2.1 h2.2.1; omega
theorem lst_pos {m : Nat → Option Int} {n : Nat} (h : 0 < cnt m n) : ∃ x, lst m n = some x := by
  rcases lst_spec m n with ⟨h1, h2⟩ | ⟨y, h1, h2⟩
  · exfalso
    have : cnt m n = 0 := by
      clear h h1
      induction n with
      | zero => rfl
      | succ n ih => unfold cnt; rw [ih (fun k hk => h2 k (by omega)), h2 n (by omega)]; rfl
    omega
  · exact ⟨y, h1⟩

/-! ### what each call answers -/
def putB (N : Nat) (m : Nat → Option Int) (k c : Int) : Bool :=
  if k < 0 ∨ N ≤ k then false else match m k.toNat with
    | none => true
    | some d => decide (hld c < d)
def putM (N : Nat) (m : Nat → Option Int) (k c : Int) : Nat → Option Int := if putB N m k c = true then upd m k.toNat (some (hld c)) else m
def popV (N : Nat) (m : Nat → Option Int) : Int × Int × Bool :=
  match lst m N with
  | none => (0, 0, false)
  | some x => (x.1, x.2, true)
def popM (N : Nat) (m : Nat → Option Int) : Nat → Option Int :=
  match lst m N with
  | none => m
  | some x => upd m x.1 none
def costV (N : Nat) (m : Nat → Option Int) (k : Int) : Int × Bool :=
  if k < 0 ∨ N ≤ k then (0, false) else match m k.toNat with
    | none => (0, false)
    | some d => (d, true)
/-- How many keys there are. -/
def keysN (n : Int) : Nat := if n < 0 then 0 else if 16384 < n then 16384 else n.toNat
theorem keysN_le (n : Int) : keysN n ≤ 16384 := by unfold keysN; split <;> (try split) <;> omega

/-! ### the row and the places -/
/-- Each that is in stands in the row, at its place. -/
structure Con (N : Nat) (R : List It) (P : List Int) (m : Nat → Option Int) : Prop where
  pl : P.length = N
  rl : R.length = cnt m N
  row : ∀ (i : Nat) (x : It), R[i]? = some x → x.1 < N ∧ P[x.1]? = some (i : Int) ∧ m x.1 = some x.2
  back : ∀ (k : Nat) (c : Int), m k = some c → ∃ i : Nat, R[i]? = some (k, c)
  off : ∀ k, k < N → m k = none → P[k]? = some (-1)
  cost : ∀ (k : Nat) (c : Int), m k = some c → 0 ≤ c ∧ c ≤ 1152921504606846976
theorem Con.inj {N : Nat} {R : List It} {P : List Int} {m : Nat → Option Int} (h : Con N R P m) {i j : Nat} {x y : It} (hi : R[i]? = some x) (hj : R[j]? = some y) (e : x.1 = y.1) : i = j := by
  have a := (h.row i x hi).2.1
  have b := (h.row j y hj).2.1
  rw [e, b] at a
  injection a with a
  omega
theorem Con.len {N : Nat} {R : List It} {P : List Int} {m : Nat → Option Int} (h : Con N R P m) : R.length ≤ N := by
  rw [h.rl]; exact cnt_le _ _
theorem lt_of_get {α : Type} {l : List α} {i : Nat} {x : α} (h : l[i]? = some x) : i < l.length := (List.getElem?_eq_some_iff.1 h).1
theorem get_set_at {α : Type} {l : List α} {i : Nat} {x : α} (h : i < l.length) : (l.set i x)[i]? = some x := by
  rw [List.getElem?_set, if_pos rfl, if_pos h]
theorem get_set_ne {α : Type} {l : List α} {i j : Nat} {x : α} (h : j ≠ i) : (l.set i x)[j]? = l[j]? := by
  rw [List.getElem?_set, if_neg (fun e => h e.symm)]
theorem set_get {α : Type} {l : List α} {i : Nat} {x : α} (h : l[i]? = some x) : l.set i x = l := by
  apply List.ext_getElem?
  intro j
  by_cases e : j = i
  · subst e; rw [get_set_at (lt_of_get h), h]
  · exact get_set_ne e
theorem Con.swap {N : Nat} {R : List It} {P : List Int} {m : Nat → Option Int} (h : Con N R P m) {i j : Nat} {x y : It} (hi : R[i]? = some x) (hj : R[j]? = some y) (hne : i ≠ j) :
    Con N ((R.set i y).set j x) ((P.set y.1 i).set x.1 j) m := by
  have li := lt_of_get hi
  have lj := lt_of_get hj
  have hxy : x.1 ≠ y.1 := fun e => hne (h.inj hi hj e)
  obtain ⟨x1, x2, x3⟩ := h.row i x hi
  obtain ⟨y1, y2, y3⟩ := h.row j y hj
  refine ⟨by rw [List.length_set, List.length_set, h.pl], by rw [List.length_set, List.length_set, h.rl], ?_, ?_, ?_, h.cost⟩
  · intro k z hz
    by_cases e1 : k = j
    · subst e1
      rw [get_set_at (by rw [List.length_set]; exact lj)] at hz
      injection hz with hz
      subst hz
      exact ⟨x1, get_set_at (by rw [List.length_set, h.pl]; exact x1), x3⟩
    · rw [get_set_ne e1] at hz
      by_cases e2 : k = i
      · subst e2
        rw [get_set_at li] at hz
        injection hz with hz
        subst hz
        exact ⟨y1, by rw [get_set_ne (fun e => hxy e.symm)]; exact get_set_at (by rw [h.pl]; exact y1), y3⟩
      · rw [get_set_ne e2] at hz
        obtain ⟨z1, z2, z3⟩ := h.row k z hz
        exact ⟨z1, by rw [get_set_ne (fun e => e2 (h.inj hz hi e)), get_set_ne (fun e => e1 (h.inj hz hj e))]; exact z2, z3⟩
  · intro k c hk
    obtain ⟨l, hl⟩ := h.back k c hk
    by_cases e1 : l = i
    · subst e1
      rw [hi] at hl
      exact ⟨j, by rw [get_set_at (by rw [List.length_set]; exact lj)]; exact hl⟩
    · by_cases e2 : l = j
      · subst e2
        rw [hj] at hl
        exact ⟨i, by rw [get_set_ne hne, get_set_at li]; exact hl⟩
      · exact ⟨l, by rw [get_set_ne e2, get_set_ne e1]; exact hl⟩
  · intro k hk hm
    have a : k ≠ x.1 := fun e => by rw [e, x3] at hm; cases hm
    have b : k ≠ y.1 := fun e => by rw [e, y3] at hm; cases hm
    rw [get_set_ne a, get_set_ne b]
    exact h.off k hk hm

/-- A heap: none goes ahead of the one above it. -/
structure Hpp (N : Nat) (R : List It) (P : List Int) (m : Nat → Option Int) : Prop where
  con : Con N R P m
  ord : ∀ (i : Nat) (x y : It), 0 < i → R[i]? = some x → R[(i - 1) / 2]? = some y → ¬ ahd x y
theorem Hpp.top {N : Nat} {R : List It} {P : List Int} {m : Nat → Option Int} (h : Hpp N R P m) {r : It} (hr : R[0]? = some r) : ∀ (i : Nat) (x : It), R[i]? = some x → ¬ ahd x r := by
  intro i
  induction i using Nat.strongRecOn with
  | _ i ih =>
    intro x hx
    by_cases h0 : i = 0
    · subst h0
      rw [hr] at hx
      injection hx with hx
      subst hx
      exact nahd_refl _
    · have lx := lt_of_get hx
      have lp : (i - 1) / 2 < R.length := by omega
      have hp : R[(i - 1) / 2]? = some R[(i - 1) / 2] := List.getElem?_eq_getElem lp
      exact nahd_trans (h.ord i x _ (by omega) hx hp) (ih _ (by omega) _ hp)
theorem Hpp.least {N : Nat} {R : List It} {P : List Int} {m : Nat → Option Int} (h : Hpp N R P m) {r : It} (hr : R[0]? = some r) : lst m N = some r := by
  obtain ⟨r1, r2, r3⟩ := h.con.row 0 r hr
  refine lst_eq ⟨r1, r3, fun k c hk hc => ?_⟩
  obtain ⟨i, hi⟩ := h.con.back k c hc
  exact h.top hr i _ hi

/-- On the way up: the place at has it, which may go ahead of the one above. -/
structure Up (N : Nat) (R : List It) (P : List Int) (m : Nat → Option Int) (at' : Nat) (it : It) : Prop where
  len : at' < R.length
  con : Con N (R.set at' it) (P.set it.1 at') m
  ord : ∀ (i : Nat) (x y : It), 0 < i → i ≠ at' → (R.set at' it)[i]? = some x → (R.set at' it)[(i - 1) / 2]? = some y → ¬ ahd x y
  gr : 0 < at' → ∀ (i : Nat) (x y : It), 0 < i → (i - 1) / 2 = at' → (R.set at' it)[i]? = some x → (R.set at' it)[(at' - 1) / 2]? = some y → ¬ ahd x y
section
variable {N : Nat} {R : List It} {P : List Int} {m : Nat → Option Int} {p : Nat} {it U : It}
theorem Up.at (h : Up N R P m p it) : (R.set p it)[p]? = some it := get_set_at h.len
theorem Up.done (h : Up N R P m p it) (hd : p = 0 ∨ ∃ U, R[(p - 1) / 2]? = some U ∧ ¬ ahd it U) : Hpp N (R.set p it) (P.set it.1 p) m := by
  refine ⟨h.con, fun i x y h0 hx hy => ?_⟩
  by_cases e : i = p
  · subst e
    rcases hd with hd | ⟨U, hU, hn⟩
    · omega
    · rw [h.at] at hx
      rw [get_set_ne (by omega), hU] at hy
      injection hx with hx
      injection hy with hy
      subst hx; subst hy
      exact hn
  · exact h.ord i x y h0 e hx hy
theorem swap_rows (R : List It) (P : List Int) (p q : Nat) (it U : It) : (P.set U.1 p).set it.1 q = ((P.set it.1 p).set U.1 p).set it.1 q ∧ (R.set p U).set q it = ((R.set p it).set p U).set q it := by
  constructor
  · apply List.ext_getElem?
    intro j
    by_cases e : j = it.1
    · subst e
      simp [List.getElem?_set]
    · rw [get_set_ne e, get_set_ne e]
      by_cases e2 : j = U.1
      · subst e2; simp [List.getElem?_set]
      · rw [get_set_ne e2, get_set_ne e2, get_set_ne e]
  · rw [List.set_set]
theorem Up.step (h : Up N R P m p it) (h0 : 0 < p) (hU : R[(p - 1) / 2]? = some U) (ha : ahd it U) : Up N (R.set p U) (P.set U.1 p) m ((p - 1) / 2) it := by
  have hqp : (p - 1) / 2 ≠ p := by omega
  obtain ⟨q, hq⟩ : ∃ q, q = (p - 1) / 2 := ⟨_, rfl⟩
  rw [← hq] at hU hqp ⊢
  obtain ⟨eP, eR⟩ := swap_rows R P p q it U
  have hUs : (R.set p it)[q]? = some U := by rw [get_set_ne hqp]; exact hU
  have hc := h.con.swap h.at hUs (fun e => hqp e.symm)
  have lq := lt_of_get hU
  rw [← eP, ← eR] at hc
  have a1 : ((R.set p U).set q it)[q]? = some it := get_set_at (by rw [List.length_set]; exact lq)
  have a2 : ((R.set p U).set q it)[p]? = some U := by rw [get_set_ne (fun e => hqp e.symm)]; exact get_set_at h.len
  have a3 : ∀ j, j ≠ p → j ≠ q → ((R.set p U).set q it)[j]? = (R.set p it)[j]? := fun j h1 h2 => by rw [get_set_ne h2, get_set_ne h1, get_set_ne h1]
  refine ⟨by rw [List.length_set]; exact lq, hc, ?_, ?_⟩
  · intro i x y hi hne hx hy
    by_cases e1 : i = p
    · subst e1
      rw [a2] at hx
      rw [← hq, a1] at hy
      injection hx with hx
      injection hy with hy
      subst hx; subst hy
      exact ahd_asymm ha
    · rw [a3 i e1 hne] at hx
      by_cases e2 : (i - 1) / 2 = p
      · rw [e2, a2] at hy
        injection hy with hy
        subst hy
        exact h.gr h0 i x U hi e2 hx (by rw [← hq]; exact hUs)
      · by_cases e3 : (i - 1) / 2 = q
        · rw [e3, a1] at hy
          injection hy with hy
          subst hy
          exact nahd_trans (h.ord i x U hi e1 hx (by rw [e3]; exact hUs)) (ahd_asymm ha)
        · rw [a3 _ e2 e3] at hy
          exact h.ord i x y hi e1 hx hy
  · intro hq0 i x y hi hp hx hy
    have e4 : (q - 1) / 2 ≠ p := by omega
    have e5 : (q - 1) / 2 ≠ q := by omega
    rw [a3 _ e4 e5] at hy
    have hUy := h.ord q U y hq0 hqp hUs hy
    by_cases e1 : i = p
    · subst e1
      rw [a2] at hx
      injection hx with hx
      subst hx
      exact hUy
    · rw [a3 i e1 (by omega)] at hx
      exact nahd_trans (h.ord i x U hi e1 hx (by rw [hp]; exact hUs)) hUy
end

/-- On the way down: the place at has it, ahead of which some below may go. -/
structure Down (N : Nat) (R : List It) (P : List Int) (m : Nat → Option Int) (p : Nat) (it : It) : Prop where
  len : p < R.length
  con : Con N (R.set p it) (P.set it.1 p) m
  ord : ∀ (i : Nat) (x y : It), 0 < i → (i - 1) / 2 ≠ p → (R.set p it)[i]? = some x → (R.set p it)[(i - 1) / 2]? = some y → ¬ ahd x y
  gr : 0 < p → ∀ (i : Nat) (x y : It), 0 < i → (i - 1) / 2 = p → (R.set p it)[i]? = some x → (R.set p it)[(p - 1) / 2]? = some y → ¬ ahd x y
section
variable {N : Nat} {R : List It} {P : List Int} {m : Nat → Option Int} {p q : Nat} {it D : It}
theorem Down.at (h : Down N R P m p it) : (R.set p it)[p]? = some it := get_set_at h.len
/-- What is below p goes behind it. -/
theorem Down.done (h : Down N R P m p it) (hd : ∀ (i : Nat) (x : It), 0 < i → (i - 1) / 2 = p → R[i]? = some x → ¬ ahd x it) : Hpp N (R.set p it) (P.set it.1 p) m := by
  refine ⟨h.con, fun i x y h0 hx hy => ?_⟩
  by_cases e : (i - 1) / 2 = p
  · rw [e, h.at] at hy
    injection hy with hy
    subst hy
    rw [get_set_ne (by omega)] at hx
    exact hd i x h0 e hx
  · exact h.ord i x y h0 e hx hy
theorem Down.step (h : Down N R P m p it) (hq : (q - 1) / 2 = p) (hq0 : 0 < q) (hD : R[q]? = some D) (ha : ahd D it) (hm : ∀ (i : Nat) (x : It), 0 < i → (i - 1) / 2 = p → R[i]? = some x → ¬ ahd x D) : Down N (R.set p D) (P.set D.1 p) m q it := by
  have hqp : q ≠ p := by omega
  obtain ⟨eP, eR⟩ := swap_rows R P p q it D
  have hDs : (R.set p it)[q]? = some D := by rw [get_set_ne hqp]; exact hD
  have hc := h.con.swap h.at hDs (fun e => hqp e.symm)
  have lq := lt_of_get hD
  rw [← eP, ← eR] at hc
  have a1 : ((R.set p D).set q it)[q]? = some it := get_set_at (by rw [List.length_set]; exact lq)
  have a2 : ((R.set p D).set q it)[p]? = some D := by rw [get_set_ne (fun e => hqp e.symm)]; exact get_set_at h.len
  have a3 : ∀ j, j ≠ p → j ≠ q → ((R.set p D).set q it)[j]? = (R.set p it)[j]? := fun j h1 h2 => by rw [get_set_ne h2, get_set_ne h1, get_set_ne h1]
  refine ⟨by rw [List.length_set]; exact lq, hc, ?_, ?_⟩
  · intro i x y hi hne hx hy
    by_cases e1 : i = p
    · subst e1
      have e4 : (i - 1) / 2 ≠ i := by omega
      rw [a2] at hx
      rw [a3 _ e4 hne] at hy
      injection hx with hx
      subst hx
      exact h.gr hi q D y hq0 hq hDs hy
    · by_cases e2 : (i - 1) / 2 = p
      · rw [e2, a2] at hy
        injection hy with hy
        subst hy
        by_cases e3 : i = q
        · subst e3
          rw [a1] at hx
          injection hx with hx
          subst hx
          exact ahd_asymm ha
        · rw [a3 i e1 e3, get_set_ne e1] at hx
          exact hm i x hi e2 hx
      · have e3 : i ≠ q := fun e => e2 (by rw [e]; exact hq)
        rw [a3 i e1 e3] at hx
        rw [a3 _ e2 hne] at hy
        exact h.ord i x y hi e2 hx hy
  · intro _ i x y hi hp hx hy
    rw [hq, a2] at hy
    injection hy with hy
    subst hy
    rw [a3 i (by omega) (by omega)] at hx
    exact h.ord i x D hi (by omega) hx (by rw [hp]; exact hDs)
end

/-! ### where the ways begin -/
section
variable {N : Nat} {R : List It} {P : List Int} {m : Nat → Option Int} {k : Nat} {c d : Int}
theorem get_snoc {α : Type} (l : List α) (a : α) (i : Nat) (x : α) (h : (l ++ [a])[i]? = some x) : (i < l.length ∧ l[i]? = some x) ∨ (i = l.length ∧ x = a) := by
  by_cases e : i < l.length
  · rw [List.getElem?_append_left e] at h; exact Or.inl ⟨e, h⟩
  · rw [List.getElem?_append_right (by omega)] at h
    by_cases e2 : i - l.length = 0
    · rw [e2] at h
      simp at h
      exact Or.inr ⟨by omega, h.symm⟩
    · rw [List.getElem?_eq_none (by simp; omega)] at h
      cases h
/-- A key that was not in, at the row's end. -/
theorem Hpp.new (h : Hpp N R P m) (hk : k < N) (hm : m k = none) (c0 : 0 ≤ c) (c1 : c ≤ 1152921504606846976) : Up N (R ++ [(k, c)]) P (upd m k (some c)) R.length (k, c) := by
  have e : (R ++ [(k, c)]).set R.length (k, c) = R ++ [(k, c)] := set_get (by simp)
  have hne : ∀ (i : Nat) (x : It), R[i]? = some x → x.1 ≠ k := fun i x hx e => by
    have := (h.con.row i x hx).2.2
    rw [e, hm] at this
    cases this
  refine ⟨by simp, ?_, ?_, ?_⟩
  · rw [e]
    refine ⟨by rw [List.length_set, h.con.pl], by rw [List.length_append, cnt_put hk hm, h.con.rl]; rfl, ?_, ?_, ?_, ?_⟩
    · intro i x hx
      rcases get_snoc _ _ _ _ hx with ⟨h1, h2⟩ | ⟨rfl, rfl⟩
      · obtain ⟨a1, a2, a3⟩ := h.con.row i x h2
        exact ⟨a1, by rw [get_set_ne (hne i x h2)]; exact a2, by rw [upd_ne _ _ (hne i x h2)]; exact a3⟩
      · exact ⟨hk, get_set_at (by rw [h.con.pl]; exact hk), upd_at _ _ _⟩
    · intro j b hj
      by_cases ej : j = k
      · subst ej
        rw [upd_at] at hj
        injection hj with hj
        subst hj
        exact ⟨R.length, by simp⟩
      · rw [upd_ne _ _ ej] at hj
        obtain ⟨i, hi⟩ := h.con.back j b hj
        exact ⟨i, by rw [List.getElem?_append_left (lt_of_get hi)]; exact hi⟩
    · intro j hj hmj
      by_cases ej : j = k
      · subst ej; rw [upd_at] at hmj; cases hmj
      · rw [upd_ne _ _ ej] at hmj
        rw [get_set_ne (by exact ej)]
        exact h.con.off j hj hmj
    · intro j b hj
      by_cases ej : j = k
      · subst ej
        rw [upd_at] at hj
        injection hj with hj
        subst hj
        exact ⟨c0, c1⟩
      · rw [upd_ne _ _ ej] at hj
        exact h.con.cost j b hj
  · rw [e]
    intro i x y hi hne' hx hy
    rcases get_snoc _ _ _ _ hx with ⟨h1, h2⟩ | ⟨h1, -⟩
    · rcases get_snoc _ _ _ _ hy with ⟨h3, h4⟩ | ⟨h3, -⟩
      · exact h.ord i x y hi h2 h4
      · omega
    · exact absurd h1 hne'
  · rw [e]
    intro _ i x y hi hp hx hy
    rcases get_snoc _ _ _ _ hx with ⟨h1, h2⟩ | ⟨h1, -⟩ <;> omega
/-- A key that is in at more. -/
theorem Hpp.low (h : Hpp N R P m) (hk : k < N) (hm : m k = some d) (hlt : c < d) (c0 : 0 ≤ c) : ∃ i : Nat, P[k]? = some (i : Int) ∧ R[i]? = some (k, d) ∧ Up N R P (upd m k (some c)) i (k, c) := by
  obtain ⟨p, hp⟩ := h.con.back k d hm
  obtain ⟨-, hP, -⟩ := h.con.row p _ hp
  have hd := h.con.cost k d hm
  have lp := lt_of_get hp
  have hne : ∀ (i : Nat) (x : It), R[i]? = some x → i ≠ p → x.1 ≠ k := fun i x hx e e' => e (h.con.inj hx hp e')
  refine ⟨p, hP, hp, lp, ?_, ?_, ?_⟩
  · rw [show P.set k (p : Int) = P from set_get hP]
    refine ⟨h.con.pl, by rw [List.length_set, cnt_low hm, h.con.rl], ?_, ?_, ?_, ?_⟩
    · intro i x hx
      by_cases e : i = p
      · subst e
        rw [get_set_at lp] at hx
        injection hx with hx
        subst hx
        exact ⟨hk, hP, upd_at _ _ _⟩
      · rw [get_set_ne e] at hx
        obtain ⟨a1, a2, a3⟩ := h.con.row i x hx
        exact ⟨a1, a2, by rw [upd_ne _ _ (hne i x hx e)]; exact a3⟩
    · intro j b hj
      by_cases ej : j = k
      · subst ej
        rw [upd_at] at hj
        injection hj with hj
        subst hj
        exact ⟨p, get_set_at lp⟩
      · rw [upd_ne _ _ ej] at hj
        obtain ⟨i, hi⟩ := h.con.back j b hj
        have : i ≠ p := fun e => by
          subst e
          rw [hp] at hi
          injection hi with hi
          injection hi with hi
          exact ej hi.symm
        exact ⟨i, by rw [get_set_ne this]; exact hi⟩
    · intro j hj hmj
      by_cases ej : j = k
      · subst ej; rw [upd_at] at hmj; cases hmj
      · rw [upd_ne _ _ ej] at hmj
        exact h.con.off j hj hmj
    · intro j b hj
      by_cases ej : j = k
      · subst ej
        rw [upd_at] at hj
        injection hj with hj
        subst hj
        exact ⟨c0, by omega⟩
      · rw [upd_ne _ _ ej] at hj
        exact h.con.cost j b hj
  · intro i x y hi hne' hx hy
    rw [get_set_ne hne'] at hx
    by_cases e : (i - 1) / 2 = p
    · rw [e, get_set_at lp] at hy
      injection hy with hy
      subst hy
      exact nahd_trans (h.ord i x _ hi hx (by rw [e]; exact hp)) (by unfold ahd; simp only; omega)
    · rw [get_set_ne e] at hy
      exact h.ord i x y hi hx hy
  · intro hp0 i x y hi hpar hx hy
    rw [get_set_ne (by omega)] at hx hy
    exact nahd_trans (h.ord i x _ hi hx (by rw [hpar]; exact hp)) (h.ord p _ y hp0 hp hy)
/-- The least one is taken out, and was alone. -/
theorem Hpp.pop1 (h : Hpp N R P m) {r : It} (hr : R[0]? = some r) (hl : R.length = 1) : Hpp N [] (P.set r.1 (-1)) (upd m r.1 none) := by
  obtain ⟨r1, r2, r3⟩ := h.con.row 0 r hr
  have hc := cnt_pop r1 r3
  have hrl := h.con.rl
  refine ⟨⟨by rw [List.length_set, h.con.pl], by rw [List.length_nil]; omega, fun i x hx => by simp at hx, ?_, ?_, ?_⟩, fun i x y _ hx => by simp at hx⟩
  · intro k c hk
    exfalso
    by_cases e : k = r.1
    · subst e; rw [upd_at] at hk; cases hk
    · rw [upd_ne _ _ e] at hk
      obtain ⟨i, hi⟩ := h.con.back k c hk
      have := lt_of_get hi
      have e0 : i = 0 := by omega
      subst e0
      rw [hr] at hi
      injection hi with hi
      exact e (by rw [hi])
  · intro k hk hm
    by_cases e : k = r.1
    · subst e; exact get_set_at (by rw [h.con.pl]; exact hk)
    · rw [upd_ne _ _ e] at hm
      rw [get_set_ne e]
      exact h.con.off k hk hm
  · intro k c hk
    by_cases e : k = r.1
    · subst e; rw [upd_at] at hk; cases hk
    · rw [upd_ne _ _ e] at hk
      exact h.con.cost k c hk
/-- The least one is taken out; the last one goes to its place. -/
theorem Hpp.pop (h : Hpp N R P m) {r l : It} {n : Nat} (hr : R[0]? = some r) (hn : R.length = n + 1) (hn0 : 0 < n) (hl : R[n]? = some l) : Down N (R.take n) (P.set r.1 (-1)) (upd m r.1 none) 0 l := by
  obtain ⟨r1, r2, r3⟩ := h.con.row 0 r hr
  obtain ⟨l1, l2, l3⟩ := h.con.row n l hl
  have hc := cnt_pop r1 r3
  have hrl := h.con.rl
  have hlr : l.1 ≠ r.1 := fun e => by have := h.con.inj hl hr e; omega
  have hlen : (R.take n).length = n := by rw [List.length_take]; omega
  have hg : ∀ (i : Nat) (x : It), i ≠ 0 → ((R.take n).set 0 l)[i]? = some x → i < n ∧ R[i]? = some x := fun i x h0 hx => by
    rw [get_set_ne h0] at hx
    have := lt_of_get hx
    rw [hlen] at this
    exact ⟨this, by rw [List.getElem?_take_of_lt this] at hx; exact hx⟩
  have h0 : ((R.take n).set 0 l)[0]? = some l := get_set_at (by rw [hlen]; exact hn0)
  have hne : ∀ (i : Nat) (x : It), i ≠ 0 → R[i]? = some x → x.1 ≠ r.1 := fun i x h1 h2 e => h1 (h.con.inj h2 hr e)
  refine ⟨by rw [hlen]; exact hn0, ?_, ?_, fun e => absurd e (by omega)⟩
  · refine ⟨by rw [List.length_set, List.length_set, h.con.pl], by rw [List.length_set, hlen]; omega, ?_, ?_, ?_, ?_⟩
    · intro i x hx
      by_cases e : i = 0
      · subst e
        rw [h0] at hx
        injection hx with hx
        subst hx
        exact ⟨l1, get_set_at (by rw [List.length_set, h.con.pl]; exact l1), by rw [upd_ne _ _ hlr]; exact l3⟩
      · obtain ⟨hlt, hx⟩ := hg i x e hx
        obtain ⟨a1, a2, a3⟩ := h.con.row i x hx
        have hxl : x.1 ≠ l.1 := fun e' => by have := h.con.inj hx hl e'; omega
        exact ⟨a1, by rw [get_set_ne hxl, get_set_ne (hne i x e hx)]; exact a2, by rw [upd_ne _ _ (hne i x e hx)]; exact a3⟩
    · intro k c hk
      by_cases e : k = r.1
      · subst e; rw [upd_at] at hk; cases hk
      · rw [upd_ne _ _ e] at hk
        obtain ⟨i, hi⟩ := h.con.back k c hk
        have hi0 : i ≠ 0 := fun e0 => by
          subst e0
          rw [hr] at hi
          injection hi with hi
          exact e (by rw [hi])
        by_cases ei : i = n
        · subst ei
          rw [hl] at hi
          exact ⟨0, by rw [h0]; exact hi⟩
        · have := lt_of_get hi
          exact ⟨i, by rw [get_set_ne hi0, List.getElem?_take_of_lt (by omega)]; exact hi⟩
    · intro k hk hm
      have hkl : k ≠ l.1 := fun e => by rw [e, upd_ne _ _ hlr, l3] at hm; cases hm
      rw [get_set_ne hkl]
      by_cases e : k = r.1
      · subst e; exact get_set_at (by rw [h.con.pl]; exact hk)
      · rw [upd_ne _ _ e] at hm
        rw [get_set_ne e]
        exact h.con.off k hk hm
    · intro k c hk
      by_cases e : k = r.1
      · subst e; rw [upd_at] at hk; cases hk
      · rw [upd_ne _ _ e] at hk
        exact h.con.cost k c hk
  · intro i x y hi hp hx hy
    obtain ⟨_, hx⟩ := hg i x (by omega) hx
    obtain ⟨_, hy⟩ := hg _ y hp hy
    exact h.ord i x y hi hx hy
theorem Hpp.empty (N : Nat) : Hpp N [] (List.replicate N (-1)) (fun _ => none) := by
  refine ⟨⟨List.length_replicate, (cnt_none N).symm, ?_, ?_, ?_, ?_⟩, ?_⟩
  · intro i x hx; simp at hx
  · intro k c hk; cases hk
  · intro k hk _; rw [List.getElem?_replicate, if_pos hk]
  · intro k c hk; cases hk
  · intro i x y _ hx; simp at hx
end

/-! ### taken all out -/
/-- The places, with those of the row's first n at none. -/
def clr (R : List It) (P : List Int) : List Int := R.foldl (fun Q x => Q.set x.1 (-1)) P
theorem clr_snoc (R : List It) (P : List Int) (x : It) : clr (R ++ [x]) P = (clr R P).set x.1 (-1) := by unfold clr; rw [List.foldl_append]; rfl
theorem clr_length (R : List It) (P : List Int) : (clr R P).length = P.length := by
  unfold clr
  induction R generalizing P with
  | nil => rfl
  | cons x r ih => rw [List.foldl_cons, ih, List.length_set]
theorem clr_get (R : List It) (P : List Int) (k : Nat) (hk : k < P.length) : (clr R P)[k]? = some (-1) ∨ ((clr R P)[k]? = P[k]? ∧ ∀ x ∈ R, x.1 ≠ k) := by
  unfold clr
  induction R generalizing P with
  | nil => exact Or.inr ⟨rfl, fun x h => by cases h⟩
  | cons x r ih =>
    rw [List.foldl_cons]
    rcases ih (P.set x.1 (-1)) (by rw [List.length_set]; exact hk) with h | ⟨h1, h2⟩
    · exact Or.inl h
    · by_cases e : k = x.1
      · subst e
        exact Or.inl (h1.trans (get_set_at hk))
      · refine Or.inr ⟨h1.trans (get_set_ne e), fun y hy => ?_⟩
        rcases List.mem_cons.1 hy with rfl | hy
        · exact fun e' => e e'.symm
        · exact h2 y hy
theorem Hpp.clear {N : Nat} {R : List It} {P : List Int} {m : Nat → Option Int} (h : Hpp N R P m) : clr R P = List.replicate N (-1) := by
  apply List.ext_getElem?
  intro k
  rw [List.getElem?_replicate]
  by_cases hk : k < N
  · rw [if_pos hk]
    rcases clr_get R P k (by rw [h.con.pl]; exact hk) with e | ⟨e1, e2⟩
    · exact e
    · rw [e1]
      cases hm : m k with
      | none => exact h.con.off k hk hm
      | some c =>
        obtain ⟨i, hi⟩ := h.con.back k c hm
        exact absurd rfl (e2 _ (List.mem_of_getElem? hi))
  · rw [if_neg hk]
    exact List.getElem?_eq_none (by rw [clr_length, h.con.pl]; omega)

end Go.Proofs.YthfljimgpcignaaGreatDoor
