/-
  How many more go out of each vertex than come, edge by edge: plain mathematics, no program stands here.
-/
import Derived.Test.YtleheaffipokfaaDoorFlB
namespace Go.Proofs.YtleheaffipokfaaDoor

/-- .. by the first k edges. -/
def netTo (E : Edg) (f : List Int) (k v : Nat) : Int := sumN (fun i => (if (eL E i).1 = v then fL f i else 0) - (if (eL E i).2 = v then fL f i else 0)) k
theorem netTo_all (E : Edg) (f : List Int) (v : Nat) : netTo E f E.length v = netF E f v := rfl
theorem netTo_succ (E : Edg) (f : List Int) (k v : Nat) : netTo E f (k + 1) v = netTo E f k v + ((if (eL E k).1 = v then fL f k else 0) - (if (eL E k).2 = v then fL f k else 0)) := rfl
/-- Each of the first k edges bears what goes along it. -/
def okTo (E : Edg) (f : List Int) (k : Nat) : Prop := ∀ i, i < k → fL f i = 0 ∨ ((fL f i = 1 ∨ fL f i = -1) ∧ (eL E i).1 ≠ (eL E i).2)
section
variable {E : Edg} {f : List Int} {k N : Nat}
theorem netTo_bd (h : okTo E f k) (v : Nat) : -(k : Int) ≤ netTo E f k v ∧ netTo E f k v ≤ k := by
  induction k with
  | zero => exact ⟨Int.le_refl _, Int.le_refl _⟩
  | succ k ih =>
    have h1 := ih (fun i hi => h i (by omega))
    have h2 := h k (by omega)
    rw [netTo_succ]
    rcases h2 with h2 | ⟨h2 | h2, h3⟩ <;> rw [h2] <;> split <;> split <;> omega
/-- All of them, as a row. -/
def netRow (N : Nat) (E : Edg) (f : List Int) (k : Nat) : List Int := (List.range N).map (netTo E f k)
theorem netRow_len : (netRow N E f k).length = N := by simp [netRow]
theorem netRow_at {v : Nat} (h : v < (netRow N E f k).length) : (netRow N E f k)[v] = netTo E f k v := by simp [netRow]
theorem netRow_zero : netRow N E f 0 = List.replicate N 0 := by
  refine List.ext_getElem (by simp [netRow]) fun i h1 h2 => ?_
  rw [netRow_at]
  simp [netTo, sumN]
theorem netRow_still (h : fL f k = 0) : netRow N E f (k + 1) = netRow N E f k := by
  refine List.ext_getElem (by simp [netRow]) fun i h1 h2 => ?_
  rw [netRow_at, netRow_at, netTo_succ, h]
  simp
theorem netRow_forth {a b : Nat} (h : fL f k = 1) (he : eL E k = (a, b)) (hn : a ≠ b) : ((netRow N E f k).set a (netTo E f k a + 1)).set b (netTo E f k b - 1) = netRow N E f (k + 1) := by
  refine List.ext_getElem (by simp [netRow]) fun i h1 h2 => ?_
  rw [List.getElem_set, List.getElem_set, netRow_at, netRow_at, netTo_succ, h, he]
  by_cases hb : b = i
  · subst hb
    simp [hn]
    omega
  · by_cases ha : a = i
    · subst ha
      simp [hb]
    · simp [ha, hb]
theorem netRow_back {a b : Nat} (h : fL f k = -1) (he : eL E k = (a, b)) (hn : a ≠ b) : ((netRow N E f k).set b (netTo E f k b + 1)).set a (netTo E f k a - 1) = netRow N E f (k + 1) := by
  refine List.ext_getElem (by simp [netRow]) fun i h1 h2 => ?_
  rw [List.getElem_set, List.getElem_set, netRow_at, netRow_at, netTo_succ, h, he]
  by_cases hb : b = i
  · subst hb
    simp [hn]
  · by_cases ha : a = i
    · subst ha
      simp [hb]
      omega
    · simp [ha, hb]
theorem okTo.step (h : okTo E f k) (hk : fL f k = 0 ∨ ((fL f k = 1 ∨ fL f k = -1) ∧ (eL E k).1 ≠ (eL E k).2)) : okTo E f (k + 1) := fun i hi => by
  by_cases hlt : i < k
  · exact h i hlt
  · obtain rfl : i = k := by omega
    exact hk
/-- The sum over the marked ones of the first k vertices. -/
def sumTo (E : Edg) (f : List Int) (A : VSet) (k : Nat) : Int := sumN (fun v => if A v = true then netF E f v else 0) k
theorem sumTo_bd {A : VSet} (h : okTo E f E.length) (hE : E.length ≤ 16384) : ∀ k : Nat, -(16384 * (k : Int)) ≤ sumTo E f A k ∧ sumTo E f A k ≤ 16384 * k
  | 0 => ⟨by simp [sumTo, sumN], by simp [sumTo, sumN]⟩
  | k + 1 => by
    have h1 := sumTo_bd (A := A) h hE k
    have h2 := netTo_bd h k
    rw [netTo_all] at h2
    show -(16384 * ((k + 1 : Nat) : Int)) ≤ sumTo E f A k + (if A k = true then netF E f k else 0) ∧ sumTo E f A k + (if A k = true then netF E f k else 0) ≤ 16384 * ((k + 1 : Nat) : Int)
    split <;> omega
/-- Of the first k vertices none has more come than go that may not. -/
def evenTo (E : Edg) (f : List Int) (A B : VSet) (k : Nat) : Prop := ∀ v, v < k → A v = false → B v = false → netF E f v = 0
theorem isFlow_iff {A B : VSet} (hl : f.length = E.length) : IsFlow N E A B f ↔ okTo E f E.length ∧ evenTo E f A B N := by
  constructor
  · intro h
    refine ⟨fun i hi => ?_, h.even⟩
    by_cases hs : (eL E i).1 = (eL E i).2
    · exact Or.inl (h.self i hi hs)
    · rcases h.one i hi with h | h | h
      · exact Or.inr ⟨Or.inr h, hs⟩
      · exact Or.inl h
      · exact Or.inr ⟨Or.inl h, hs⟩
  · rintro ⟨h1, h2⟩
    exact ⟨hl, fun i hi => by rcases h1 i hi with h | ⟨h | h, _⟩ <;> omega, fun i hi hs => by
      rcases h1 i hi with h | ⟨_, h⟩
      · exact h
      · exact absurd hs h, h2⟩
end
end Go.Proofs.YtleheaffipokfaaDoor
