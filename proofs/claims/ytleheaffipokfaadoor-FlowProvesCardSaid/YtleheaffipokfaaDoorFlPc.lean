/-
  The document's own search: plain mathematics, no program stands here.
-/
import Derived.Test.YtleheaffipokfaaDoorFlPb
namespace Go.Proofs.YtleheaffipokfaaDoor

/-- By which edge; -2: not reached. -/
def byL (l : List Int) (v : Nat) : Int := l.getD v (-2)
theorem byL_at {l : List Int} {v : Nat} (h : v < l.length) : byL l v = l[v] := by simp [byL, h]
theorem byL_set {l : List Int} {b : Nat} (hb : b < l.length) (c : Int) (v : Nat) : byL (l.set b c) v = if v = b then c else byL l v := by
  unfold byL
  rw [List.getD_eq_getElem?_getD, List.getD_eq_getElem?_getD, List.getElem?_set]
  by_cases h : b = v
  · subst h
    simp [hb]
  · rw [if_neg h, if_neg (fun e => h e.symm)]
theorem byL_rep (N v : Nat) : byL (List.replicate N (-2)) v = -2 := by
  unfold byL
  rw [List.getD_eq_getElem?_getD, List.getElem?_replicate]
  split <;> rfl
/-- How many are not reached. -/
def cntU : List Int → Nat
  | [] => 0
  | x :: r => (if x = -2 then 1 else 0) + cntU r
theorem cntU_set : ∀ {l : List Int} {k : Nat} {c : Int}, k < l.length → byL l k = -2 → c ≠ -2 → cntU (l.set k c) + 1 = cntU l
  | [], _, _, h, _, _ => by simp at h
  | x :: r, 0, c, _, h, hc => by
    have hx : x = -2 := h
    simp [cntU, hx, hc]
    omega
  | x :: r, k + 1, c, hk, h, hc => by
    have := cntU_set (l := r) (k := k) (c := c) (by simpa using hk) h hc
    show (if x = -2 then 1 else 0) + cntU (r.set k c) + 1 = (if x = -2 then 1 else 0) + cntU r
    omega
/-- The search so far: what is reached, what is still to be looked at, but for some. -/
structure Rea (N : Nat) (E : Edg) (f : List Int) (S : VSet) (l : List Int) (que : List Nat) (U : Nat → Prop) : Prop where
  len : l.length = N
  qin : ∀ v, v ∈ que → v < N ∧ byL l v ≠ -2
  rch : ∀ v, byL l v ≠ -2 → Rch E f 1 S v
  done : ∀ u, byL l u ≠ -2 → u ∉ que → ¬ U u → ∀ v, Room E f 1 u v → byL l v ≠ -2
section
variable {N : Nat} {E : Edg} {f : List Int} {S : VSet} {l : List Int} {que : List Nat} {U : Nat → Prop}
theorem Rea.start (N : Nat) (E : Edg) (f : List Int) (S : VSet) (U : Nat → Prop) : Rea N E f S (List.replicate N (-2)) [] U :=
  ⟨by simp, fun v h => (by cases h), fun v h => absurd (byL_rep N v) h, fun u h => absurd (byL_rep N u) h⟩
theorem Rea.add (h : Rea N E f S l que U) {v : Nat} {c : Int} (hv : v < N) (hn : byL l v = -2) (hc : c ≠ -2) (hr : Rch E f 1 S v) : Rea N E f S (l.set v c) (que ++ [v]) U := by
  have hl : v < l.length := by rw [h.len]; exact hv
  have up : ∀ x, byL l x ≠ -2 → byL (l.set v c) x ≠ -2 := fun x hx => by
    rw [byL_set hl]
    split
    · exact hc
    · exact hx
  refine ⟨by rw [List.length_set]; exact h.len, fun x hx => ?_, fun x hx => ?_, fun x hx hq hu y hy => ?_⟩
  · rcases List.mem_append.1 hx with hx | hx
    · exact ⟨(h.qin x hx).1, up x (h.qin x hx).2⟩
    · simp at hx
      subst hx
      exact ⟨hv, by rw [byL_set hl, if_pos rfl]; exact hc⟩
  · by_cases e : x = v
    · exact e ▸ hr
    · rw [byL_set hl, if_neg e] at hx
      exact h.rch x hx
  · have e : x ≠ v := fun e => hq (by rw [e]; simp)
    rw [byL_set hl, if_neg e] at hx
    exact up y (h.done x hx (fun k => hq (List.mem_append_left _ k)) hu y hy)
theorem Rea.pop {u : Nat} (h : Rea N E f S l (u :: que) (fun _ => False)) : Rea N E f S l que (fun x => x = u) ∧ u < N ∧ byL l u ≠ -2 ∧ Rch E f 1 S u := by
  have h1 := h.qin u (by simp)
  refine ⟨⟨h.len, fun v hv => h.qin v (List.mem_cons_of_mem _ hv), h.rch, fun x hx hq hu y hy => h.done x hx (fun k => ?_) id y hy⟩, h1.1, h1.2, h.rch u h1.2⟩
  rcases List.mem_cons.1 k with k | k
  · exact hu k
  · exact hq k
theorem Rea.close {u : Nat} (h : Rea N E f S l que (fun x => x = u)) (hu : ∀ v, Room E f 1 u v → byL l v ≠ -2) : Rea N E f S l que (fun _ => False) :=
  ⟨h.len, h.qin, h.rch, fun x hx hq _ y hy => by
    by_cases e : x = u
    · exact hu y (e ▸ hy)
    · exact h.done x hx hq e y hy⟩
theorem Rea.out (h : Rea N E f S l [] (fun _ => False)) (hE : EdgIn N E) (hS : ∀ v, S v = true → v < N ∧ byL l v ≠ -2) : ∀ v, v < N → (byL l v ≠ -2 ↔ Rch E f 1 S v) := by
  intro v hv
  refine ⟨h.rch v, fun hr => ?_⟩
  have := hr.within (S := fun x => decide (byL l x ≠ -2)) hE (fun x hx => ⟨(hS x hx).1, by simpa using (hS x hx).2⟩) (fun u x hr hu => by
    have hu' : byL l u ≠ -2 := by simpa using hu
    simpa using h.done u hu' (by simp) id x hr)
  simpa using this.2
/-- Of the edges the first i are looked at from u. -/
def LookR (E : Edg) (f : List Int) (u i : Nat) (l : List Int) : Prop := ∀ j, j < i → j < E.length → ∀ v, ((eL E j = (u, v) ∧ fL f j ≠ 1) ∨ (eL E j = (v, u) ∧ fL f j ≠ -1)) → byL l v ≠ -2
theorem LookR.zero {u : Nat} : LookR E f u 0 l := fun j h => by omega
theorem LookR.all {u : Nat} (h : LookR E f u E.length l) : ∀ v, Room E f 1 u v → byL l v ≠ -2 := fun v ⟨i, hi, hr⟩ => h i hi hi v hr
/-- An edge by which there is nothing new. -/
theorem LookR.no {u i : Nat} (h : LookR E f u i l) {a c : Nat} (e : eL E i = (a, c)) (hu : byL l u ≠ -2) (hz : ∀ r : Nat, roomZ (a : Int) (c : Int) (fL f i) (u : Int) = ((r : Int), true) → byL l r ≠ -2) : LookR E f u (i + 1) l := by
  intro j hj hl v hv
  rcases Nat.lt_succ_iff_lt_or_eq.1 hj with hlt | rfl
  · exact h j hlt hl v hv
  · rw [e] at hv
    rcases hv with ⟨e1, hf⟩ | ⟨e1, hf⟩
    · obtain ⟨rfl, rfl⟩ := Prod.mk.inj e1
      by_cases hac : a = c
      · exact hac ▸ hu
      · exact hz c (by unfold roomZ; rw [if_neg (by omega), if_pos ⟨rfl, hf⟩])
    · obtain ⟨rfl, rfl⟩ := Prod.mk.inj e1
      by_cases hac : a = c
      · exact hac ▸ hu
      · exact hz a (by unfold roomZ; rw [if_neg (by omega), if_neg (by omega), if_pos ⟨rfl, hf⟩])
theorem LookR.set {u i : Nat} (h : LookR E f u i l) {v : Nat} {c : Int} (hv : v < l.length) (hc : c ≠ -2) : LookR E f u i (l.set v c) := fun j hj hl x hx => by
  rw [byL_set hv]
  split
  · exact hc
  · exact h j hj hl x hx
/-- Where room leads. -/
theorem room_to {u i a c : Nat} {r : Int} (e : eL E i = (a, c)) (hi : i < E.length) (h : roomZ (a : Int) (c : Int) (fL f i) (u : Int) = (r, true)) : ∃ v : Nat, r = v ∧ Room E f 1 u v := by
  unfold roomZ at h
  split at h
  · simp at h
  · split at h
    · next h1 =>
      simp at h
      exact ⟨c, h.symm, i, hi, Or.inl ⟨by rw [e, show a = u by omega], h1.2⟩⟩
    · split at h
      · next h1 =>
        simp at h
        exact ⟨a, h.symm, i, hi, Or.inr ⟨by rw [e, show c = u by omega], h1.2⟩⟩
      · simp at h
/-- Edges told the other way. -/
theorem fL_neg (f : List Int) (i : Nat) : fL (f.map fun x => 0 - x) i = - fL f i := by
  unfold fL
  rw [List.getD_eq_getElem?_getD, List.getD_eq_getElem?_getD, List.getElem?_map]
  cases f[i]? with
  | none => rfl
  | some x => simp
theorem room_neg {u v : Nat} : Room E (f.map fun x => 0 - x) 1 u v ↔ Room E f (-1) u v := by
  unfold Room
  simp only [fL_neg]
  constructor
  · rintro ⟨i, hi, ⟨e, h⟩ | ⟨e, h⟩⟩
    · exact ⟨i, hi, Or.inl ⟨e, by omega⟩⟩
    · exact ⟨i, hi, Or.inr ⟨e, by omega⟩⟩
  · rintro ⟨i, hi, ⟨e, h⟩ | ⟨e, h⟩⟩
    · exact ⟨i, hi, Or.inl ⟨e, by omega⟩⟩
    · exact ⟨i, hi, Or.inr ⟨e, by omega⟩⟩
theorem rch_neg {S : VSet} {v : Nat} : Rch E (f.map fun x => 0 - x) 1 S v ↔ Rch E f (-1) S v := by
  constructor
  · intro h
    induction h with
    | start h => exact .start h
    | step _ hr ih => exact .step ih (room_neg.1 hr)
  · intro h
    induction h with
    | start h => exact .start h
    | step _ hr ih => exact .step ih (room_neg.2 hr)
end
end Go.Proofs.YtleheaffipokfaaDoor
