/-
  What can be reached, vertex by vertex: plain mathematics, no program stands here.
-/
import Derived.Test.YthfljimgpcignaaGreatDoorFlV
namespace Go.Proofs.YthfljimgpcignaaGreatDoor

/-- How far off a vertex is; -1: it was not reached. -/
def oL (l : List Int) (v : Nat) : Int := l.getD v (-1)
theorem oL_at {l : List Int} {v : Nat} (h : v < l.length) : oL l v = l[v] := by simp [oL, h]
theorem oL_set {l : List Int} {b : Nat} (hb : b < l.length) (c : Int) (v : Nat) : oL (l.set b c) v = if v = b then c else oL l v := by
  unfold oL
  rw [List.getD_eq_getElem?_getD, List.getD_eq_getElem?_getD, List.getElem?_set]
  by_cases h : b = v
  · subst h
    simp [hb]
  · rw [if_neg h, if_neg (fun e => h e.symm)]
theorem oL_rep (N v : Nat) : oL (List.replicate N (-1)) v = -1 := by
  unfold oL
  rw [List.getD_eq_getElem?_getD, List.getElem?_replicate]
  split <;> rfl
/-- Marks as a set. -/
def setB (l : List Bool) : VSet := fun v => l.getD v false
theorem setB_lt {l : List Bool} {v : Nat} (h : setB l v = true) : v < l.length := by
  unfold setB at h
  by_cases hv : v < l.length
  · exact hv
  · simp [hv] at h
theorem setB_at {l : List Bool} {v : Nat} (h : v < l.length) : setB l v = l[v] := by simp [setB, h]
/-- The row so far: of the marks the first m are in it; of it the first k are done. -/
structure Bfs (N : Nat) (E : Edg) (f : List Int) (way : Int) (S : VSet) (m k : Nat) (off : List Int) (row : List Nat) : Prop where
  len : off.length = N
  mem : ∀ v, v ∈ row → v < m
  nod : row.Nodup
  yes : ∀ v, v ∈ row → 0 ≤ oL off v ∧ oL off v < row.length
  no : ∀ v, v ∉ row → oL off v = -1
  mark : ∀ v, v < m → S v = true → v ∈ row
  zero : ∀ v, v ∈ row → oL off v = 0 → S v = true
  rch : ∀ v, v ∈ row → Rch E f way S v
  par : ∀ v, v ∈ row → 0 < oL off v → ∃ u, u ∈ row ∧ oL off u = oL off v - 1 ∧ Room E f way u v
  done : ∀ j u, j < k → row[j]? = some u → ∀ v, Room E f way u v → v ∈ row
section
variable {N : Nat} {E : Edg} {f : List Int} {way : Int} {S : VSet} {m k : Nat} {off : List Int} {row : List Nat}
theorem Bfs.start (N : Nat) (E : Edg) (f : List Int) (way : Int) (S : VSet) : Bfs N E f way S 0 0 (List.replicate N (-1)) [] where
  len := by simp
  mem := fun v h => by cases h
  nod := List.nodup_nil
  yes := fun v h => by cases h
  no := fun v _ => oL_rep N v
  mark := fun v h => by omega
  zero := fun v h => by cases h
  rch := fun v h => by cases h
  par := fun v h => by cases h
  done := fun j u h => by omega
theorem nodup_snoc {l : List Nat} {x : Nat} (h : l.Nodup) (hx : x ∉ l) : (l ++ [x]).Nodup := by
  rw [List.nodup_append]
  refine ⟨h, by simp, fun a ha b hb e => ?_⟩
  simp at hb
  subst hb
  subst e
  exact hx ha
theorem Bfs.mark_no (h : Bfs N E f way S m 0 off row) (hm : S m = false) : Bfs N E f way S (m + 1) 0 off row := by
  refine ⟨h.len, fun v hv => by have := h.mem v hv; omega, h.nod, h.yes, h.no, fun v hv hs => ?_, h.zero, h.rch, h.par, fun j u hj => by omega⟩
  by_cases hlt : v < m
  · exact h.mark v hlt hs
  · obtain rfl : v = m := by omega
    rw [hm] at hs
    cases hs
theorem Bfs.mark_yes (h : Bfs N E f way S m 0 off row) (hm : S m = true) (hN : m < N) : Bfs N E f way S (m + 1) 0 (off.set m 0) (row ++ [m]) := by
  have hl : m < off.length := by rw [h.len]; exact hN
  have hnew : m ∉ row := fun hx => by have := h.mem m hx; omega
  refine ⟨by rw [List.length_set]; exact h.len, fun v hv => ?_, nodup_snoc h.nod hnew, fun v hv => ?_, fun v hv => ?_, fun v hv hs => ?_, fun v hv h0 => ?_, fun v hv => ?_, fun v hv h0 => ?_, fun j u hj => by omega⟩
  · rcases List.mem_append.1 hv with hv | hv
    · have := h.mem v hv; omega
    · simp at hv; omega
  · rw [oL_set hl, List.length_append]
    rcases List.mem_append.1 hv with hv | hv
    · have h1 := h.yes v hv
      have h2 := h.mem v hv
      rw [if_neg (by omega)]
      simp
      omega
    · simp at hv
      rw [if_pos hv]
      simp
  · rw [oL_set hl, if_neg (fun e => hv (by rw [e]; simp))]
    exact h.no v (fun hx => hv (List.mem_append_left _ hx))
  · by_cases hlt : v < m
    · exact List.mem_append_left _ (h.mark v hlt hs)
    · obtain rfl : v = m := by omega
      simp
  · rcases List.mem_append.1 hv with hv | hv
    · rw [oL_set hl, if_neg (by have := h.mem v hv; omega)] at h0
      exact h.zero v hv h0
    · simp at hv
      subst hv
      exact hm
  · rcases List.mem_append.1 hv with hv | hv
    · exact h.rch v hv
    · simp at hv
      subst hv
      exact .start hm
  · rcases List.mem_append.1 hv with hv | hv
    · have h2 := h.mem v hv
      rw [oL_set hl, if_neg (by omega)] at h0 ⊢
      obtain ⟨u, hu, e, hr⟩ := h.par v hv h0
      exact ⟨u, List.mem_append_left _ hu, by rw [oL_set hl, if_neg (by have := h.mem u hu; omega)]; exact e, hr⟩
    · simp at hv
      rw [oL_set hl, if_pos hv] at h0
      omega
/-- One more is reached, from one that is in the row. -/
theorem Bfs.add (h : Bfs N E f way S N k off row) {u v : Nat} (hu : u ∈ row) (hv : v < N) (hn : oL off v = -1) (hr : Room E f way u v) (hk : k ≤ row.length) : Bfs N E f way S N k (off.set v (oL off u + 1)) (row ++ [v]) := by
  have hl : v < off.length := by rw [h.len]; exact hv
  have hnew : v ∉ row := fun hx => by have := (h.yes v hx).1; omega
  have huv : u ≠ v := fun e => hnew (e ▸ hu)
  have hu2 := h.yes u hu
  refine ⟨by rw [List.length_set]; exact h.len, fun x hx => ?_, nodup_snoc h.nod hnew, fun x hx => ?_, fun x hx => ?_, fun x hx hs => List.mem_append_left _ (h.mark x hx hs), fun x hx h0 => ?_, fun x hx => ?_, fun x hx h0 => ?_, fun j y hj hy z hz => ?_⟩
  · rcases List.mem_append.1 hx with hx | hx
    · exact h.mem x hx
    · simp at hx; omega
  · rw [oL_set hl, List.length_append]
    rcases List.mem_append.1 hx with hx | hx
    · have h1 := h.yes x hx
      rw [if_neg (show ¬ x = v from fun e => hnew (e ▸ hx))]
      simp
      omega
    · simp at hx
      rw [if_pos hx]
      simp
      omega
  · rw [oL_set hl, if_neg (fun e => hx (by rw [e]; simp))]
    exact h.no x (fun hy => hx (List.mem_append_left _ hy))
  · rcases List.mem_append.1 hx with hx | hx
    · rw [oL_set hl, if_neg (show ¬ x = v from fun e => hnew (e ▸ hx))] at h0
      exact h.zero x hx h0
    · simp at hx
      rw [oL_set hl, if_pos hx] at h0
      omega
  · rcases List.mem_append.1 hx with hx | hx
    · exact h.rch x hx
    · simp at hx
      subst hx
      exact .step (h.rch u hu) hr
  · rcases List.mem_append.1 hx with hx | hx
    · rw [oL_set hl, if_neg (show ¬ x = v from fun e => hnew (e ▸ hx))] at h0 ⊢
      obtain ⟨y, hy, e, hr'⟩ := h.par x hx h0
      exact ⟨y, List.mem_append_left _ hy, by rw [oL_set hl, if_neg (show ¬ y = v from fun e => hnew (e ▸ hy))]; exact e, hr'⟩
    · simp at hx
      subst hx
      refine ⟨u, List.mem_append_left _ hu, ?_, hr⟩
      rw [oL_set hl, oL_set hl, if_neg huv, if_pos rfl]
      omega
  · rw [List.getElem?_append_left (by omega)] at hy
    exact List.mem_append_left _ (h.done j y hj hy z hz)
/-- The next of the row is done. -/
theorem Bfs.next (h : Bfs N E f way S N k off row) {u : Nat} (hu : row[k]? = some u) (hd : ∀ v, Room E f way u v → v ∈ row) : Bfs N E f way S N (k + 1) off row :=
  ⟨h.len, h.mem, h.nod, h.yes, h.no, h.mark, h.zero, h.rch, h.par, fun j x hj hx => by
    rcases Nat.lt_succ_iff_lt_or_eq.1 hj with hlt | rfl
    · exact h.done j x hlt hx
    · rw [hu] at hx
      injection hx with hx
      subst hx
      exact hd⟩
theorem Bfs.small (h : Bfs N E f way S m k off row) (hm : m ≤ N) : row.length ≤ N := by
  have := h.nod.length_le_of_subset (l₂ := List.range N) (fun x hx => by have := h.mem x hx; simp; omega)
  simpa using this
/-- What was reached, how far off. -/
structure LevQ (N : Nat) (E : Edg) (f : List Int) (way : Int) (S : VSet) (off : List Int) : Prop where
  len : off.length = N
  sgn : ∀ v, v < N → oL off v = -1 ∨ (0 ≤ oL off v ∧ oL off v < N)
  rch : ∀ v, v < N → (oL off v ≠ -1 ↔ Rch E f way S v)
  zero : ∀ v, v < N → oL off v = 0 → S v = true
  mark : ∀ v, v < N → S v = true → oL off v ≠ -1
  par : ∀ v, v < N → 0 < oL off v → ∃ u, u < N ∧ oL off u = oL off v - 1 ∧ Room E f way u v
theorem Bfs.out (h : Bfs N E f way S N row.length off row) (hE : EdgIn N E) (hS : ∀ v, S v = true → v < N) : LevQ N E f way S off := by
  have hsm := h.small (Nat.le_refl _)
  have hmem : ∀ v, v ∈ row ↔ oL off v ≠ -1 := fun v => ⟨fun hv => by have := (h.yes v hv).1; omega, fun hv => Classical.byContradiction fun hn => hv (h.no v hn)⟩
  refine ⟨h.len, fun v hv => ?_, fun v hv => ⟨fun hn => h.rch v ((hmem v).2 hn), fun hr => ?_⟩, fun v hv h0 => h.zero v ((hmem v).2 (by omega)) h0, fun v hv hs => (hmem v).1 (h.mark v hv hs), fun v hv h0 => ?_⟩
  · by_cases hx : v ∈ row
    · have := h.yes v hx
      omega
    · exact Or.inl (h.no v hx)
  · refine (hmem v).1 ?_
    have := hr.within (S := fun v => decide (v ∈ row)) hE (fun v hs => ⟨hS v hs, by simpa using h.mark v (hS v hs) hs⟩) (fun u v hr hu => by
      obtain ⟨j, hj, e⟩ := List.mem_iff_getElem.1 (show u ∈ row by simpa using hu)
      simpa using h.done j u hj (by rw [← e]; exact List.getElem?_eq_getElem hj) v hr)
    simpa using this.2
  · obtain ⟨u, hu, e, hr⟩ := h.par v ((hmem v).2 (by omega)) h0
    exact ⟨u, h.mem u hu, e, hr⟩
/-- Room, edge by edge of those at a vertex. -/
theorem room_along {u v : Nat} {w : Int} : (∃ i : Nat, (i : Int) ∈ atL E u ∧ alongE E i u = (v, w) ∧ fL f i ≠ way * w) → Room E f way u v := by
  rintro ⟨i, hi, ha, hf⟩
  obtain ⟨j, hj, e, h⟩ := atTo_mem.1 hi
  obtain rfl : i = j := by omega
  refine ⟨i, hj, ?_⟩
  unfold alongE at ha
  split at ha
  · next e1 =>
    obtain ⟨rfl, rfl⟩ := Prod.mk.inj ha
    exact Or.inl ⟨Prod.ext e1.symm rfl, by simpa using hf⟩
  · next e1 =>
    obtain ⟨rfl, rfl⟩ := Prod.mk.inj ha
    refine Or.inr ⟨Prod.ext rfl ?_, by rw [Int.mul_neg, Int.mul_one] at hf; exact hf⟩
    rcases h with h | h
    · exact absurd h.symm e1
    · exact h
theorem along_room {u v : Nat} (h : Room E f way u v) (hne : u ≠ v) : ∃ (i : Nat) (w : Int), (i : Int) ∈ atL E u ∧ alongE E i u = (v, w) ∧ fL f i ≠ way * w := by
  obtain ⟨i, hi, ⟨e, hf⟩ | ⟨e, hf⟩⟩ := h
  · refine ⟨i, 1, atTo_mem.2 ⟨i, hi, rfl, Or.inl (by rw [e])⟩, ?_, by simpa using hf⟩
    unfold alongE
    rw [e]
    simp
  · refine ⟨i, -1, atTo_mem.2 ⟨i, hi, rfl, Or.inr (by rw [e])⟩, ?_, by rw [Int.mul_neg, Int.mul_one]; exact hf⟩
    unfold alongE
    rw [e]
    simp [hne]
/-- Of the edges at u the first j are looked at. -/
def Looked (E : Edg) (f : List Int) (way : Int) (u j : Nat) (row : List Nat) : Prop := ∀ (i : Nat) (v : Nat) (w : Int), (i : Int) ∈ (atL E u).take j → alongE E i u = (v, w) → fL f i ≠ way * w → v ∈ row
theorem Looked.zero {u : Nat} : Looked E f way u 0 row := fun i v w h => by simp at h
theorem Looked.all {u : Nat} (h : Looked E f way u (atL E u).length row) (hu : u ∈ row) : ∀ v, Room E f way u v → v ∈ row := fun v hr => by
  by_cases hne : u = v
  · exact hne ▸ hu
  · obtain ⟨i, w, h1, h2, h3⟩ := along_room hr hne
    exact h i v w (by rw [List.take_length]; exact h1) h2 h3
theorem Looked.step {u j : Nat} (h : Looked E f way u j row) {row' : List Nat} {i : Nat} (hj : (atL E u)[j]? = some (i : Int)) (hs : ∀ x, x ∈ row → x ∈ row') (hi : ∀ v w, alongE E i u = (v, w) → fL f i ≠ way * w → v ∈ row') : Looked E f way u (j + 1) row' := by
  intro i' v w hm ha hf
  rw [List.take_add_one, hj] at hm
  rcases List.mem_append.1 hm with hm | hm
  · exact hs v (h i' v w hm ha hf)
  · simp at hm
    obtain rfl : i' = i := by omega
    exact hi v w ha hf
end
end Go.Proofs.YthfljimgpcignaaGreatDoor
