/-
  Two heaps of points are parted by the edges between: plain mathematics, no program stands here.
-/
import Derived.Test.YthfljimgpcignaaGreatDoorG23
namespace Go.Proofs.YthfljimgpcignaaGreatDoor

def heapL (m : Nat) : List Bool := List.replicate m true ++ List.replicate m false
theorem heapL_len (m : Nat) : (heapL m).length = m + m := by simp [heapL]
theorem heapL_at {m v : Nat} (h : v < m + m) : setB (heapL m) v = heapS m v := by
  rw [setB_at (by rw [heapL_len]; exact h)]
  unfold heapL heapS
  rw [List.getElem_append]
  by_cases hv : v < m
  · simp [hv]
  · simp [hv]
theorem heapL_unev (m : Nat) : unevL (heapL m) = 0 := by
  have : cntT (heapL m) = m := by
    unfold cntT heapL
    rw [List.countP_append, List.countP_replicate, List.countP_replicate]
    simp
  unfold unevL
  rw [this, heapL_len]
  split <;> omega
theorem unevL_nn (S : List Bool) : 0 ≤ unevL S := by unfold unevL; split <;> omega
theorem brP_key {m i : Nat} (hi : i < m + m) : kAt (brP m (m + m)) 0 i = ((i / m * 100000 + i % m : Nat) : Int) := by
  rw [kAt_of (brP_at m (m + m) i hi)]
  rfl
theorem brP_ord {m : Nat} (hm : 3 ≤ m) (h8 : m ≤ 8) : OrdL (brP m (m + m)) 0 (List.range (m + m)) := by
  refine ⟨by rw [brP_len], ?_⟩
  refine List.pairwise_lt_range.imp_of_mem fun {i j} hi hj hij => ?_
  have hi' : i < m + m := by simpa using hi
  have hj' : j < m + m := by simpa using hj
  left
  rw [brP_key hi', brP_key hj']
  have e1 : ∀ x, x < m → x / m = 0 ∧ x % m = x := fun x hx => ⟨Nat.div_eq_of_lt hx, Nat.mod_eq_of_lt hx⟩
  have e2 : ∀ x, m ≤ x → x < m + m → x / m = 1 ∧ x % m = x - m := fun x hx hx2 => by
    obtain ⟨y, rfl⟩ : ∃ y, x = m + y := ⟨x - m, by omega⟩
    refine ⟨?_, ?_⟩
    · rw [Nat.add_div_left _ (by omega), Nat.div_eq_of_lt (by omega)]
    · rw [Nat.add_mod_left, Nat.mod_eq_of_lt (by omega)]
      omega
  by_cases h1 : j < m
  · rw [(e1 i (by omega)).1, (e1 i (by omega)).2, (e1 j h1).1, (e1 j h1).2]
    omega
  · rw [(e2 j (by omega) hj').1, (e2 j (by omega) hj').2]
    by_cases h2 : i < m
    · rw [(e1 i h2).1, (e1 i h2).2]
      omega
    · rw [(e2 i (by omega) hi').1, (e2 i (by omega) hi').2]
      omega
/-- The best of the twelve is the first, and parts the heaps. -/
theorem bridge_best {m k n : Nat} {L : List Spl} {s : Spl} (hm : 3 ≤ m) (h8 : m ≤ 8) (hk : k ≤ 2) (h : SplitsQ (brP m (m + m)) (brE m (m + m) ++ brB m k) L) (hs : BestAt L n s) : s = ⟨heapL m, k, 0, 0⟩ := by
  have hl := brP_len m (m + m)
  obtain ⟨a, b, c, h1, -, -, o, V, near, far, ho, hq, hn, -, rfl, -, -⟩ := h.way 0 (by decide)
  obtain rfl : o = List.range (m + m) := ho.uniq (brP_ord hm h8) rfl fun _ _ _ _ h => h
  rw [hl] at hq hn
  have hK : 2 ≤ endN (m + m) ∧ endN (m + m) ≤ m := by unfold endN; split <;> omega
  have hsrc : ∀ v, v ∈ srcL (List.range (m + m)) ↔ v < endN (m + m) := fun v => by
    unfold srcL
    rw [List.length_range, List.take_range, List.mem_range]
    omega
  have hdst : ∀ v, v ∈ dstL (List.range (m + m)) → v < m + m → m ≤ v := fun v hv hlt => by
    refine Nat.not_lt.1 fun hvm => ?_
    refine take_drop_apart List.nodup_range (a := m) (b := m + m - endN (m + m)) (by omega) (v := v) ?_ (by unfold dstL at hv; rwa [List.length_range] at hv)
    rw [List.take_range, List.mem_range]
    omega
  have hdl : m + m - 1 ∈ dstL (List.range (m + m)) := by
    unfold dstL
    rw [List.length_range]
    refine List.mem_iff_getElem.2 ⟨endN (m + m) - 1, by simp; omega, ?_⟩
    simp
    omega
  obtain ⟨hV, hnear⟩ := bridge_near hm hk (fun v hv => by rw [markL_in (by omega)]; simpa using (hsrc v).2 (by omega))
    (fun v hv => by
      have hvN : v < m + m := by have := setB_lt hv; rwa [markL_len] at this
      rw [markL_in hvN] at hv
      have := (hsrc v).1 (by simpa using hv)
      omega)
    (fun v hv hb => by
      rw [markL_in hv] at hb
      exact hdst v (by simpa using hb) hv)
    ⟨m + m - 1, by omega, by rw [markL_in (by omega)]; simpa using hdl⟩ hq
  obtain rfl : near = heapL m := setB_ext (by rw [hn, heapL_len]) fun v hv => by rw [hnear v (by omega), heapL_at (by omega)]
  subst hV
  have hb : BestAt L 0 ⟨heapL m, (k : Int), ((0 : Nat) : Int), 0⟩ := ⟨h1, fun i x hx => by
    have q := h.one hx
    have hlen := q.len
    rw [hl] at hlen
    obtain ⟨⟨v, hv, e1⟩, u, hu, e0⟩ := fair_parts (q.fair (by rw [hl]; omega))
    have hx2 := bridge_lo hm hk ⟨v, by omega, e1⟩ ⟨u, by omega, e0⟩
    rw [← q.cross] at hx2
    have hu0 := unevL_nn x.side
    show (k : Int) < x.cross ∨ (k : Int) = x.cross ∧ (unevL (heapL m) < unevL x.side ∨ unevL (heapL m) = unevL x.side ∧ 0 ≤ i)
    rw [heapL_unev]
    omega⟩
  exact (hs.uniq hb).2
end Go.Proofs.YthfljimgpcignaaGreatDoor
