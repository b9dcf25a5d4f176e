/-
  A row of points, grown by putting each one in its place: plain mathematics, no program stands here.
-/
import Derived.Test.YthfljimgpcignaaGreatDoorLnM
namespace Go.Proofs.YthfljimgpcignaaGreatDoor

/-- The row of the first i points. -/
structure PreO (l : List (Int × Int)) (d : Int) (i : Nat) (o : List Nat) : Prop where
  perm : o.Perm (List.range i)
  ord : o.Pairwise (Fore l d)
theorem PreO.len {l : List (Int × Int)} {d : Int} {i : Nat} {o : List Nat} (h : PreO l d i o) : o.length = i := by simpa using h.perm.length_eq
theorem PreO.lt {l : List (Int × Int)} {d : Int} {i : Nat} {o : List Nat} (h : PreO l d i o) {x : Nat} (hx : x ∈ o) : x < i := by simpa using h.perm.mem_iff.1 hx
theorem PreO.nil (l : List (Int × Int)) (d : Int) : PreO l d 0 [] := ⟨List.Perm.refl _, List.Pairwise.nil⟩
theorem PreO.all {l : List (Int × Int)} {d : Int} {o : List Nat} (h : PreO l d l.length o) : OrdL l d o := ⟨h.perm, h.ord⟩
/-- Where the next one is put. -/
theorem PreO.put {l : List (Int × Int)} {d : Int} {i k : Nat} {o : List Nat} (h : PreO l d i o) (hk : k ≤ i) (h1 : ∀ j (hj : j < o.length), j < k → kAt l d o[j] ≤ kAt l d i) (h2 : k < i → ∀ x, o[k]? = some x → kAt l d i < kAt l d x) : PreO l d (i + 1) (o.take k ++ [i] ++ o.drop k) := by
  have hl := h.len
  refine ⟨?_, ?_⟩
  · have e : (o.take k ++ [i] ++ o.drop k).Perm (i :: o) := by
      rw [List.append_assoc]
      refine (List.perm_middle (a := i) (l₁ := o.take k) (l₂ := o.drop k)).trans ?_
      rw [List.take_append_drop]
    refine e.trans ?_
    rw [List.range_succ]
    exact (List.Perm.cons i h.perm).trans (List.perm_append_singleton i _).symm
  · rw [List.append_assoc, List.pairwise_append]
    have hta : (o.take k).Pairwise (Fore l d) := h.ord.sublist (List.take_sublist k o)
    have hdr : (o.drop k).Pairwise (Fore l d) := h.ord.sublist (List.drop_sublist k o)
    have key1 : ∀ x, x ∈ o.take k → Fore l d x i := fun x hx => by
      obtain ⟨j, hj, rfl⟩ := List.getElem_of_mem hx
      rw [List.length_take] at hj
      rw [List.getElem_take]
      have a := h1 j (by omega) (by omega)
      have b := h.lt (List.getElem_mem (show j < o.length by omega))
      unfold Fore
      omega
    have key2 : ∀ x, x ∈ o.drop k → Fore l d i x := fun x hx => by
      obtain ⟨j, hj, rfl⟩ := List.getElem_of_mem hx
      rw [List.length_drop] at hj
      rw [List.getElem_drop]
      have hk2 : k < o.length := by omega
      have a := h2 (by omega) o[k] (List.getElem?_eq_getElem hk2)
      by_cases e : j = 0
      · subst e
        exact Or.inl a
      · have b := List.pairwise_iff_getElem.1 h.ord k (k + j) hk2 (by omega) (by omega)
        unfold Fore at b ⊢
        omega
    refine ⟨hta, ?_, fun a ha b hb => ?_⟩
    · rw [List.singleton_append, List.pairwise_cons]
      exact ⟨key2, hdr⟩
    · rcases List.mem_append.1 hb with hb | hb
      · rw [List.mem_singleton.1 hb]
        exact key1 a ha
      · have x := key1 a ha
        have y := key2 b hb
        unfold Fore at *
        omega
/-- A row of marks in which the first k of the one end are marked, and of the other one not. -/
def inS (S : List Bool) (a b : List Nat) : Nat → List Bool
  | 0 => S
  | k + 1 => ((inS S a b k).set (a.getD k 0) true).set (b.getD k 0) false
theorem inS_len (S : List Bool) (a b : List Nat) : ∀ k, (inS S a b k).length = S.length
  | 0 => rfl
  | k + 1 => by rw [inS, List.length_set, List.length_set, inS_len S a b k]
theorem inS_at {S : List Bool} {a b : List Nat} (hd : ∀ x, x ∈ a → x ∉ b) (ha : ∀ x, x ∈ a → x < S.length) (hb : ∀ x, x ∈ b → x < S.length) : ∀ k, k ≤ a.length → k ≤ b.length →
    (∀ v, v ∈ a.take k → (inS S a b k)[v]? = some true) ∧ ∀ v, v ∈ b.take k → (inS S a b k)[v]? = some false
  | 0, _, _ => ⟨fun v h => by simp at h, fun v h => by simp at h⟩
  | k + 1, h1, h2 => by
    obtain ⟨p, q⟩ := inS_at hd ha hb k (by omega) (by omega)
    have hak : k < a.length := by omega
    have hbk : k < b.length := by omega
    have ea : a.getD k 0 = a[k] := by rw [List.getD_eq_getElem?_getD, List.getElem?_eq_getElem hak]; rfl
    have eb : b.getD k 0 = b[k] := by rw [List.getD_eq_getElem?_getD, List.getElem?_eq_getElem hbk]; rfl
    have hma := List.getElem_mem hak
    have hmb := List.getElem_mem hbk
    have hL := inS_len S a b k
    refine ⟨fun v hv => ?_, fun v hv => ?_⟩
    · have hva : v ∈ a := List.mem_of_mem_take hv
      have hvb : b[k] ≠ v := fun e => hd v hva (e ▸ hmb)
      rw [inS, ea, eb, List.getElem?_set, if_neg hvb, List.getElem?_set]
      by_cases e : a[k] = v
      · rw [if_pos e, if_pos (by rw [hL, e]; exact ha v hva)]
      · rw [if_neg e]
        rw [List.take_succ_eq_append_getElem hak] at hv
        rcases List.mem_append.1 hv with hv | hv
        · exact p v hv
        · exact absurd (List.mem_singleton.1 hv).symm e
    · have hvb : v ∈ b := List.mem_of_mem_take hv
      rw [inS, ea, eb, List.getElem?_set]
      by_cases e : b[k] = v
      · rw [if_pos e, if_pos (by rw [List.length_set, hL, e]; exact hb v hvb)]
      · rw [if_neg e, List.getElem?_set]
        have hne : a[k] ≠ v := fun e2 => hd a[k] hma (e2 ▸ hvb)
        rw [if_neg hne]
        rw [List.take_succ_eq_append_getElem hbk] at hv
        rcases List.mem_append.1 hv with hv | hv
        · exact q v hv
        · exact absurd (List.mem_singleton.1 hv).symm e
end Go.Proofs.YthfljimgpcignaaGreatDoor
