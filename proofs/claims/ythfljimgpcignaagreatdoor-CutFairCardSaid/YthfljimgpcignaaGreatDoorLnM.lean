/-
  Plain maths of points in a row: the key of a point, rows by keys and places.
-/
import Derived.Test.YthfljimgpcignaaGreatDoorFlV
namespace Go.Proofs.YthfljimgpcignaaGreatDoor

/-- How far along a way a point stands. -/
def keyL (p : Int × Int) (d : Int) : Int := if d = 0 then p.1 else if d = 1 then p.2 else if d = 3 then p.1 - p.2 else if d = 2 then p.1 + p.2 else 0
/-- .. the one at a place. -/
def kAt (l : List (Int × Int)) (d : Int) (i : Nat) : Int := keyL (l.getD i (0, 0)) d
/-- Ahead in the row. -/
def Fore (l : List (Int × Int)) (d : Int) (a b : Nat) : Prop := kAt l d a < kAt l d b ∨ kAt l d a = kAt l d b ∧ a < b
/-- o is the row. -/
structure OrdL (l : List (Int × Int)) (d : Int) (o : List Nat) : Prop where
  perm : o.Perm (List.range l.length)
  ord : o.Pairwise (Fore l d)
theorem OrdL.len {l : List (Int × Int)} {d : Int} {o : List Nat} (h : OrdL l d o) : o.length = l.length := by simpa using h.perm.length_eq
theorem OrdL.mem {l : List (Int × Int)} {d : Int} {o : List Nat} (h : OrdL l d o) {x : Nat} (hx : x ∈ o) : x < l.length := by simpa using h.perm.mem_iff.1 hx
theorem OrdL.nodup {l : List (Int × Int)} {d : Int} {o : List Nat} (h : OrdL l d o) : o.Nodup := h.perm.nodup_iff.2 List.nodup_range
theorem Fore.anti {l : List (Int × Int)} {d : Int} {a b : Nat} (h : Fore l d a b) (h' : Fore l d b a) : a = b := by
  unfold Fore at *
  omega
theorem OrdL.uniq {l m : List (Int × Int)} {d e : Int} {o p : List Nat} (h : OrdL l d o) (h' : OrdL m e p) (hl : l.length = m.length) (hk : ∀ i, i < l.length → ∀ j, j < l.length → (Fore m e i j → Fore l d i j)) : o = p := by
  refine List.Perm.eq_of_pairwise (le := Fore l d) (fun a b _ _ => Fore.anti) h.ord (h'.ord.imp_of_mem fun {a b} ha hb hf => hk _ (by rw [hl]; exact h'.mem ha) _ (by rw [hl]; exact h'.mem hb) hf) ?_
  exact h.perm.trans (by rw [hl]; exact h'.perm.symm)
theorem OrdL.at {l : List (Int × Int)} {d : Int} {o : List Nat} (h : OrdL l d o) {i j : Nat} (hij : i < j) (hj : j < o.length) : Fore l d (o[i]'(by omega)) o[j] := List.pairwise_iff_getElem.1 h.ord i j (by omega) hj hij
/-- No number is twice. -/
theorem OrdL.once {l : List (Int × Int)} {d : Int} {o : List Nat} (h : OrdL l d o) {i : Nat} (hi : i < o.length) : o[i] ∉ o.take i := by
  intro hm
  obtain ⟨j, hj, e⟩ := List.getElem_of_mem hm
  rw [List.length_take] at hj
  rw [List.getElem_take] at e
  have := h.at (i := j) (j := i) (by omega) hi
  rw [e] at this
  unfold Fore at this
  omega
/-- Points of which each is moved alike stand as they stood. -/
theorem ord_moved {l m : List (Int × Int)} {d : Int} {o p : List Nat} (h : OrdL l d o) (h' : OrdL m d p) {dx dy : Int} (hl : m = l.map fun x => (x.1 + dx, x.2 + dy)) : o = p := by
  subst hl
  refine h.uniq h' (by simp) fun i hi j hj => ?_
  unfold Fore kAt
  have e : ∀ i, i < l.length → (l.map fun x => (x.1 + dx, x.2 + dy)).getD i (0, 0) = ((l.getD i (0, 0)).1 + dx, (l.getD i (0, 0)).2 + dy) := fun i hi => by
    simp [List.getD_eq_getElem?_getD, hi]
  rw [e i hi, e j hj]
  simp only [keyL]
  repeat' split
  all_goals omega
/-- Mirrored in the line x = y. -/
theorem ord_mirror {l m : List (Int × Int)} {d e : Int} {o p : List Nat} (h : OrdL l d o) (h' : OrdL m e p) (hl : m = l.map fun x => (x.2, x.1)) (hd : (d = 0 ∧ e = 1) ∨ (d = 1 ∧ e = 0) ∨ (d = 2 ∧ e = 2)) : p = o := by
  subst hl
  refine (h.uniq h' (by simp) fun i hi j hj => ?_).symm
  unfold Fore kAt
  have q : ∀ i, i < l.length → (l.map fun x => (x.2, x.1)).getD i (0, 0) = ((l.getD i (0, 0)).2, (l.getD i (0, 0)).1) := fun i hi => by
    simp [List.getD_eq_getElem?_getD, hi]
  rw [q i hi, q j hj]
  rcases hd with ⟨rfl, rfl⟩ | ⟨rfl, rfl⟩ | ⟨rfl, rfl⟩ <;> simp [keyL] <;> omega
theorem OrdL.keys {l : List (Int × Int)} {d : Int} {o : List Nat} (h : OrdL l d o) : (o.map (kAt l d)).Pairwise (· ≤ ·) := by
  rw [List.pairwise_map]
  refine h.ord.imp fun {a b} hf => ?_
  unfold Fore at hf
  omega
/-- Mirrored at 0 they stand the other way round, by their keys. -/
theorem ord_minus {l m : List (Int × Int)} {d : Int} {o p : List Nat} (h : OrdL l d o) (h' : OrdL m d p) (hl : m = l.map fun x => (0 - x.1, 0 - x.2)) {i : Nat} (hi : i < l.length) : kAt l d (o.getD i 0) = 0 - kAt m d (p.getD (l.length - 1 - i) 0) := by
  have ho := h.len
  have hp := h'.len
  have hml : m.length = l.length := by rw [hl]; simp
  have hk : ∀ j, j < l.length → kAt m d j = 0 - kAt l d j := fun j hj => by
    subst hl
    unfold kAt
    have q : (l.map fun x => (0 - x.1, 0 - x.2)).getD j (0, 0) = (0 - (l.getD j (0, 0)).1, 0 - (l.getD j (0, 0)).2) := by
      simp [List.getD_eq_getElem?_getD, hj]
    rw [q]
    simp only [keyL]
    repeat' split
    all_goals omega
  have e : o.map (kAt l d) = (p.map fun j => 0 - kAt m d j).reverse := by
    refine List.Perm.eq_of_pairwise (le := fun a b : Int => a ≤ b) (fun a b _ _ h1 h2 => by omega) h.keys ?_ ?_
    · rw [List.pairwise_reverse, List.pairwise_map]
      refine h'.ord.imp fun {a b} hf => ?_
      unfold Fore at hf
      omega
    · refine (h.perm.map _).trans (List.Perm.trans ?_ (List.reverse_perm _).symm)
      have : (List.range l.length).map (kAt l d) = (List.range m.length).map fun j => 0 - kAt m d j := by
        rw [hml]
        refine List.map_congr_left fun j hj => ?_
        rw [hk j (by simpa using hj)]
        omega
      rw [this]
      exact (h'.perm.map _).symm
  have e1 : (o.map (kAt l d))[i]? = ((p.map fun j => 0 - kAt m d j).reverse)[i]? := by rw [e]
  rw [List.getElem?_reverse (by simp; omega)] at e1
  rw [List.length_map, hp, hml, List.getElem?_map, List.getElem?_map, List.getElem?_eq_getElem (by omega), List.getElem?_eq_getElem (by omega)] at e1
  simp only [Option.map_some, Option.some.injEq] at e1
  rw [List.getD_eq_getElem?_getD, List.getD_eq_getElem?_getD, List.getElem?_eq_getElem (by omega), List.getElem?_eq_getElem (by omega)]
  exact e1

/-- How many of n stand at either end. -/
def endN (n : Nat) : Nat := if n < 2 then 0 else (n + 3) / 4
def cntT (l : List Bool) : Nat := l.countP (fun b => b)
def fairL (l : List Bool) : Bool := decide (0 < endN l.length) && (decide (endN l.length ≤ cntT l) && decide (endN l.length ≤ l.length - cntT l))
theorem cntT_le (l : List Bool) : cntT l ≤ l.length := List.countP_le_length
theorem cntT_snoc (l : List Bool) (b : Bool) : cntT (l ++ [b]) = cntT l + (if b then 1 else 0) := by
  unfold cntT
  rw [List.countP_append]
  cases b <;> rfl
end Go.Proofs.YthfljimgpcignaaGreatDoor
