/-
  Plain mathematics of tables of turns: no program stands here.
-/
import Derived.Test.YthfljimgpcignaaGreatDoorG1
namespace Go.Proofs.YthfljimgpcignaaGreatDoor

/-- What it costs to turn. -/
def turnAt (I O : Int) (l : List Int) (x y : Int) : Int := if x < 0 ∨ I ≤ x ∨ y < 0 ∨ O ≤ y then 1152921504606846976 else l.getD (x * O + y).toNat 0
/-- How many are forbidden. -/
def bansC (l : List Int) : Int := ((l.filter fun a => decide (a = 1152921504606846976)).length : Int)
theorem bansC_lo (l : List Int) : 0 ≤ bansC l := by unfold bansC; omega
theorem bansC_hi (l : List Int) : bansC l ≤ l.length := by
  have := List.length_filter_le (fun a : Int => decide (a = 1152921504606846976)) l
  unfold bansC; omega
theorem bansC_snoc (l : List Int) (a : Int) : bansC (l ++ [a]) = bansC l + (if a = 1152921504606846976 then 1 else 0) := by
  unfold bansC
  rw [List.filter_append, List.length_append]
  by_cases h : a = 1152921504606846976 <;> simp [h]
/-- What is wrong with a table first: a place and an Errno (0: nothing). -/
def badAt : Int → List Int → Int × Int
  | _, [] => (0, 0)
  | k, a :: r => if wgt a = false then (k, 8) else badAt (k + 1) r
def chkT (I O : Int) (l : List Int) : Int × Int :=
  if I < 0 ∨ 16 < I then (0, 1) else if O < 0 ∨ 16 < O then (1, 1) else if ¬ (l.length : Int) = I * O then (2, 9) else badAt 3 l
theorem badAt_ok (k : Int) (l : List Int) (h : l.all wgt = true) : badAt k l = (0, 0) := by
  induction l generalizing k with
  | nil => rfl
  | cons a r ih =>
    simp only [List.all_cons, Bool.and_eq_true] at h
    unfold badAt
    rw [if_neg (by rw [h.1]; decide), ih _ h.2]
theorem badAt_at (k : Int) (l r : List Int) (a : Int) (h : l.all wgt = true) (ha : wgt a = false) : badAt k (l ++ a :: r) = (k + l.length, 8) := by
  induction l generalizing k with
  | nil => simp [badAt, ha]
  | cons b s ih =>
    simp only [List.all_cons, Bool.and_eq_true] at h
    rw [List.cons_append]
    unfold badAt
    rw [if_neg (by rw [h.1]; decide), ih _ h.2, List.length_cons]
    simp; omega
theorem badAt_zero (k : Int) (l : List Int) (h : (badAt k l).2 = 0) : l.all wgt = true := by
  induction l generalizing k with
  | nil => rfl
  | cons a r ih =>
    unfold badAt at h
    by_cases ha : wgt a = false
    · rw [if_pos ha] at h; simp at h
    · rw [if_neg ha] at h
      simp only [List.all_cons, Bool.and_eq_true]
      exact ⟨by simpa using ha, ih _ h⟩
def turnB : ByteArray := ⟨#[116, 117, 114, 110]⟩
/-- The parts of a Fault of package turn, by its place and Errno (0: none). -/
def turnW (p : Int × Int) : List (ByteArray × Int) := if p.2 = 0 then [] else [(turnB, p.1)]
/-- What a table that may be is. -/
theorem chkT_ok {I O : Int} {l : List Int} (h : (chkT I O l).2 = 0) : 0 ≤ I ∧ I ≤ 16 ∧ 0 ≤ O ∧ O ≤ 16 ∧ (l.length : Int) = I * O ∧ l.all wgt = true := by
  unfold chkT at h
  split at h
  · simp at h
  · split at h
    · simp at h
    · split at h
      · simp at h
      · rename_i h1 h2 h3
        exact ⟨by omega, by omega, by omega, by omega, by omega, badAt_zero _ _ h⟩
/-- What is wrong with a turn that is put in: a place and an Errno (0: nothing). -/
def withW (I O x y c : Int) : Int × Int :=
  if x < 0 ∨ I ≤ x then (0, 5) else if y < 0 ∨ O ≤ y then (1, 5) else if wgt c = false then (2, 8) else (0, 0)
/-- The table with it. -/
def withT (I O : Int) (l : List Int) (x y c : Int) : Int × Int × List Int := if (withW I O x y c).2 = 0 then (I, O, l.set (x * O + y).toNat c) else (0, 0, [])
/-- The place of a turn lies in the row. -/
theorem place_lt {I O x y n : Int} (hn : n = I * O) (h : 0 ≤ x ∧ x < I ∧ 0 ≤ y ∧ y < O) : 0 ≤ x * O ∧ x * O + y < n := by
  obtain ⟨a, b, c, d⟩ := h
  have h1 : 0 ≤ x * O := Int.mul_nonneg a (by omega)
  have h2 : (x + 1) * O ≤ I * O := Int.mul_le_mul_of_nonneg_right (by omega) (by omega)
  rw [Int.add_mul, Int.one_mul] at h2
  omega
theorem size_le {I O : Int} (h : 0 ≤ I ∧ I ≤ 16 ∧ 0 ≤ O ∧ O ≤ 16) : 0 ≤ I * O ∧ I * O ≤ 256 := by
  obtain ⟨a, b, c, d⟩ := h
  have h1 : 0 ≤ I * O := Int.mul_nonneg a c
  have h2 : I * O ≤ 16 * O := Int.mul_le_mul_of_nonneg_right b c
  omega

end Go.Proofs.YthfljimgpcignaaGreatDoor

/-
  Plain mathematics of tables that are made: free, and without a way back.
-/
namespace Go.Proofs.YthfljimgpcignaaGreatDoor

/-- The table without a way back, of n, after k rounds. -/
def backL (n : Nat) : Nat → List Int
  | 0 => List.replicate (n * n) 0
  | k + 1 => (backL n k).set (k * n + k) 1152921504606846976
theorem backL_length (n k : Nat) : (backL n k).length = n * n := by
  induction k with
  | zero => simp [backL]
  | succ k ih => simp [backL, ih]
theorem backL_lt (n k : Nat) (h : k < n) : k * n + k < n * n := by
  have h1 : (k + 1) * n ≤ n * n := Nat.mul_le_mul_right n h
  rw [Nat.add_mul, Nat.one_mul] at h1
  omega
theorem backL_zero (n k i : Nat) (h : ∀ j, j < k → i ≠ j * n + j) : (backL n k).getD i 0 = 0 := by
  induction k with
  | zero =>
    simp only [backL, List.getD_eq_getElem?_getD, List.getElem?_replicate]
    split <;> rfl
  | succ k ih =>
    have h1 := h k (Nat.lt_succ_self k)
    simp only [backL, List.getD_eq_getElem?_getD]
    rw [List.getElem?_set_ne (Ne.symm h1)]
    simpa [List.getD_eq_getElem?_getD] using ih fun j hj => h j (Nat.lt_succ_of_lt hj)
theorem wgt_zero : wgt 0 = true := by decide
theorem wgt_inf : wgt 1152921504606846976 = true := by decide
theorem backL_wgt (n k : Nat) : (backL n k).all wgt = true := by
  induction k with
  | zero =>
    rw [List.all_eq_true]
    intro x hx
    obtain rfl := List.eq_of_mem_replicate hx
    exact wgt_zero
  | succ k ih =>
    rw [List.all_eq_true] at ih ⊢
    intro x hx
    rcases List.mem_or_eq_of_mem_set hx with h | rfl
    · exact ih x h
    · exact wgt_inf
theorem replicate_wgt (n : Nat) : (List.replicate n (0 : Int)).all wgt = true := by
  rw [List.all_eq_true]
  intro x hx
  obtain rfl := List.eq_of_mem_replicate hx
  exact wgt_zero
theorem bansC_cons (a : Int) (l : List Int) : bansC (a :: l) = (if a = 1152921504606846976 then 1 else 0) + bansC l := by
  unfold bansC
  by_cases h : a = 1152921504606846976
  · simp [h]; omega
  · simp [h]
/-- One more that is forbidden. -/
theorem bansC_set (l : List Int) (i : Nat) (h : i < l.length) (c : Int) : bansC (l.set i c) = bansC l - (if l.getD i 0 = 1152921504606846976 then 1 else 0) + (if c = 1152921504606846976 then 1 else 0) := by
  induction l generalizing i with
  | nil => simp at h
  | cons a r ih =>
    cases i with
    | zero =>
      simp only [List.set_cons_zero, List.getD_cons_zero, bansC_cons]
      split <;> split <;> omega
    | succ i =>
      simp only [List.set_cons_succ, List.getD_cons_succ, bansC_cons, ih i (by simpa using h)]
      omega
theorem bansC_replicate (n : Nat) : bansC (List.replicate n (0 : Int)) = 0 := by
  induction n with
  | zero => rfl
  | succ n ih => rw [List.replicate_succ, bansC_cons, ih]; simp
theorem bansC_backL (n k : Nat) (h : k ≤ n) : bansC (backL n k) = k := by
  induction k with
  | zero => exact bansC_replicate _
  | succ k ih =>
    have h1 := ih (by omega)
    have h2 := backL_lt n k (by omega)
    simp only [backL]
    rw [bansC_set _ _ (by rw [backL_length]; exact h2), backL_zero n k _ (fun j hj e => by
      have : j * n ≤ k * n := Nat.mul_le_mul_right n (by omega)
      omega), h1]
    simp
theorem in64_backL (n k : Nat) : ∀ x ∈ backL n k, -9223372036854775808 ≤ x ∧ x ≤ 9223372036854775807 := by
  induction k with
  | zero =>
    intro x hx
    obtain rfl := List.eq_of_mem_replicate hx
    omega
  | succ k ih =>
    intro x hx
    rcases List.mem_or_eq_of_mem_set hx with h | rfl
    · exact ih x h
    · omega
theorem chkT_mk {I O : Int} {l : List Int} (h0 : 0 ≤ I ∧ I ≤ 16) (h1 : 0 ≤ O ∧ O ≤ 16) (hn : (l.length : Int) = I * O) (hw : l.all wgt = true) : chkT I O l = (0, 0) := by
  unfold chkT
  rw [if_neg (by omega), if_neg (by omega), if_neg (by simpa using hn)]
  exact badAt_ok _ _ hw
theorem chkT_set {I O : Int} {l : List Int} (h : chkT I O l = (0, 0)) (i : Nat) (c : Int) (hc : wgt c = true) : chkT I O (l.set i c) = (0, 0) := by
  obtain ⟨q0, q1, q2, q3, hn, hall⟩ := chkT_ok (I := I) (O := O) (l := l) (by rw [h])
  refine chkT_mk ⟨q0, q1⟩ ⟨q2, q3⟩ (by rw [List.length_set]; exact hn) ?_
  rw [List.all_eq_true] at hall ⊢
  intro x hx
  rcases List.mem_or_eq_of_mem_set hx with h | rfl
  · exact hall x h
  · exact hc

end Go.Proofs.YthfljimgpcignaaGreatDoor

/-
  Plain mathematics of nets: no program stands here.
-/
namespace Go.Proofs.YthfljimgpcignaaGreatDoor

/-- Three numbers: a vertex (x, y, type), an arc (from, to, weight). -/
abbrev Tri := Int × Int × Int
/-- A table: ins, outs, costs. -/
abbrev Tab := Int × Int × List Int
/-- A net. -/
structure NetD where
  v : List Tri
  a : List Tri
  t : List Tab

/-- The places, from k on, of those that are wanted. -/
def idxFrom (p : Tri → Bool) : Int → List Tri → List Int
  | _, [] => []
  | k, x :: r => if p x then k :: idxFrom p (k + 1) r else idxFrom p (k + 1) r
theorem idxFrom_snoc (p : Tri → Bool) : ∀ (k : Int) (l : List Tri) (x : Tri), idxFrom p k (l ++ [x]) = idxFrom p k l ++ (if p x then [k + l.length] else [])
  | k, [], x => by simp [idxFrom]
  | k, y :: r, x => by
    rw [List.cons_append]
    unfold idxFrom
    rw [idxFrom_snoc p (k + 1) r x]
    have e : k + 1 + (r.length : Int) = k + ((y :: r).length : Int) := by simp; omega
    rw [e]
    split <;> simp
theorem idxFrom_length (p : Tri → Bool) : ∀ (k : Int) (l : List Tri), (idxFrom p k l).length ≤ l.length
  | _, [] => by simp [idxFrom]
  | k, x :: r => by
    unfold idxFrom
    have := idxFrom_length p (k + 1) r
    split <;> simp <;> omega
theorem idxFrom_count (p : Tri → Bool) : ∀ (k : Int) (l : List Tri), (idxFrom p k l).length = (l.filter p).length
  | _, [] => by simp [idxFrom]
  | k, x :: r => by
    unfold idxFrom
    have := idxFrom_count p (k + 1) r
    by_cases h : p x = true
    · simp [h, this]
    · simp [h, this]
theorem idxFrom_lo (p : Tri → Bool) : ∀ (k : Int) (l : List Tri), ∀ x ∈ idxFrom p k l, k ≤ x ∧ x < k + l.length
  | _, [] => by simp [idxFrom]
  | k, y :: r => by
    unfold idxFrom
    intro x hx
    have ih := idxFrom_lo p (k + 1) r
    have h : x = k ∨ x ∈ idxFrom p (k + 1) r := by
      split at hx
      · exact List.mem_cons.1 hx
      · exact Or.inr hx
    rcases h with rfl | h
    · simp; omega
    · have := ih x h
      simp; omega
/-- The arcs that end at v, that begin there. -/
def insL (a : List Tri) (v : Int) : List Int := idxFrom (fun x => decide (x.2.1 = v)) 0 a
def outsL (a : List Tri) (v : Int) : List Int := idxFrom (fun x => decide (x.1 = v)) 0 a

/-- The place of a number in a row; -1: it is not there. -/
def placeFrom : Int → List Int → Int → Int
  | _, [], _ => -1
  | k, x :: r, a => if x = a then k else placeFrom (k + 1) r a
def placeL (l : List Int) (a : Int) : Int := placeFrom 0 l a
theorem placeFrom_at (k : Int) (l r : List Int) (x a : Int) (h : ∀ y ∈ l, y ≠ a) (hx : x = a) : placeFrom k (l ++ x :: r) a = k + l.length := by
  induction l generalizing k with
  | nil => simp [placeFrom, hx]
  | cons y s ih =>
    rw [List.cons_append]
    unfold placeFrom
    rw [if_neg (h y (by simp)), ih (k + 1) (fun z hz => h z (by simp [hz]))]
    simp; omega
theorem placeFrom_none (k : Int) (l : List Int) (a : Int) (h : ∀ y ∈ l, y ≠ a) : placeFrom k l a = -1 := by
  induction l generalizing k with
  | nil => rfl
  | cons y s ih =>
    unfold placeFrom
    rw [if_neg (h y (by simp)), ih (k + 1) (fun z hz => h z (by simp [hz]))]
theorem placeFrom_bd (k : Int) (l : List Int) (a : Int) : placeFrom k l a = -1 ∨ (k ≤ placeFrom k l a ∧ placeFrom k l a < k + l.length) := by
  induction l generalizing k with
  | nil => exact Or.inl rfl
  | cons y s ih =>
    unfold placeFrom
    split
    · right; simp; omega
    · rcases ih (k + 1) with h | ⟨h1, h2⟩
      · exact Or.inl h
      · right; simp; omega

namespace NetD
/-- The k-th arc, vertex, table. -/
def arc (n : NetD) (k : Int) : Tri := n.a.getD k.toNat (0, 0, 0)
def vert (n : NetD) (k : Int) : Tri := n.v.getD k.toNat (0, 0, 0)
def tab (n : NetD) (k : Int) : Tab := n.t.getD k.toNat (0, 0, [])
def there (n : NetD) (k : Int) : Bool := decide (0 ≤ k ∧ k < n.a.length)
/-- What it costs to turn from a into b. -/
def turn (n : NetD) (a b : Int) : Int :=
  if n.there a = false then 1152921504606846976 else if n.there b = false then 1152921504606846976 else if (n.arc a).2.1 = (n.arc b).1 then
    let t := n.tab (n.vert (n.arc a).2.1).2.2
    turnAt t.1 t.2.1 t.2.2 (placeL (insL n.a (n.arc a).2.1) a) (placeL (outsL n.a (n.arc a).2.1) b)
  else 1152921504606846976
/-- May the k-th number of the row stand there? -/
def stepOK (n : NetD) (l : List Int) (k : Nat) : Bool :=
  n.there (l.getD k 0) && decide ((n.arc (l.getD k 0)).2.2 ≠ 1152921504606846976) && (decide (k = 0) || decide (n.turn (l.getD (k - 1) 0) (l.getD k 0) ≠ 1152921504606846976))
/-- .. each of the first k? -/
def walkTo (n : NetD) (l : List Int) (k : Nat) : Bool := (List.range k).all (n.stepOK l)
def walk (n : NetD) (l : List Int) : Bool := n.walkTo l l.length && decide (0 < l.length)
theorem walkTo_succ (n : NetD) (l : List Int) (k : Nat) : n.walkTo l (k + 1) = (n.walkTo l k && n.stepOK l k) := by
  unfold walkTo
  rw [List.range_succ, List.all_append]
  simp
theorem walkTo_at {n : NetD} {l : List Int} {k : Nat} (h : n.walkTo l l.length = true) (hk : k < l.length) : n.stepOK l k = true :=
  List.all_eq_true.1 h k (List.mem_range.2 hk)
theorem walkTo_not {n : NetD} {l : List Int} {k : Nat} (h : n.stepOK l k = false) (hk : k < l.length) : n.walkTo l l.length = false := by
  cases hw : n.walkTo l l.length with
  | false => rfl
  | true => rw [walkTo_at hw hk] at h; cases h
/-- What the row's arcs from 1 to k - 1 cost. -/
def costTo (n : NetD) (l : List Int) : Nat → Int
  | 0 => 0
  | 1 => 0
  | k + 2 => addC (n.costTo l (k + 1)) (addC (n.turn (l.getD k 0) (l.getD (k + 1) 0)) (n.arc (l.getD (k + 1) 0)).2.2)
def cost (n : NetD) (l : List Int) : Int := if n.walk l = true then n.costTo l l.length else 1152921504606846976
theorem costTo_lo (n : NetD) (l : List Int) : ∀ k, 0 ≤ n.costTo l k ∧ n.costTo l k ≤ 1152921504606846976
  | 0 => by unfold costTo; omega
  | 1 => by unfold costTo; omega
  | k + 2 => by unfold costTo; exact ⟨addC_lo _ _, addC_hi _ _⟩
end NetD

/-! ### what is wrong with a net -/
def netB : ByteArray := ⟨#[110, 101, 116]⟩
def typeB : ByteArray := ⟨#[116, 121, 112, 101]⟩
def vertB : ByteArray := ⟨#[118, 101, 114, 116]⟩
def arcB : ByteArray := ⟨#[97, 114, 99]⟩
/-- Faults, and an Errno (0: nothing is wrong). -/
abbrev Flt := List (ByteArray × Int) × Int
def fltOK : Flt := ([], 0)
/-- The first of a row that is wrong, from k on. -/
def firstBad {α : Type} (f : Int → α → Flt) : Int → List α → Flt
  | _, [] => fltOK
  | k, x :: r => if (f k x).2 = 0 then firstBad f (k + 1) r else f k x
theorem firstBad_at {α : Type} (f : Int → α → Flt) (k : Int) (l r : List α) (x : α) (h : firstBad f k l = fltOK) (hx : (f (k + l.length) x).2 ≠ 0) : firstBad f k (l ++ x :: r) = f (k + l.length) x := by
  induction l generalizing k with
  | nil => simp only [List.nil_append, firstBad]; rw [if_neg (by simpa using hx)]; simp
  | cons y s ih =>
    rw [List.cons_append]
    unfold firstBad at h ⊢
    have e : k + ((y :: s).length : Int) = k + 1 + (s.length : Int) := by simp; omega
    by_cases hy : (f k y).2 = 0
    · rw [if_pos hy] at h ⊢
      rw [e] at hx ⊢
      exact ih (k + 1) h hx
    · rw [if_neg hy] at h
      rw [h] at hy
      exact absurd rfl hy
theorem firstBad_snoc {α : Type} (f : Int → α → Flt) (k : Int) (l : List α) (x : α) (h : firstBad f k l = fltOK) (hx : (f (k + l.length) x).2 = 0) : firstBad f k (l ++ [x]) = fltOK := by
  induction l generalizing k with
  | nil => simp only [List.nil_append, firstBad]; rw [if_pos (by simpa using hx)]
  | cons y s ih =>
    rw [List.cons_append]
    unfold firstBad at h ⊢
    have e : k + ((y :: s).length : Int) = k + 1 + (s.length : Int) := by simp; omega
    by_cases hy : (f k y).2 = 0
    · rw [if_pos hy] at h ⊢
      rw [e] at hx
      exact ih (k + 1) h hx
    · rw [if_neg hy] at h
      rw [h] at hy
      exact absurd rfl hy
theorem firstBad_each {α : Type} (f : Int → α → Flt) (k : Int) (l : List α) (h : (firstBad f k l).2 = 0) (i : Nat) (hi : i < l.length) : (f (k + i) l[i]).2 = 0 := by
  induction l generalizing k i with
  | nil => simp at hi
  | cons y s ih =>
    unfold firstBad at h
    by_cases hy : (f k y).2 = 0
    · rw [if_pos hy] at h
      cases i with
      | zero => simpa using hy
      | succ i =>
        have := ih (k + 1) h i (by simpa using hi)
        have e : k + ((i + 1 : Nat) : Int) = k + 1 + (i : Int) := by simp; omega
        rw [e]
        exact this
    · rw [if_neg hy] at h
      exact absurd h hy

def coordB (x : Int) : Bool := decide (-1048576 ≤ x ∧ x ≤ 1048576)
def typeFlt (k : Int) (t : Tab) : Flt := if (chkT t.1 t.2.1 t.2.2).2 = 0 then fltOK else ((typeB, k) :: turnW (chkT t.1 t.2.1 t.2.2), (chkT t.1 t.2.1 t.2.2).2)
def vertFlt (types : Int) (k : Int) (v : Tri) : Flt := if coordB v.1 = false then ([(vertB, k)], 1) else if coordB v.2.1 = false then ([(vertB, k)], 1) else if v.2.2 < 0 then ([(vertB, k)], 5) else if types ≤ v.2.2 then ([(vertB, k)], 5) else fltOK
def arcFlt (verts : Int) (k : Int) (a : Tri) : Flt := if a.1 < 0 then ([(arcB, k)], 5) else if verts ≤ a.1 then ([(arcB, k)], 5) else if a.2.1 < 0 then ([(arcB, k)], 5) else if verts ≤ a.2.1 then ([(arcB, k)], 5) else if wgt a.2.2 = false then ([(arcB, k)], 8) else fltOK
/-- How many of the arcs end, begin, at v. -/
def insC (a : List Tri) (v : Int) : Int := ((a.filter fun x => decide (x.2.1 = v)).length : Int)
def outsC (a : List Tri) (v : Int) : Int := ((a.filter fun x => decide (x.1 = v)).length : Int)
def degFlt (n : NetD) (k : Int) (v : Tri) : Flt := if 16 < insC n.a k then ([(vertB, k)], 4) else if 16 < outsC n.a k then ([(vertB, k)], 4) else if ¬ insC n.a k = (n.tab v.2.2).1 then ([(vertB, k)], 9) else if ¬ outsC n.a k = (n.tab v.2.2).2.1 then ([(vertB, k)], 9) else fltOK
def chkN (n : NetD) : Flt :=
  if 4096 < n.v.length then ([(netB, 0)], 4) else if 16384 < n.a.length then ([(netB, 1)], 4) else if 256 < n.t.length then ([(netB, 2)], 4)
  else if (firstBad typeFlt 0 n.t).2 ≠ 0 then firstBad typeFlt 0 n.t
  else if (firstBad (vertFlt n.t.length) 0 n.v).2 ≠ 0 then firstBad (vertFlt n.t.length) 0 n.v
  else if (firstBad (arcFlt n.v.length) 0 n.a).2 ≠ 0 then firstBad (arcFlt n.v.length) 0 n.a
  else firstBad (degFlt n) 0 n.v

end Go.Proofs.YthfljimgpcignaaGreatDoor
