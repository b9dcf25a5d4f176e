/-
  Plain mathematics of nets: no program stands here.
-/
import Derived.Test.YtleheaffipokfaaDoorTabM
import Derived.Test.YtleheaffipokfaaDoorBackM
namespace Go.Proofs.YtleheaffipokfaaDoor

/-- Three numbers: a vertex (x, y, type), an arc (from, to, weight). -/
abbrev Tri := Int × Int × Int
/-- A table: ins, outs, costs. -/
abbrev Tab := Int × Int × List Int
/-- A net. -/
structure NetD where
  v : List Tri
  a : List Tri
  t : List Tab

/-- The places, from k on, of those that are wanted. -/
def idxFrom (p : Tri → Bool) : Int → List Tri → List Int
  | _, [] => []
  | k, x :: r => if p x then k :: idxFrom p (k + 1) r else idxFrom p (k + 1) r
theorem idxFrom_snoc (p : Tri → Bool) : ∀ (k : Int) (l : List Tri) (x : Tri), idxFrom p k (l ++ [x]) = idxFrom p k l ++ (if p x then [k + l.length] else [])
  | k, [], x => by simp [idxFrom]
  | k, y :: r, x => by
    rw [List.cons_append]
    unfold idxFrom
    rw [idxFrom_snoc p (k + 1) r x]
    have e : k + 1 + (r.length : Int) = k + ((y :: r).length : Int) := by simp; omega
    rw [e]
    split <;> simp
theorem idxFrom_length (p : Tri → Bool) : ∀ (k : Int) (l : List Tri), (idxFrom p k l).length ≤ l.length
  | _, [] => by simp [idxFrom]
  | k, x :: r => by
    unfold idxFrom
    have := idxFrom_length p (k + 1) r
    split <;> simp <;> omega
theorem idxFrom_count (p : Tri → Bool) : ∀ (k : Int) (l : List Tri), (idxFrom p k l).length = (l.filter p).length
  | _, [] => by simp [idxFrom]
  | k, x :: r => by
    unfold idxFrom
    have := idxFrom_count p (k + 1) r
    by_cases h : p x = true
    · simp [h, this]
    · simp [h, this]
theorem idxFrom_lo (p : Tri → Bool) : ∀ (k : Int) (l : List Tri), ∀ x ∈ idxFrom p k l, k ≤ x ∧ x < k + l.length
  | _, [] => by simp [idxFrom]
  | k, y :: r => by
    unfold idxFrom
    intro x hx
    have ih := idxFrom_lo p (k + 1) r
    have h : x = k ∨ x ∈ idxFrom p (k + 1) r := by
      split at hx
      · exact List.mem_cons.1 hx
      · exact Or.inr hx
    rcases h with rfl | h
    · simp; omega
    · have := ih x h
      simp; omega
/-- The arcs that end at v, that begin there. -/
def insL (a : List Tri) (v : Int) : List Int := idxFrom (fun x => decide (x.2.1 = v)) 0 a
def outsL (a : List Tri) (v : Int) : List Int := idxFrom (fun x => decide (x.1 = v)) 0 a

/-- The place of a number in a row; -1: it is not there. -/
def placeFrom : Int → List Int → Int → Int
  | _, [], _ => -1
  | k, x :: r, a => if x = a then k else placeFrom (k + 1) r a
def placeL (l : List Int) (a : Int) : Int := placeFrom 0 l a
theorem placeFrom_at (k : Int) (l r : List Int) (x a : Int) (h : ∀ y ∈ l, y ≠ a) (hx : x = a) : placeFrom k (l ++ x :: r) a = k + l.length := by
  induction l generalizing k with
  | nil => simp [placeFrom, hx]
  | cons y s ih =>
    rw [List.cons_append]
    unfold placeFrom
    rw [if_neg (h y (by simp)), ih (k + 1) (fun z hz => h z (by simp [hz]))]
    simp; omega
theorem placeFrom_none (k : Int) (l : List Int) (a : Int) (h : ∀ y ∈ l, y ≠ a) : placeFrom k l a = -1 := by
  induction l generalizing k with
  | nil => rfl
  | cons y s ih =>
    unfold placeFrom
    rw [if_neg (h y (by simp)), ih (k + 1) (fun z hz => h z (by simp [hz]))]
theorem placeFrom_bd (k : Int) (l : List Int) (a : Int) : placeFrom k l a = -1 ∨ (k ≤ placeFrom k l a ∧ placeFrom k l a < k + l.length) := by
  induction l generalizing k with
  | nil => exact Or.inl rfl
  | cons y s ih =>
    unfold placeFrom
    split
    · right; simp; omega
    · rcases ih (k + 1) with h | ⟨h1, h2⟩
      · exact Or.inl h
      · right; simp; omega

namespace NetD
/-- The k-th arc, vertex, table. -/
def arc (n : NetD) (k : Int) : Tri := n.a.getD k.toNat (0, 0, 0)
def vert (n : NetD) (k : Int) : Tri := n.v.getD k.toNat (0, 0, 0)
def tab (n : NetD) (k : Int) : Tab := n.t.getD k.toNat (0, 0, [])
def there (n : NetD) (k : Int) : Bool := decide (0 ≤ k ∧ k < n.a.length)
/-- What it costs to turn from a into b. -/
def turn (n : NetD) (a b : Int) : Int :=
  if n.there a = false then 1152921504606846976 else if n.there b = false then 1152921504606846976 else if (n.arc a).2.1 = (n.arc b).1 then
    let t := n.tab (n.vert (n.arc a).2.1).2.2
    turnAt t.1 t.2.1 t.2.2 (placeL (insL n.a (n.arc a).2.1) a) (placeL (outsL n.a (n.arc a).2.1) b)
  else 1152921504606846976
/-- May the k-th number of the row stand there? -/
def stepOK (n : NetD) (l : List Int) (k : Nat) : Bool :=
  n.there (l.getD k 0) && decide ((n.arc (l.getD k 0)).2.2 ≠ 1152921504606846976) && (decide (k = 0) || decide (n.turn (l.getD (k - 1) 0) (l.getD k 0) ≠ 1152921504606846976))
/-- .. each of the first k? -/
def walkTo (n : NetD) (l : List Int) (k : Nat) : Bool := (List.range k).all (n.stepOK l)
def walk (n : NetD) (l : List Int) : Bool := n.walkTo l l.length && decide (0 < l.length)
theorem walkTo_succ (n : NetD) (l : List Int) (k : Nat) : n.walkTo l (k + 1) = (n.walkTo l k && n.stepOK l k) := by
  unfold walkTo
  rw [List.range_succ, List.all_append]
  simp
theorem walkTo_at {n : NetD} {l : List Int} {k : Nat} (h : n.walkTo l l.length = true) (hk : k < l.length) : n.stepOK l k = true :=
  List.all_eq_true.1 h k (List.mem_range.2 hk)
theorem walkTo_not {n : NetD} {l : List Int} {k : Nat} (h : n.stepOK l k = false) (hk : k < l.length) : n.walkTo l l.length = false := by
  cases hw : n.walkTo l l.length with
  | false => rfl
  | true => rw [walkTo_at hw hk] at h; cases h
/-- What the row's arcs from 1 to k - 1 cost. -/
def costTo (n : NetD) (l : List Int) : Nat → Int
  | 0 => 0
  | 1 => 0
  | k + 2 => addC (n.costTo l (k + 1)) (addC (n.turn (l.getD k 0) (l.getD (k + 1) 0)) (n.arc (l.getD (k + 1) 0)).2.2)
def cost (n : NetD) (l : List Int) : Int := if n.walk l = true then n.costTo l l.length else 1152921504606846976
theorem costTo_lo (n : NetD) (l : List Int) : ∀ k, 0 ≤ n.costTo l k ∧ n.costTo l k ≤ 1152921504606846976
  | 0 => by unfold costTo; omega
  | 1 => by unfold costTo; omega
  | k + 2 => by unfold costTo; exact ⟨addC_lo _ _, addC_hi _ _⟩
end NetD

/-! ### what is wrong with a net -/
def netB : ByteArray := ⟨#[110, 101, 116]⟩
def typeB : ByteArray := ⟨#[116, 121, 112, 101]⟩
def vertB : ByteArray := ⟨#[118, 101, 114, 116]⟩
def arcB : ByteArray := ⟨#[97, 114, 99]⟩
/-- Faults, and an Errno (0: nothing is wrong). -/
abbrev Flt := List (ByteArray × Int) × Int
def fltOK : Flt := ([], 0)
/-- The first of a row that is wrong, from k on. -/
def firstBad {α : Type} (f : Int → α → Flt) : Int → List α → Flt
  | _, [] => fltOK
  | k, x :: r => if (f k x).2 = 0 then firstBad f (k + 1) r else f k x
theorem firstBad_at {α : Type} (f : Int → α → Flt) (k : Int) (l r : List α) (x : α) (h : firstBad f k l = fltOK) (hx : (f (k + l.length) x).2 ≠ 0) : firstBad f k (l ++ x :: r) = f (k + l.length) x := by
  induction l generalizing k with
  | nil => simp only [List.nil_append, firstBad]; rw [if_neg (by simpa using hx)]; simp
  | cons y s ih =>
    rw [List.cons_append]
    unfold firstBad at h ⊢
    have e : k + ((y :: s).length : Int) = k + 1 + (s.length : Int) := by simp; omega
    by_cases hy : (f k y).2 = 0
    · rw [if_pos hy] at h ⊢
      rw [e] at hx ⊢
      exact ih (k + 1) h hx
    · rw [if_neg hy] at h
      rw [h] at hy
      exact absurd rfl hy
theorem firstBad_snoc {α : Type} (f : Int → α → Flt) (k : Int) (l : List α) (x : α) (h : firstBad f k l = fltOK) (hx : (f (k + l.length) x).2 = 0) : firstBad f k (l ++ [x]) = fltOK := by
  induction l generalizing k with
  | nil => simp only [List.nil_append, firstBad]; rw [if_pos (by simpa using hx)]
  | cons y s ih =>
    rw [List.cons_append]
    unfold firstBad at h ⊢
    have e : k + ((y :: s).length : Int) = k + 1 + (s.length : Int) := by simp; omega
    by_cases hy : (f k y).2 = 0
    · rw [if_pos hy] at h ⊢
      rw [e] at hx
      exact ih (k + 1) h hx
    · rw [if_neg hy] at h
      rw [h] at hy
      exact absurd rfl hy
theorem firstBad_each {α : Type} (f : Int → α → Flt) (k : Int) (l : List α) (h : (firstBad f k l).2 = 0) (i : Nat) (hi : i < l.length) : (f (k + i) l[i]).2 = 0 := by
  induction l generalizing k i with
  | nil => simp at hi
  | cons y s ih =>
    unfold firstBad at h
    by_cases hy : (f k y).2 = 0
    · rw [if_pos hy] at h
      cases i with
      | zero => simpa using hy
      | succ i =>
        have := ih (k + 1) h i (by simpa using hi)
        have e : k + ((i + 1 : Nat) : Int) = k + 1 + (i : Int) := by simp; omega
        rw [e]
        exact this
    · rw [if_neg hy] at h
      exact absurd h hy

def coordB (x : Int) : Bool := decide (-1048576 ≤ x ∧ x ≤ 1048576)
def typeFlt (k : Int) (t : Tab) : Flt := if (chkT t.1 t.2.1 t.2.2).2 = 0 then fltOK else ((typeB, k) :: turnW (chkT t.1 t.2.1 t.2.2), (chkT t.1 t.2.1 t.2.2).2)
def vertFlt (types : Int) (k : Int) (v : Tri) : Flt := if coordB v.1 = false then ([(vertB, k)], 1) else if coordB v.2.1 = false then ([(vertB, k)], 1) else if v.2.2 < 0 then ([(vertB, k)], 5) else if types ≤ v.2.2 then ([(vertB, k)], 5) else fltOK
def arcFlt (verts : Int) (k : Int) (a : Tri) : Flt := if a.1 < 0 then ([(arcB, k)], 5) else if verts ≤ a.1 then ([(arcB, k)], 5) else if a.2.1 < 0 then ([(arcB, k)], 5) else if verts ≤ a.2.1 then ([(arcB, k)], 5) else if wgt a.2.2 = false then ([(arcB, k)], 8) else fltOK
/-- How many of the arcs end, begin, at v. -/
def insC (a : List Tri) (v : Int) : Int := ((a.filter fun x => decide (x.2.1 = v)).length : Int)
def outsC (a : List Tri) (v : Int) : Int := ((a.filter fun x => decide (x.1 = v)).length : Int)
def degFlt (n : NetD) (k : Int) (v : Tri) : Flt := if 16 < insC n.a k then ([(vertB, k)], 4) else if 16 < outsC n.a k then ([(vertB, k)], 4) else if ¬ insC n.a k = (n.tab v.2.2).1 then ([(vertB, k)], 9) else if ¬ outsC n.a k = (n.tab v.2.2).2.1 then ([(vertB, k)], 9) else fltOK
def chkN (n : NetD) : Flt :=
  if 4096 < n.v.length then ([(netB, 0)], 4) else if 16384 < n.a.length then ([(netB, 1)], 4) else if 256 < n.t.length then ([(netB, 2)], 4)
  else if (firstBad typeFlt 0 n.t).2 ≠ 0 then firstBad typeFlt 0 n.t
  else if (firstBad (vertFlt n.t.length) 0 n.v).2 ≠ 0 then firstBad (vertFlt n.t.length) 0 n.v
  else if (firstBad (arcFlt n.v.length) 0 n.a).2 ≠ 0 then firstBad (arcFlt n.v.length) 0 n.a
  else firstBad (degFlt n) 0 n.v

end Go.Proofs.YtleheaffipokfaaDoor
