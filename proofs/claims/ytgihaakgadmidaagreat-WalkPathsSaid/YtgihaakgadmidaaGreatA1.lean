/-
  Plain mathematics of costs: no program stands here.
-/
import Derived.WalkKit
import Derived.Test.YtgihaakgadmidaaGreatProg
import Derived.Laws.AppendOwn
import Derived.Laws.OwnMore
namespace Go.Proofs.YtgihaakgadmidaaGreat

theorem ret_int {k : IntKind} {a b : Int} (h : a = b) : Ending.returned (.int k a) = .returned (.int k b) := by rw [h]
theorem ret_bool {a b : Bool} (h : a = b) : Ending.returned (.bool a) = .returned (.bool b) := by rw [h]
/-- A number, held to what a cost may be. -/
def hld (a : Int) : Int := if a < 0 then 0 else if 1152921504606846976 < a then 1152921504606846976 else a
theorem hld_lo (a : Int) : 0 ≤ hld a := by unfold hld; split <;> (try split) <;> omega
theorem hld_hi (a : Int) : hld a ≤ 1152921504606846976 := by unfold hld; split <;> (try split) <;> omega
theorem hld_in (a : Int) (h : 0 ≤ a) (h' : a ≤ 1152921504606846976) : hld a = a := by unfold hld; split <;> (try split) <;> omega
theorem hld_hld (a : Int) : hld (hld a) = hld a := hld_in _ (hld_lo a) (hld_hi a)
theorem hld_big (a : Int) (h : 1152921504606846976 < a) : hld a = 1152921504606846976 := by unfold hld; split <;> (try split) <;> omega
/-- The sum of two, held. -/
def addC (a b : Int) : Int := hld (hld a + hld b)
theorem addC_lo (a b : Int) : 0 ≤ addC a b := hld_lo _
theorem addC_hi (a b : Int) : addC a b ≤ 1152921504606846976 := hld_hi _
/-- May it be a weight? -/
def wgt (a : Int) : Bool := (decide (0 ≤ a) && decide (a ≤ 2147483648)) || decide (a = 1152921504606846976)
theorem take_snoc {α : Type} (l : List α) (k : Nat) (h : k < l.length) : l.take (k + 1) = l.take k ++ [l[k]] := by
  rw [List.take_succ_eq_append_getElem h]

end Go.Proofs.YtgihaakgadmidaaGreat

/-
  Plain mathematics of tables of turns: no program stands here.
-/
namespace Go.Proofs.YtgihaakgadmidaaGreat

/-- What it costs to turn. -/
def turnAt (I O : Int) (l : List Int) (x y : Int) : Int := if x < 0 ∨ I ≤ x ∨ y < 0 ∨ O ≤ y then 1152921504606846976 else l.getD (x * O + y).toNat 0
/-- What is wrong with a table first: a place and an Errno (0: nothing). -/
def badAt : Int → List Int → Int × Int
  | _, [] => (0, 0)
  | k, a :: r => if wgt a = false then (k, 8) else badAt (k + 1) r
def chkT (I O : Int) (l : List Int) : Int × Int :=
  if I < 0 ∨ 16 < I then (0, 1) else if O < 0 ∨ 16 < O then (1, 1) else if ¬ (l.length : Int) = I * O then (2, 9) else badAt 3 l
theorem badAt_ok (k : Int) (l : List Int) (h : l.all wgt = true) : badAt k l = (0, 0) := by
  induction l generalizing k with
  | nil => rfl
  | cons a r ih =>
    simp only [List.all_cons, Bool.and_eq_true] at h
    unfold badAt
    rw [if_neg (by rw [h.1]; decide), ih _ h.2]
theorem badAt_at (k : Int) (l r : List Int) (a : Int) (h : l.all wgt = true) (ha : wgt a = false) : badAt k (l ++ a :: r) = (k + l.length, 8) := by
  induction l generalizing k with
  | nil => simp [badAt, ha]
  | cons b s ih =>
    simp only [List.all_cons, Bool.and_eq_true] at h
    rw [List.cons_append]
    unfold badAt
    rw [if_neg (by rw [h.1]; decide), ih _ h.2, List.length_cons]
    simp; omega
theorem badAt_zero (k : Int) (l : List Int) (h : (badAt k l).2 = 0) : l.all wgt = true := by
  induction l generalizing k with
  | nil => rfl
  | cons a r ih =>
    unfold badAt at h
    by_cases ha : wgt a = false
    · rw [if_pos ha] at h; simp at h
    · rw [if_neg ha] at h
      simp only [List.all_cons, Bool.and_eq_true]
      exact ⟨by simpa using ha, ih _ h⟩
def turnB : ByteArray := ⟨#[116, 117, 114, 110]⟩
/-- The parts of a Fault of package turn, by its place and Errno (0: none). -/
def turnW (p : Int × Int) : List (ByteArray × Int) := if p.2 = 0 then [] else [(turnB, p.1)]
/-- What a table that may be is. -/
theorem chkT_ok {I O : Int} {l : List Int} (h : (chkT I O l).2 = 0) : 0 ≤ I ∧ I ≤ 16 ∧ 0 ≤ O ∧ O ≤ 16 ∧ (l.length : Int) = I * O ∧ l.all wgt = true := by
  unfold chkT at h
  split at h
  · simp at h
  · split at h
    · simp at h
    · split at h
      · simp at h
      · rename_i h1 h2 h3
        exact ⟨by omega, by omega, by omega, by omega, by omega, badAt_zero _ _ h⟩
/-- The place of a turn lies in the row. -/
theorem place_lt {I O x y n : Int} (hn : n = I * O) (h : 0 ≤ x ∧ x < I ∧ 0 ≤ y ∧ y < O) : 0 ≤ x * O ∧ x * O + y < n := by
  obtain ⟨a, b, c, d⟩ := h
  have h1 : 0 ≤ x * O := Int.mul_nonneg a (by omega)
  have h2 : (x + 1) * O ≤ I * O := Int.mul_le_mul_of_nonneg_right (by omega) (by omega)
  rw [Int.add_mul, Int.one_mul] at h2
  omega
theorem size_le {I O : Int} (h : 0 ≤ I ∧ I ≤ 16 ∧ 0 ≤ O ∧ O ≤ 16) : 0 ≤ I * O ∧ I * O ≤ 256 := by
  obtain ⟨a, b, c, d⟩ := h
  have h1 : 0 ≤ I * O := Int.mul_nonneg a c
  have h2 : I * O ≤ 16 * O := Int.mul_le_mul_of_nonneg_right b c
  omega

end Go.Proofs.YtgihaakgadmidaaGreat

/-
  Plain mathematics of tables that are made: free, and without a way back.
-/
namespace Go.Proofs.YtgihaakgadmidaaGreat

theorem chkT_mk {I O : Int} {l : List Int} (h0 : 0 ≤ I ∧ I ≤ 16) (h1 : 0 ≤ O ∧ O ≤ 16) (hn : (l.length : Int) = I * O) (hw : l.all wgt = true) : chkT I O l = (0, 0) := by
  unfold chkT
  rw [if_neg (by omega), if_neg (by omega), if_neg (by simpa using hn)]
  exact badAt_ok _ _ hw
end Go.Proofs.YtgihaakgadmidaaGreat

/-
  Plain mathematics of nets: no program stands here.
-/
namespace Go.Proofs.YtgihaakgadmidaaGreat

/-- Three numbers: a vertex (x, y, type), an arc (from, to, weight). -/
abbrev Tri := Int × Int × Int
/-- A table: ins, outs, costs. -/
abbrev Tab := Int × Int × List Int
/-- A net. -/
structure NetD where
  v : List Tri
  a : List Tri
  t : List Tab

/-- The places, from k on, of those that are wanted. -/
def idxFrom (p : Tri → Bool) : Int → List Tri → List Int
  | _, [] => []
  | k, x :: r => if p x then k :: idxFrom p (k + 1) r else idxFrom p (k + 1) r
theorem idxFrom_snoc (p : Tri → Bool) : ∀ (k : Int) (l : List Tri) (x : Tri), idxFrom p k (l ++ [x]) = idxFrom p k l ++ (if p x then [k + l.length] else [])
  | k, [], x => by simp [idxFrom]
  | k, y :: r, x => by
    rw [List.cons_append]
    unfold idxFrom
    rw [idxFrom_snoc p (k + 1) r x]
    have e : k + 1 + (r.length : Int) = k + ((y :: r).length : Int) := by simp; omega
    rw [e]
    split <;> simp
theorem idxFrom_length (p : Tri → Bool) : ∀ (k : Int) (l : List Tri), (idxFrom p k l).length ≤ l.length
  | _, [] => by simp [idxFrom]
  | k, x :: r => by
    unfold idxFrom
    have := idxFrom_length p (k + 1) r
    split <;> simp <;> omega
theorem idxFrom_count (p : Tri → Bool) : ∀ (k : Int) (l : List Tri), (idxFrom p k l).length = (l.filter p).length
  | _, [] => by simp [idxFrom]
  | k, x :: r => by
    unfold idxFrom
    have := idxFrom_count p (k + 1) r
    by_cases h : p x = true
    · simp [h, this]
    · simp [h, this]
theorem idxFrom_lo (p : Tri → Bool) : ∀ (k : Int) (l : List Tri), ∀ x ∈ idxFrom p k l, k ≤ x ∧ x < k + l.length
  | _, [] => by simp [idxFrom]
  | k, y :: r => by
    unfold idxFrom
    intro x hx
    have ih := idxFrom_lo p (k + 1) r
    have h : x = k ∨ x ∈ idxFrom p (k + 1) r := by
      split at hx
      · exact List.mem_cons.1 hx
      · exact Or.inr hx
    rcases h with rfl | h
    · simp; omega
    · have := ih x h
      simp; omega
/-- The arcs that end at v, that begin there. -/
def insL (a : List Tri) (v : Int) : List Int := idxFrom (fun x => decide (x.2.1 = v)) 0 a
def outsL (a : List Tri) (v : Int) : List Int := idxFrom (fun x => decide (x.1 = v)) 0 a

/-- The place of a number in a row; -1: it is not there. -/
def placeFrom : Int → List Int → Int → Int
  | _, [], _ => -1
  | k, x :: r, a => if x = a then k else placeFrom (k + 1) r a
def placeL (l : List Int) (a : Int) : Int := placeFrom 0 l a
theorem placeFrom_at (k : Int) (l r : List Int) (x a : Int) (h : ∀ y ∈ l, y ≠ a) (hx : x = a) : placeFrom k (l ++ x :: r) a = k + l.length := by
  induction l generalizing k with
  | nil => simp [placeFrom, hx]
  | cons y s ih =>
    rw [List.cons_append]
    unfold placeFrom
    rw [if_neg (h y (by simp)), ih (k + 1) (fun z hz => h z (by simp [hz]))]
    simp; omega
theorem placeFrom_none (k : Int) (l : List Int) (a : Int) (h : ∀ y ∈ l, y ≠ a) : placeFrom k l a = -1 := by
  induction l generalizing k with
  | nil => rfl
  | cons y s ih =>
    unfold placeFrom
    rw [if_neg (h y (by simp)), ih (k + 1) (fun z hz => h z (by simp [hz]))]
namespace NetD
/-- The k-th arc, vertex, table. -/
def arc (n : NetD) (k : Int) : Tri := n.a.getD k.toNat (0, 0, 0)
def vert (n : NetD) (k : Int) : Tri := n.v.getD k.toNat (0, 0, 0)
def tab (n : NetD) (k : Int) : Tab := n.t.getD k.toNat (0, 0, [])
def there (n : NetD) (k : Int) : Bool := decide (0 ≤ k ∧ k < n.a.length)
/-- What it costs to turn from a into b. -/
def turn (n : NetD) (a b : Int) : Int :=
  if n.there a = false then 1152921504606846976 else if n.there b = false then 1152921504606846976 else if (n.arc a).2.1 = (n.arc b).1 then
    let t := n.tab (n.vert (n.arc a).2.1).2.2
    turnAt t.1 t.2.1 t.2.2 (placeL (insL n.a (n.arc a).2.1) a) (placeL (outsL n.a (n.arc a).2.1) b)
  else 1152921504606846976
/-- May the k-th number of the row stand there? -/
def stepOK (n : NetD) (l : List Int) (k : Nat) : Bool :=
  n.there (l.getD k 0) && decide ((n.arc (l.getD k 0)).2.2 ≠ 1152921504606846976) && (decide (k = 0) || decide (n.turn (l.getD (k - 1) 0) (l.getD k 0) ≠ 1152921504606846976))
/-- .. each of the first k? -/
def walkTo (n : NetD) (l : List Int) (k : Nat) : Bool := (List.range k).all (n.stepOK l)
def walk (n : NetD) (l : List Int) : Bool := n.walkTo l l.length && decide (0 < l.length)
theorem walkTo_succ (n : NetD) (l : List Int) (k : Nat) : n.walkTo l (k + 1) = (n.walkTo l k && n.stepOK l k) := by
  unfold walkTo
  rw [List.range_succ, List.all_append]
  simp
theorem walkTo_at {n : NetD} {l : List Int} {k : Nat} (h : n.walkTo l l.length = true) (hk : k < l.length) : n.stepOK l k = true :=
  List.all_eq_true.1 h k (List.mem_range.2 hk)
theorem walkTo_not {n : NetD} {l : List Int} {k : Nat} (h : n.stepOK l k = false) (hk : k < l.length) : n.walkTo l l.length = false := by
  cases hw : n.walkTo l l.length with
  | false => rfl
  | true => rw [walkTo_at hw hk] at h; cases h
/-- What the row's arcs from 1 to k - 1 cost. -/
def costTo (n : NetD) (l : List Int) : Nat → Int
  | 0 => 0
  | 1 => 0
  | k + 2 => addC (n.costTo l (k + 1)) (addC (n.turn (l.getD k 0) (l.getD (k + 1) 0)) (n.arc (l.getD (k + 1) 0)).2.2)
def cost (n : NetD) (l : List Int) : Int := if n.walk l = true then n.costTo l l.length else 1152921504606846976
theorem costTo_lo (n : NetD) (l : List Int) : ∀ k, 0 ≤ n.costTo l k ∧ n.costTo l k ≤ 1152921504606846976
  | 0 => by unfold costTo; omega
  | 1 => by unfold costTo; omega
  | k + 2 => by unfold costTo; exact ⟨addC_lo _ _, addC_hi _ _⟩
end NetD

/-! ### what is wrong with a net -/
def netB : ByteArray := ⟨#[110, 101, 116]⟩
def typeB : ByteArray := ⟨#[116, 121, 112, 101]⟩
def vertB : ByteArray := ⟨#[118, 101, 114, 116]⟩
def arcB : ByteArray := ⟨#[97, 114, 99]⟩
/-- Faults, and an Errno (0: nothing is wrong). -/
abbrev Flt := List (ByteArray × Int) × Int
def fltOK : Flt := ([], 0)
/-- The first of a row that is wrong, from k on. -/
def firstBad {α : Type} (f : Int → α → Flt) : Int → List α → Flt
  | _, [] => fltOK
  | k, x :: r => if (f k x).2 = 0 then firstBad f (k + 1) r else f k x
theorem firstBad_at {α : Type} (f : Int → α → Flt) (k : Int) (l r : List α) (x : α) (h : firstBad f k l = fltOK) (hx : (f (k + l.length) x).2 ≠ 0) : firstBad f k (l ++ x :: r) = f (k + l.length) x := by
  induction l generalizing k with
  | nil => simp only [List.nil_append, firstBad]; rw [if_neg (by simpa using hx)]; simp
  | cons y s ih =>
    rw [List.cons_append]
    unfold firstBad at h ⊢
    have e : k + ((y :: s).length : Int) = k + 1 + (s.length : Int) := by simp; omega
    by_cases hy : (f k y).2 = 0
    · rw [if_pos hy] at h ⊢
      rw [e] at hx ⊢
      exact ih (k + 1) h hx
    · rw [if_neg hy] at h
      rw [h] at hy
      exact absurd rfl hy
theorem firstBad_snoc {α : Type} (f : Int → α → Flt) (k : Int) (l : List α) (x : α) (h : firstBad f k l = fltOK) (hx : (f (k + l.length) x).2 = 0) : firstBad f k (l ++ [x]) = fltOK := by
  induction l generalizing k with
  | nil => simp only [List.nil_append, firstBad]; rw [if_pos (by simpa using hx)]
  | cons y s ih =>
    rw [List.cons_append]
    unfold firstBad at h ⊢
    have e : k + ((y :: s).length : Int) = k + 1 + (s.length : Int) := by simp; omega
    by_cases hy : (f k y).2 = 0
    · rw [if_pos hy] at h ⊢
      rw [e] at hx
      exact ih (k + 1) h hx
    · rw [if_neg hy] at h
      rw [h] at hy
      exact absurd rfl hy
theorem firstBad_each {α : Type} (f : Int → α → Flt) (k : Int) (l : List α) (h : (firstBad f k l).2 = 0) (i : Nat) (hi : i < l.length) : (f (k + i) l[i]).2 = 0 := by
  induction l generalizing k i with
  | nil => simp at hi
  | cons y s ih =>
    unfold firstBad at h
    by_cases hy : (f k y).2 = 0
    · rw [if_pos hy] at h
      cases i with
      | zero => simpa using hy
      | succ i =>
        have := ih (k + 1) h i (by simpa using hi)
        have e : k + ((i + 1 : Nat) : Int) = k + 1 + (i : Int) := by simp; omega
        rw [e]
        exact this
    · rw [if_neg hy] at h
      exact absurd h hy

def coordB (x : Int) : Bool := decide (-1048576 ≤ x ∧ x ≤ 1048576)
def typeFlt (k : Int) (t : Tab) : Flt := if (chkT t.1 t.2.1 t.2.2).2 = 0 then fltOK else ((typeB, k) :: turnW (chkT t.1 t.2.1 t.2.2), (chkT t.1 t.2.1 t.2.2).2)
def vertFlt (types : Int) (k : Int) (v : Tri) : Flt := if coordB v.1 = false then ([(vertB, k)], 1) else if coordB v.2.1 = false then ([(vertB, k)], 1) else if v.2.2 < 0 then ([(vertB, k)], 5) else if types ≤ v.2.2 then ([(vertB, k)], 5) else fltOK
def arcFlt (verts : Int) (k : Int) (a : Tri) : Flt := if a.1 < 0 then ([(arcB, k)], 5) else if verts ≤ a.1 then ([(arcB, k)], 5) else if a.2.1 < 0 then ([(arcB, k)], 5) else if verts ≤ a.2.1 then ([(arcB, k)], 5) else if wgt a.2.2 = false then ([(arcB, k)], 8) else fltOK
/-- How many of the arcs end, begin, at v. -/
def insC (a : List Tri) (v : Int) : Int := ((a.filter fun x => decide (x.2.1 = v)).length : Int)
def outsC (a : List Tri) (v : Int) : Int := ((a.filter fun x => decide (x.1 = v)).length : Int)
def degFlt (n : NetD) (k : Int) (v : Tri) : Flt := if 16 < insC n.a k then ([(vertB, k)], 4) else if 16 < outsC n.a k then ([(vertB, k)], 4) else if ¬ insC n.a k = (n.tab v.2.2).1 then ([(vertB, k)], 9) else if ¬ outsC n.a k = (n.tab v.2.2).2.1 then ([(vertB, k)], 9) else fltOK
def chkN (n : NetD) : Flt :=
  if 4096 < n.v.length then ([(netB, 0)], 4) else if 16384 < n.a.length then ([(netB, 1)], 4) else if 256 < n.t.length then ([(netB, 2)], 4)
  else if (firstBad typeFlt 0 n.t).2 ≠ 0 then firstBad typeFlt 0 n.t
  else if (firstBad (vertFlt n.t.length) 0 n.v).2 ≠ 0 then firstBad (vertFlt n.t.length) 0 n.v
  else if (firstBad (arcFlt n.v.length) 0 n.a).2 ≠ 0 then firstBad (arcFlt n.v.length) 0 n.a
  else firstBad (degFlt n) 0 n.v

end Go.Proofs.YtgihaakgadmidaaGreat

/-
  Rows of 64-bit numbers as they lie in memory.
-/
namespace Go.Proofs.YtgihaakgadmidaaGreat
open Go.RowKit

/-- The value v is a row of 64-bit numbers, read in world w. -/
def I64s (w : World) (v : Value) (l : List Int) : Prop :=
  (l = [] ∧ ∃ p c, v = .slice p 0 c ∧ (p = none → c = 0)) ∨ (l.length ≤ 9223372036854775807 ∧ ∃ b o c, l.length ≤ c ∧ c ≤ 9223372036854775807 ∧ v = .slice (some ⟨b, o, none⟩) l.length c ∧ ∀ i (h : i < l.length), w.cell? ⟨b, o + i, none⟩ = some (.int .i64 l[i]))
/-- All of them are 64-bit numbers. -/
def In64 (l : List Int) : Prop := ∀ x ∈ l, -9223372036854775808 ≤ x ∧ x ≤ 9223372036854775807

theorem I64s.shape {w : World} {v : Value} {l : List Int} (h : I64s w v l) : ∃ q c, v = .slice q l.length c := by
  rcases h with ⟨rfl, p, c, rfl, -⟩ | ⟨_, b, o, c, -, -, rfl, _⟩
  · exact ⟨p, c, rfl⟩
  · exact ⟨_, c, rfl⟩
theorem I64s.below {w w' : World} {v : Value} {l : List Int} (h : I64s w v l) (hb : Below w.heap.size w w') : I64s w' v l := by
  rcases h with h | ⟨hl, b, o, c, h1, h2, rfl, hc⟩
  · exact Or.inl h
  · exact Or.inr ⟨hl, b, o, c, h1, h2, rfl, fun i hi => (hb.cell (World.block_lt_of_cell? w _ (hc i hi))).trans (hc i hi)⟩

end Go.Proofs.YtgihaakgadmidaaGreat

/-
  Nets as they lie in memory.
-/
namespace Go.Proofs.YtgihaakgadmidaaGreat
open Go.RowKit

/-- The value v is a row of structs of three numbers. -/
def Tris (w : World) (v : Value) (l : List Tri) : Prop :=
  (l = [] ∧ ∃ p c, v = .slice p 0 c ∧ (p = none → c = 0)) ∨ (l.length ≤ 9223372036854775807 ∧ ∃ b o c, l.length ≤ c ∧ c ≤ 9223372036854775807 ∧ v = .slice (some ⟨b, o, none⟩) l.length c ∧
    ∀ i (h : i < l.length), w.cell? ⟨b, o + i * 3, none⟩ = some (.int .i64 l[i].1) ∧ w.cell? ⟨b, o + i * 3 + 1, none⟩ = some (.int .i64 l[i].2.1) ∧ w.cell? ⟨b, o + i * 3 + 2, none⟩ = some (.int .i64 l[i].2.2))
/-- All of them are 64-bit numbers. -/
def InTri (l : List Tri) : Prop := ∀ x ∈ l, (-9223372036854775808 ≤ x.1 ∧ x.1 ≤ 9223372036854775807) ∧ (-9223372036854775808 ≤ x.2.1 ∧ x.2.1 ≤ 9223372036854775807) ∧ (-9223372036854775808 ≤ x.2.2 ∧ x.2.2 ≤ 9223372036854775807)
theorem Tris.shape {w : World} {v : Value} {l : List Tri} (h : Tris w v l) : ∃ q c, v = .slice q l.length c := by
  rcases h with ⟨rfl, p, c, rfl, -⟩ | ⟨_, b, o, c, -, -, rfl, _⟩
  · exact ⟨p, c, rfl⟩
  · exact ⟨_, c, rfl⟩
theorem Tris.below {w w' : World} {v : Value} {l : List Tri} (h : Tris w v l) (hb : Below w.heap.size w w') : Tris w' v l := by
  rcases h with h | ⟨hl, b, o, c, h1, h2, rfl, hc⟩
  · exact Or.inl h
  · refine Or.inr ⟨hl, b, o, c, h1, h2, rfl, fun i hi => ?_⟩
    obtain ⟨x, y, z⟩ := hc i hi
    exact ⟨(hb.cell (World.block_lt_of_cell? w _ x)).trans x, (hb.cell (World.block_lt_of_cell? w _ y)).trans y, (hb.cell (World.block_lt_of_cell? w _ z)).trans z⟩
theorem Tris.le {w : World} {v : Value} {l : List Tri} (h : Tris w v l) : l.length ≤ 9223372036854775807 := by
  rcases h with ⟨rfl, _⟩ | ⟨h, _⟩
  · simp
  · exact h
/-- The cells of the k-th. -/
theorem Tris.at {w : World} {q : Option Addr} {n c : Nat} {l : List Tri} (h : Tris w (.slice q n c) l) {k : Nat} (hk : k < l.length) :
    ∃ b o, q = some ⟨b, o, none⟩ ∧ w.cell? ⟨b, o + k * 3, none⟩ = some (.int .i64 l[k].1) ∧ w.cell? ⟨b, o + k * 3 + 1, none⟩ = some (.int .i64 l[k].2.1) ∧ w.cell? ⟨b, o + k * 3 + 2, none⟩ = some (.int .i64 l[k].2.2) := by
  rcases h with ⟨rfl, _⟩ | ⟨_, b, o, c', _, _, e, hc⟩
  · simp at hk
  · injection e with e1
    exact ⟨b, o, e1, hc k hk⟩

/-- The value v is a row of tables. -/
def Tabs (w : World) (v : Value) (l : List Tab) : Prop :=
  (l = [] ∧ ∃ p c, v = .slice p 0 c ∧ (p = none → c = 0)) ∨ (l.length ≤ 9223372036854775807 ∧ ∃ b o c, l.length ≤ c ∧ c ≤ 9223372036854775807 ∧ v = .slice (some ⟨b, o, none⟩) l.length c ∧
    ∀ i (h : i < l.length), ∃ u, w.cell? ⟨b, o + i * 3, none⟩ = some (.int .i64 l[i].1) ∧ w.cell? ⟨b, o + i * 3 + 1, none⟩ = some (.int .i64 l[i].2.1) ∧ w.cell? ⟨b, o + i * 3 + 2, none⟩ = some u ∧ I64s w u l[i].2.2)
def InTab (l : List Tab) : Prop := ∀ x ∈ l, (-9223372036854775808 ≤ x.1 ∧ x.1 ≤ 9223372036854775807) ∧ (-9223372036854775808 ≤ x.2.1 ∧ x.2.1 ≤ 9223372036854775807) ∧ In64 x.2.2
theorem Tabs.shape {w : World} {v : Value} {l : List Tab} (h : Tabs w v l) : ∃ q c, v = .slice q l.length c := by
  rcases h with ⟨rfl, p, c, rfl, -⟩ | ⟨_, b, o, c, -, -, rfl, _⟩
  · exact ⟨p, c, rfl⟩
  · exact ⟨_, c, rfl⟩
theorem Tabs.below {w w' : World} {v : Value} {l : List Tab} (h : Tabs w v l) (hb : Below w.heap.size w w') : Tabs w' v l := by
  rcases h with h | ⟨hl, b, o, c, h1, h2, rfl, hc⟩
  · exact Or.inl h
  · refine Or.inr ⟨hl, b, o, c, h1, h2, rfl, fun i hi => ?_⟩
    obtain ⟨u, x, y, z, r⟩ := hc i hi
    exact ⟨u, (hb.cell (World.block_lt_of_cell? w _ x)).trans x, (hb.cell (World.block_lt_of_cell? w _ y)).trans y, (hb.cell (World.block_lt_of_cell? w _ z)).trans z, r.below hb⟩
theorem Tabs.le {w : World} {v : Value} {l : List Tab} (h : Tabs w v l) : l.length ≤ 9223372036854775807 := by
  rcases h with ⟨rfl, _⟩ | ⟨h, _⟩
  · simp
  · exact h
theorem Tabs.at {w : World} {q : Option Addr} {n c : Nat} {l : List Tab} (h : Tabs w (.slice q n c) l) {k : Nat} (hk : k < l.length) :
    ∃ b o u, q = some ⟨b, o, none⟩ ∧ w.cell? ⟨b, o + k * 3, none⟩ = some (.int .i64 l[k].1) ∧ w.cell? ⟨b, o + k * 3 + 1, none⟩ = some (.int .i64 l[k].2.1) ∧ w.cell? ⟨b, o + k * 3 + 2, none⟩ = some u ∧ I64s w u l[k].2.2 := by
  rcases h with ⟨rfl, _⟩ | ⟨_, b, o, c', _, _, e, hc⟩
  · simp at hk
  · injection e with e1
    obtain ⟨u, h⟩ := hc k hk
    exact ⟨b, o, u, e1, h⟩

/-- The value v is a net. -/
def NetV (w : World) (v : Value) (n : NetD) : Prop := ∃ uv ua ut, v = .agg #[uv, ua, ut] ∧ Tris w uv n.v ∧ Tris w ua n.a ∧ Tabs w ut n.t
theorem NetV.below {w w' : World} {v : Value} {n : NetD} (h : NetV w v n) (hb : Below w.heap.size w w') : NetV w' v n := by
  obtain ⟨uv, ua, ut, e, h1, h2, h3⟩ := h
  exact ⟨uv, ua, ut, e, h1.below hb, h2.below hb, h3.below hb⟩
/-- All of its numbers are 64-bit numbers. -/
def InNet (n : NetD) : Prop := InTri n.v ∧ InTri n.a ∧ InTab n.t
/-- A row of a known shape. -/
structure NetS (w : World) (n : NetD) (vq aq tq : Option Addr) (vc ac tc : Nat) : Prop where
  v : Tris w (.slice vq n.v.length vc) n.v
  a : Tris w (.slice aq n.a.length ac) n.a
  t : Tabs w (.slice tq n.t.length tc) n.t
theorem NetS.below {w w' : World} {n : NetD} {vq aq tq : Option Addr} {vc ac tc : Nat} (h : NetS w n vq aq tq vc ac tc) (hb : Below w.heap.size w w') : NetS w' n vq aq tq vc ac tc := ⟨h.v.below hb, h.a.below hb, h.t.below hb⟩
theorem NetV.shape {w : World} {v : Value} {n : NetD} (h : NetV w v n) : ∃ vq aq tq vc ac tc, v = .agg #[.slice vq n.v.length vc, .slice aq n.a.length ac, .slice tq n.t.length tc] ∧ NetS w n vq aq tq vc ac tc := by
  obtain ⟨uv, ua, ut, rfl, h1, h2, h3⟩ := h
  obtain ⟨vq, vc, rfl⟩ := h1.shape
  obtain ⟨aq, ac, rfl⟩ := h2.shape
  obtain ⟨tq, tc, rfl⟩ := h3.shape
  exact ⟨vq, aq, tq, vc, ac, tc, rfl, h1, h2, h3⟩

end Go.Proofs.YtgihaakgadmidaaGreat

/-
  Plain mathematics of a turn that is put into a table: no program stands here.
-/
namespace Go.Proofs.YtgihaakgadmidaaGreat

theorem wgt_in {c : Int} (h : wgt c = true) : 0 ≤ c ∧ c ≤ 1152921504606846976 := by
  unfold wgt at h
  simp only [Bool.or_eq_true, Bool.and_eq_true, decide_eq_true_eq] at h
  omega
end Go.Proofs.YtgihaakgadmidaaGreat

/-
  Plain mathematics of nets that may be: no program stands here.
-/
namespace Go.Proofs.YtgihaakgadmidaaGreat

/-- A net that may be. -/
structure NetGood (n : NetD) : Prop where
  sv : n.v.length ≤ 4096
  sa : n.a.length ≤ 16384
  st : n.t.length ≤ 256
  tabs : ∀ k (h : k < n.t.length), chkT n.t[k].1 n.t[k].2.1 n.t[k].2.2 = (0, 0)
  verts : ∀ k (h : k < n.v.length), coordB n.v[k].1 = true ∧ coordB n.v[k].2.1 = true ∧ 0 ≤ n.v[k].2.2 ∧ n.v[k].2.2 < n.t.length
  arcs : ∀ k (h : k < n.a.length), 0 ≤ n.a[k].1 ∧ n.a[k].1 < n.v.length ∧ 0 ≤ n.a[k].2.1 ∧ n.a[k].2.1 < n.v.length ∧ wgt n.a[k].2.2 = true
  degs : ∀ k (h : k < n.v.length), insC n.a k ≤ 16 ∧ outsC n.a k ≤ 16 ∧ insC n.a k = (n.tab n.v[k].2.2).1 ∧ outsC n.a k = (n.tab n.v[k].2.2).2.1

theorem chkT_zero {I O : Int} {l : List Int} (h : (chkT I O l).2 = 0) : chkT I O l = (0, 0) := by
  obtain ⟨q0, q1, q2, q3, hn, hall⟩ := chkT_ok h
  exact chkT_mk ⟨q0, q1⟩ ⟨q2, q3⟩ hn hall
theorem typeFlt_ok {k : Int} {t : Tab} (h : (typeFlt k t).2 = 0) : chkT t.1 t.2.1 t.2.2 = (0, 0) := by
  unfold typeFlt at h
  by_cases h0 : (chkT t.1 t.2.1 t.2.2).2 = 0
  · exact chkT_zero h0
  · rw [if_neg h0] at h; exact absurd h h0
theorem vertFlt_ok {m k : Int} {v : Tri} (h : (vertFlt m k v).2 = 0) : coordB v.1 = true ∧ coordB v.2.1 = true ∧ 0 ≤ v.2.2 ∧ v.2.2 < m := by
  unfold vertFlt at h
  split at h
  · simp at h
  · split at h
    · simp at h
    · split at h
      · simp at h
      · split at h
        · simp at h
        · rename_i h1 h2 h3 h4
          exact ⟨by simpa using h1, by simpa using h2, by omega, by omega⟩
theorem arcFlt_ok {m k : Int} {a : Tri} (h : (arcFlt m k a).2 = 0) : 0 ≤ a.1 ∧ a.1 < m ∧ 0 ≤ a.2.1 ∧ a.2.1 < m ∧ wgt a.2.2 = true := by
  unfold arcFlt at h
  split at h
  · simp at h
  · split at h
    · simp at h
    · split at h
      · simp at h
      · split at h
        · simp at h
        · split at h
          · simp at h
          · rename_i h1 h2 h3 h4 h5
            exact ⟨by omega, by omega, by omega, by omega, by simpa using h5⟩
theorem degFlt_ok {n : NetD} {k : Int} {v : Tri} (h : (degFlt n k v).2 = 0) : insC n.a k ≤ 16 ∧ outsC n.a k ≤ 16 ∧ insC n.a k = (n.tab v.2.2).1 ∧ outsC n.a k = (n.tab v.2.2).2.1 := by
  unfold degFlt at h
  split at h
  · simp at h
  · split at h
    · simp at h
    · split at h
      · simp at h
      · split at h
        · simp at h
        · rename_i h1 h2 h3 h4
          exact ⟨by omega, by omega, by omega, by omega⟩
theorem good_of {n : NetD} (h : (chkN n).2 = 0) : NetGood n := by
  unfold chkN at h
  split at h
  · simp at h
  split at h
  · simp at h
  split at h
  · simp at h
  split at h
  · rename_i h0; exact absurd h h0
  split at h
  · rename_i h0; exact absurd h h0
  split at h
  · rename_i h0; exact absurd h h0
  rename_i h1 h2 h3 h4 h5 h6
  refine ⟨by omega, by omega, by omega, fun k hk => ?_, fun k hk => ?_, fun k hk => ?_, fun k hk => ?_⟩
  · exact typeFlt_ok (firstBad_each _ _ _ (Classical.not_not.1 h4) k hk)
  · exact vertFlt_ok (firstBad_each _ _ _ (Classical.not_not.1 h5) k hk)
  · exact arcFlt_ok (firstBad_each _ _ _ (Classical.not_not.1 h6) k hk)
  · have := degFlt_ok (firstBad_each _ _ _ h k hk)
    rwa [Int.zero_add] at this
namespace NetGood
/-- The arc of a number, its ends. -/
theorem arc_at {n : NetD} (k : Nat) (h : k < n.a.length) : n.arc k = n.a[k] := by
  unfold NetD.arc
  rw [Int.toNat_natCast, List.getD_eq_getElem?_getD, List.getElem?_eq_getElem h, Option.getD_some]
theorem vert_at {n : NetD} (k : Nat) (h : k < n.v.length) : n.vert k = n.v[k] := by
  unfold NetD.vert
  rw [Int.toNat_natCast, List.getD_eq_getElem?_getD, List.getElem?_eq_getElem h, Option.getD_some]
theorem tab_at {n : NetD} (k : Nat) (h : k < n.t.length) : n.tab k = n.t[k] := by
  unfold NetD.tab
  rw [Int.toNat_natCast, List.getD_eq_getElem?_getD, List.getElem?_eq_getElem h, Option.getD_some]
end NetGood
theorem there_of {n : NetD} {k : Int} (h : n.there k = true) : ∃ j : Nat, k = j ∧ j < n.a.length := by
  unfold NetD.there at h
  have := of_decide_eq_true h
  exact ⟨k.toNat, by omega, by omega⟩
theorem there_at {n : NetD} {j : Nat} (h : j < n.a.length) : n.there j = true := by
  unfold NetD.there
  simp; omega

/-- A turn's cost is one. -/
theorem turnAt_bd {I O : Int} {l : List Int} (h : chkT I O l = (0, 0)) (x y : Int) : 0 ≤ turnAt I O l x y ∧ turnAt I O l x y ≤ 1152921504606846976 := by
  obtain ⟨q0, q1, q2, q3, hn, hall⟩ := chkT_ok (I := I) (O := O) (l := l) (by rw [h])
  unfold turnAt
  split
  · omega
  · rw [List.getD_eq_getElem?_getD]
    by_cases hk : (x * O + y).toNat < l.length
    · rw [List.getElem?_eq_getElem hk, Option.getD_some]
      exact wgt_in (List.all_eq_true.1 hall _ (List.getElem_mem _))
    · rw [List.getElem?_eq_none (by omega), Option.getD_none]
      omega
theorem turn_bd {n : NetD} (hg : NetGood n) (a b : Int) : 0 ≤ n.turn a b ∧ n.turn a b ≤ 1152921504606846976 := by
  unfold NetD.turn
  cases ha : n.there a with
  | false => rw [if_pos rfl]; omega
  | true =>
    rw [if_neg (by simp)]
    cases hb : n.there b with
    | false => rw [if_pos rfl]; omega
    | true =>
      rw [if_neg (by simp)]
      obtain ⟨ka, rfl, hka⟩ := there_of ha
      obtain ⟨kb, rfl, hkb⟩ := there_of hb
      rw [NetGood.arc_at ka hka, NetGood.arc_at kb hkb]
      by_cases he : n.a[ka].2.1 = n.a[kb].1
      · rw [if_pos he]
        obtain ⟨-, -, g0, g1, -⟩ := hg.arcs ka hka
        obtain ⟨kv, ekv⟩ : ∃ kv : Nat, n.a[ka].2.1 = kv := ⟨n.a[ka].2.1.toNat, by omega⟩
        have hkv : kv < n.v.length := by omega
        obtain ⟨-, -, g2, g3⟩ := hg.verts kv hkv
        obtain ⟨kt, ekt⟩ : ∃ kt : Nat, n.v[kv].2.2 = kt := ⟨n.v[kv].2.2.toNat, by omega⟩
        have hkt : kt < n.t.length := by omega
        simp only [ekv, NetGood.vert_at kv hkv, ekt, NetGood.tab_at kt hkt]
        exact turnAt_bd (hg.tabs kt hkt) _ _
      · rw [if_neg he]; omega
/-- A step that is none: why. -/
theorem stepOK_of {n : NetD} {l : List Int} {k : Nat} (hk : k < l.length) {A : Int} (hA : l[k] = A) : n.stepOK l k = (n.there A && decide ((n.arc A).2.2 ≠ 1152921504606846976) && (decide (k = 0) || decide (n.turn (l.getD (k - 1) 0) A ≠ 1152921504606846976))) := by
  unfold NetD.stepOK
  rw [List.getD_eq_getElem?_getD, List.getElem?_eq_getElem hk, Option.getD_some, hA]
/-- The cell of the k-th. -/
theorem I64s.at {w : World} {q : Option Addr} {n c : Nat} {l : List Int} (h : I64s w (.slice q n c) l) {k : Nat} (hk : k < l.length) : ∃ b o, q = some ⟨b, o, none⟩ ∧ w.cell? ⟨b, o + k, none⟩ = some (.int .i64 l[k]) := by
  rcases h with ⟨rfl, _⟩ | ⟨_, b, o, c', _, _, e, hc⟩
  · simp at hk
  · injection e with e1
    exact ⟨b, o, e1, hc k hk⟩

end Go.Proofs.YtgihaakgadmidaaGreat

/-
  Plain mathematics of what is wrong with a net; rows of counts.
-/
namespace Go.Proofs.YtgihaakgadmidaaGreat

theorem fb_bad {α : Type} {f : Int → α → Flt} {l : List α} {k : Nat} (hk : k < l.length) (h : firstBad f 0 (l.take k) = fltOK) (hx : (f k l[k]).2 ≠ 0) : firstBad f 0 l = f k l[k] := by
  have e : l = l.take k ++ l[k] :: l.drop (k + 1) := by rw [List.getElem_cons_drop, List.take_append_drop]
  have hl : (0 : Int) + ((l.take k).length : Int) = k := by rw [List.length_take, Nat.min_eq_left (by omega), Int.zero_add]
  conv => lhs; rw [e]
  rw [firstBad_at f 0 _ _ _ h (by rw [hl]; exact hx), hl]
theorem fb_ok {α : Type} {f : Int → α → Flt} {l : List α} {k : Nat} (hk : k < l.length) (h : firstBad f 0 (l.take k) = fltOK) (hx : (f k l[k]).2 = 0) : firstBad f 0 (l.take (k + 1)) = fltOK := by
  have hl : (0 : Int) + ((l.take k).length : Int) = k := by rw [List.length_take, Nat.min_eq_left (by omega), Int.zero_add]
  rw [take_snoc l k hk]
  exact firstBad_snoc f 0 _ _ h (by rw [hl]; exact hx)
structure NetSmall (n : NetD) : Prop where
  v : n.v.length ≤ 4096
  a : n.a.length ≤ 16384
  t : n.t.length ≤ 256
theorem chkN_t {n : NetD} (h : NetSmall n) {x : Flt} (e : firstBad typeFlt 0 n.t = x) (hx : x.2 ≠ 0) : chkN n = x := by
  unfold chkN
  rw [if_neg (by have := h.v; omega), if_neg (by have := h.a; omega), if_neg (by have := h.t; omega), e, if_pos hx]
theorem chkN_v {n : NetD} (h : NetSmall n) (et : firstBad typeFlt 0 n.t = fltOK) {x : Flt} (e : firstBad (vertFlt n.t.length) 0 n.v = x) (hx : x.2 ≠ 0) : chkN n = x := by
  unfold chkN
  rw [if_neg (by have := h.v; omega), if_neg (by have := h.a; omega), if_neg (by have := h.t; omega), et, if_neg (by simp [fltOK]), e, if_pos hx]
theorem chkN_a {n : NetD} (h : NetSmall n) (et : firstBad typeFlt 0 n.t = fltOK) (ev : firstBad (vertFlt n.t.length) 0 n.v = fltOK) {x : Flt} (e : firstBad (arcFlt n.v.length) 0 n.a = x) (hx : x.2 ≠ 0) : chkN n = x := by
  unfold chkN
  rw [if_neg (by have := h.v; omega), if_neg (by have := h.a; omega), if_neg (by have := h.t; omega), et, if_neg (by simp [fltOK]), ev, if_neg (by simp [fltOK]), e, if_pos hx]
theorem chkN_d {n : NetD} (h : NetSmall n) (et : firstBad typeFlt 0 n.t = fltOK) (ev : firstBad (vertFlt n.t.length) 0 n.v = fltOK) (ea : firstBad (arcFlt n.v.length) 0 n.a = fltOK) {x : Flt} (e : firstBad (degFlt n) 0 n.v = x) : chkN n = x := by
  unfold chkN
  rw [if_neg (by have := h.v; omega), if_neg (by have := h.a; omega), if_neg (by have := h.t; omega), et, if_neg (by simp [fltOK]), ev, if_neg (by simp [fltOK]), ea, if_neg (by simp [fltOK]), e]

/-- A row of counts. -/
def cntL (f : Nat → Int) (m : Nat) : List Int := (List.range m).map f
theorem cntL_length (f : Nat → Int) (m : Nat) : (cntL f m).length = m := by simp [cntL]
theorem cntL_at (f : Nat → Int) {m i : Nat} (h : i < m) : (cntL f m)[i]? = some (f i) := by simp [cntL, h]
theorem cntL_set {f g : Nat → Int} {m i : Nat} (_ : i < m) (hi : g i = f i + 1) (ho : ∀ j, j ≠ i → g j = f j) : (cntL f m).set i (f i + 1) = cntL g m := by
  apply List.ext_getElem?
  intro j
  by_cases hj : j = i
  · subst hj
    by_cases hm : j < m
    · rw [List.getElem?_set_self (by rw [cntL_length]; exact hm), cntL_at g hm, hi]
    · rw [List.getElem?_eq_none (by rw [List.length_set, cntL_length]; omega), List.getElem?_eq_none (by rw [cntL_length]; omega)]
  · rw [List.getElem?_set_ne (Ne.symm hj)]
    by_cases hm : j < m
    · rw [cntL_at f hm, cntL_at g hm, ho j hj]
    · rw [List.getElem?_eq_none (by rw [cntL_length]; omega), List.getElem?_eq_none (by rw [cntL_length]; omega)]
theorem insC_snoc {a : List Tri} {k : Nat} (h : k < a.length) (v : Int) : insC (a.take (k + 1)) v = insC (a.take k) v + (if a[k].2.1 = v then 1 else 0) := by
  unfold insC
  rw [take_snoc a k h, List.filter_append, List.length_append]
  by_cases e : a[k].2.1 = v <;> simp [e]
theorem outsC_snoc {a : List Tri} {k : Nat} (h : k < a.length) (v : Int) : outsC (a.take (k + 1)) v = outsC (a.take k) v + (if a[k].1 = v then 1 else 0) := by
  unfold outsC
  rw [take_snoc a k h, List.filter_append, List.length_append]
  by_cases e : a[k].1 = v <;> simp [e]
theorem insC_bd (a : List Tri) (v : Int) : 0 ≤ insC a v ∧ insC a v ≤ a.length := by
  have := List.length_filter_le (fun x : Tri => decide (x.2.1 = v)) a
  unfold insC; omega
theorem outsC_bd (a : List Tri) (v : Int) : 0 ≤ outsC a v ∧ outsC a v ≤ a.length := by
  have := List.length_filter_le (fun x : Tri => decide (x.1 = v)) a
  unfold outsC; omega
theorem cntL_zero (m : Nat) : cntL (fun _ => 0) m = List.replicate m 0 := by
  apply List.ext_getElem
  · simp [cntL]
  · intro i h1 h2; simp [cntL]

end Go.Proofs.YtgihaakgadmidaaGreat

/-
  The algebra of costs: no program stands here.
-/
namespace Go.Proofs.YtgihaakgadmidaaGreat

theorem hld_cases (a : Int) (h : 0 ≤ a) : (a ≤ 1152921504606846976 ∧ hld a = a) ∨ (1152921504606846976 < a ∧ hld a = 1152921504606846976) := by
  by_cases h1 : a ≤ 1152921504606846976
  · exact Or.inl ⟨h1, hld_in a h h1⟩
  · exact Or.inr ⟨by omega, hld_big a (by omega)⟩
theorem addC_comm (a b : Int) : addC a b = addC b a := by unfold addC; rw [Int.add_comm]
theorem addC_assoc (a b c : Int) : addC (addC a b) c = addC a (addC b c) := by
  unfold addC
  have ha := hld_lo a
  have hb := hld_lo b
  have hc := hld_lo c
  rw [hld_hld, hld_hld]
  generalize hld a = x at *
  generalize hld b = y at *
  generalize hld c = z at *
  have h1 := hld_cases (x + y) (by omega)
  have h2 := hld_cases (y + z) (by omega)
  have h3 := hld_cases (hld (x + y) + z) (by omega)
  have h4 := hld_cases (x + hld (y + z)) (by omega)
  omega
theorem addC_zero (a : Int) : addC a 0 = hld a := by
  unfold addC
  rw [show hld 0 = 0 from rfl, Int.add_zero, hld_hld]
theorem addC_inf (a : Int) : addC a 1152921504606846976 = 1152921504606846976 := by
  have ha := hld_lo a
  unfold addC
  rw [show hld 1152921504606846976 = 1152921504606846976 from rfl]
  have := hld_cases (hld a + 1152921504606846976) (by omega)
  omega
end Go.Proofs.YtgihaakgadmidaaGreat

/-
  Plain mathematics of places and of walks that are followed: no program stands here.
-/
namespace Go.Proofs.YtgihaakgadmidaaGreat

theorem idxFrom_append (p : Tri → Bool) : ∀ (k : Int) (l m : List Tri), idxFrom p k (l ++ m) = idxFrom p k l ++ idxFrom p (k + l.length) m
  | k, [], m => by simp [idxFrom]
  | k, y :: r, m => by
    rw [List.cons_append]
    unfold idxFrom
    rw [idxFrom_append p (k + 1) r m]
    have e : k + 1 + (r.length : Int) = k + ((y :: r).length : Int) := by simp; omega
    rw [e]
    split
    · rw [List.cons_append]; congr 2; cases m <;> rfl
    · congr 1; cases m <;> rfl
/-- The place of an arc among those that are wanted: how many are ahead. -/
theorem place_idx (p : Tri → Bool) (a : List Tri) {k : Nat} (hk : k < a.length) (hp : p a[k] = true) : placeL (idxFrom p 0 a) k = (((a.take k).filter p).length : Int) := by
  have e : a = a.take k ++ a[k] :: a.drop (k + 1) := by rw [List.getElem_cons_drop, List.take_append_drop]
  have hl : (0 : Int) + ((a.take k).length : Int) = k := by rw [List.length_take, Nat.min_eq_left (by omega), Int.zero_add]
  have hi : idxFrom p 0 a = idxFrom p 0 (a.take k) ++ (k : Int) :: idxFrom p (k + 1) (a.drop (k + 1)) := by
    conv => lhs; rw [e]
    rw [idxFrom_append, hl]
    congr 1
    show (if p a[k] = true then _ else _) = _
    rw [if_pos hp]
  rw [hi]
  unfold placeL
  rw [placeFrom_at 0 _ _ _ _ (fun y hy => by have := (idxFrom_lo p 0 (a.take k) y hy).2; omega) rfl, idxFrom_count]
  omega
theorem place_ins (a : List Tri) {k : Nat} (hk : k < a.length) {v : Int} (hv : a[k].2.1 = v) : placeL (insL a v) k = insC (a.take k) v :=
  place_idx (fun x => decide (x.2.1 = v)) a hk (by simpa using hv)
theorem place_outs (a : List Tri) {k : Nat} (hk : k < a.length) {v : Int} (hv : a[k].1 = v) : placeL (outsL a v) k = outsC (a.take k) v :=
  place_idx (fun x => decide (x.1 = v)) a hk (by simpa using hv)
/-- Nothing is at a vertex that there is not. -/
theorem idx_none (p : Tri → Bool) : ∀ (k : Int) (a : List Tri), (∀ x ∈ a, p x = false) → idxFrom p k a = []
  | _, [], _ => rfl
  | k, x :: r, h => by
    unfold idxFrom
    rw [if_neg (by rw [h x (by simp)]; simp), idx_none p (k + 1) r (fun y hy => h y (by simp [hy]))]
theorem ins_none {n : NetD} (hg : NetGood n) {v : Int} (h : ¬ (0 ≤ v ∧ v < n.v.length)) : insL n.a v = [] :=
  idx_none _ 0 _ (fun x hx => by
    obtain ⟨k, hk, rfl⟩ := List.getElem_of_mem hx
    have := hg.arcs k hk
    simp; omega)
theorem outs_none {n : NetD} (hg : NetGood n) {v : Int} (h : ¬ (0 ≤ v ∧ v < n.v.length)) : outsL n.a v = [] :=
  idx_none _ 0 _ (fun x hx => by
    obtain ⟨k, hk, rfl⟩ := List.getElem_of_mem hx
    have := hg.arcs k hk
    simp; omega)
/-- Arcs that lead somewhere. -/
def ArcsIn (n : NetD) : Prop := ∀ k (h : k < n.a.length), 0 ≤ n.a[k].1 ∧ n.a[k].1 < n.v.length ∧ 0 ≤ n.a[k].2.1 ∧ n.a[k].2.1 < n.v.length
theorem NetGood.arcsIn {n : NetD} (h : NetGood n) : ArcsIn n := fun k hk => ⟨(h.arcs k hk).1, (h.arcs k hk).2.1, (h.arcs k hk).2.2.1, (h.arcs k hk).2.2.2.1⟩
/-- A row of numbers that is written from the front. -/
def doneL (f : Nat → Int) (k : Nat) (i : Nat) : Int := if i < k then f i else 0
theorem cntL_put {f : Nat → Int} {m k : Nat} : (cntL (doneL f k) m).set k (f k) = cntL (doneL f (k + 1)) m := by
  apply List.ext_getElem?
  intro j
  by_cases hj : j = k
  · subst hj
    by_cases hm : j < m
    · rw [List.getElem?_set_self (by rw [cntL_length]; exact hm), cntL_at _ hm]; simp [doneL]
    · rw [List.getElem?_eq_none (by rw [List.length_set, cntL_length]; omega), List.getElem?_eq_none (by rw [cntL_length]; omega)]
  · rw [List.getElem?_set_ne (Ne.symm hj)]
    by_cases hm : j < m
    · rw [cntL_at _ hm, cntL_at _ hm]
      unfold doneL
      by_cases h : j < k
      · rw [if_pos h, if_pos (by omega)]
      · rw [if_neg h, if_neg (by omega)]
    · rw [List.getElem?_eq_none (by rw [cntL_length]; omega), List.getElem?_eq_none (by rw [cntL_length]; omega)]
/-- The place of an arc among those that end, begin, where it does. -/
def inP (n : NetD) (k : Nat) : Int := insC (n.a.take k) (n.arc k).2.1
def outP (n : NetD) (k : Nat) : Int := outsC (n.a.take k) (n.arc k).1
theorem inP_at {n : NetD} {k : Nat} (h : k < n.a.length) : inP n k = insC (n.a.take k) n.a[k].2.1 := by unfold inP; rw [NetGood.arc_at k h]
theorem outP_at {n : NetD} {k : Nat} (h : k < n.a.length) : outP n k = outsC (n.a.take k) n.a[k].1 := by unfold outP; rw [NetGood.arc_at k h]
theorem turn_meet {n : NetD} {ka kb : Nat} (ha : ka < n.a.length) (hb : kb < n.a.length) (he : n.a[ka].2.1 = n.a[kb].1) {kv kt : Nat} (hkv : kv < n.v.length) (ev : n.a[ka].2.1 = kv) (hkt : kt < n.t.length) (et : n.v[kv].2.2 = kt) :
    n.turn ka kb = turnAt n.t[kt].1 n.t[kt].2.1 n.t[kt].2.2 (inP n ka) (outP n kb) := by
  unfold NetD.turn
  rw [there_at ha, there_at hb, NetGood.arc_at ka ha, NetGood.arc_at kb hb, if_neg (by simp), if_neg (by simp), if_pos he, ev, NetGood.vert_at kv hkv, et, NetGood.tab_at kt hkt, inP_at ha, outP_at hb, place_ins n.a ha ev, place_outs n.a hb (by rw [← he, ev]), ev, ← he, ev]
theorem turn_apart {n : NetD} {a b : Int} (h : ¬ (n.there a = true ∧ n.there b = true ∧ (n.arc a).2.1 = (n.arc b).1)) : n.turn a b = 1152921504606846976 := by
  unfold NetD.turn
  cases ha : n.there a with
  | false => rw [if_pos rfl]
  | true =>
    cases hb : n.there b with
    | false => rw [if_neg (by simp), if_pos rfl]
    | true => rw [if_neg (by simp), if_neg (by simp), if_neg (fun he => h ⟨ha, hb, he⟩)]

end Go.Proofs.YtgihaakgadmidaaGreat

/-
  Plain mathematics of what arcs cost to turn at a vertex; of walks that are parted: no program stands here.
-/
namespace Go.Proofs.YtgihaakgadmidaaGreat

theorem idx_at (p : Tri → Bool) : ∀ (k : Int) (l : List Tri) (i : Nat) (h : i < (idxFrom p k l).length), ∃ (j : Nat) (hj : j < l.length), (idxFrom p k l)[i] = k + j ∧ p l[j] = true ∧ ((l.take j).filter p).length = i
  | _, [], i, h => by simp [idxFrom] at h
  | k, x :: r, i, h => by
    by_cases hx : p x = true
    · have e : idxFrom p k (x :: r) = k :: idxFrom p (k + 1) r := by
        show (if p x = true then _ else _) = _
        rw [if_pos hx]
      cases i with
      | zero => exact ⟨0, by simp, by simp [e], hx, by simp⟩
      | succ i =>
        have h' : i < (idxFrom p (k + 1) r).length := by rw [e] at h; simpa using h
        obtain ⟨j, hj, h1, h2, h3⟩ := idx_at p (k + 1) r i h'
        exact ⟨j + 1, by simpa using hj, by simp only [e, List.getElem_cons_succ, h1]; omega, h2, by simp [hx, h3]⟩
    · have e : idxFrom p k (x :: r) = idxFrom p (k + 1) r := by
        show (if p x = true then _ else _) = _
        rw [if_neg hx]
      have h' : i < (idxFrom p (k + 1) r).length := by rw [e] at h; exact h
      obtain ⟨j, hj, h1, h2, h3⟩ := idx_at p (k + 1) r i h'
      exact ⟨j + 1, by simpa using hj, by simp only [e, h1]; omega, h2, by simp [hx, h3]⟩
/-- The i-th of those that end at v: an arc, its place. -/
theorem ins_at {a : List Tri} {v : Int} {i : Nat} (h : i < (insL a v).length) : ∃ (k : Nat) (hk : k < a.length), (insL a v)[i] = k ∧ a[k].2.1 = v ∧ placeL (insL a v) k = i := by
  obtain ⟨j, hj, h1, h2, h3⟩ := idx_at (fun x => decide (x.2.1 = v)) 0 a i h
  have h2' : a[j].2.1 = v := by simpa using h2
  refine ⟨j, hj, ?_, h2', ?_⟩
  · show (idxFrom _ 0 a)[i] = _
    rw [h1]; omega
  · rw [place_ins a hj h2']
    unfold insC
    rw [h3]
theorem outs_at {a : List Tri} {v : Int} {i : Nat} (h : i < (outsL a v).length) : ∃ (k : Nat) (hk : k < a.length), (outsL a v)[i] = k ∧ a[k].1 = v ∧ placeL (outsL a v) k = i := by
  obtain ⟨j, hj, h1, h2, h3⟩ := idx_at (fun x => decide (x.1 = v)) 0 a i h
  have h2' : a[j].1 = v := by simpa using h2
  refine ⟨j, hj, ?_, h2', ?_⟩
  · show (idxFrom _ 0 a)[i] = _
    rw [h1]; omega
  · rw [place_outs a hj h2']
    unfold outsC
    rw [h3]
theorem insL_len (a : List Tri) (v : Int) : ((insL a v).length : Int) = insC a v := by
  unfold insL insC
  rw [idxFrom_count]
theorem outsL_len (a : List Tri) (v : Int) : ((outsL a v).length : Int) = outsC a v := by
  unfold outsL outsC
  rw [idxFrom_count]
/-! ### a walk that is parted -/
theorem getD_take {l : List Int} {k i : Nat} (h : i < k) : (l.take k).getD i 0 = l.getD i 0 := by
  rw [List.getD_eq_getElem?_getD, List.getD_eq_getElem?_getD, List.getElem?_take, if_pos h]
theorem walkTo_of {n : NetD} {l : List Int} {k : Nat} : n.walkTo l k = true ↔ ∀ i, i < k → n.stepOK l i = true := by
  unfold NetD.walkTo
  rw [List.all_eq_true]
  exact ⟨fun h i hi => h i (List.mem_range.2 hi), fun h i hi => h i (List.mem_range.1 hi)⟩
theorem walk_of {n : NetD} {l : List Int} (h0 : 0 < l.length) : n.walk l = true ↔ ∀ i, i < l.length → n.stepOK l i = true := by
  unfold NetD.walk
  rw [Bool.and_eq_true, walkTo_of]
  simp [h0]
theorem costTo_take {n : NetD} {l : List Int} {k : Nat} : ∀ i, i ≤ k → n.costTo (l.take k) i = n.costTo l i
  | 0, _ => rfl
  | 1, _ => rfl
  | i + 2, h => by
    unfold NetD.costTo
    rw [costTo_take (i + 1) (by omega), getD_take (by omega), getD_take (by omega)]
end Go.Proofs.YtgihaakgadmidaaGreat

/-
  Rows of numbers: kept, copied, cut.
-/
namespace Go.Proofs.YtgihaakgadmidaaGreat
open Go.RowKit

section
variable {P : Program} {ops : Array Oper} {Q : Exit → Act → World → Prop} {a : Act} {w w' : World} {rest : List Oper} {o : Oper}
/-- An append whose run is known, guarded or not. -/
theorem wpList_append_run (hw : Region.wanted o (yielded ops a.tmps) = true) (s x : Operand) (t : TypeId) (ho : o.op = .call { callee := .builtin .append, args := #[s, x], argTypes := #[t, t] })
    (v sv v' : Value) (hs : a.eval s = v) (hx : a.eval x = sv) (hr : (Builtin.append_ #[t, t] o.type #[v, sv]).run P w = .ok v' w') (h : wpList P ops Q rest (a.put o.dst v') w') : wpList P ops Q (o :: rest) a w :=
  wpList_step fun K hK => by
    rw [if_pos hw]
    unfold Oper.wp execOp
    simp only [ho, resolve, invoke, builtin, Sem.run_bind, Sem.run_pure, Result.andThen_ok, List.map_toArray, List.map_cons, List.map_nil, hs, hx, hr]
    exact hK _ _ h
end

theorem info64 : (Tryz.prog.info? 2).map (fun i => (i.zero, i.size, i.bytes)) = some (some (.int .i64 0), 1, 8) := by kernel_rfl

/-- A row that the call owns is a row of numbers. -/
theorem i64s_of_owns {w : World} {base : Nat} {v : Value} {n : Nat} {l : List Int} (h : w.ownsRow base 2 1 v n (l.map (Value.int .i64))) (hl : l.length ≤ 9223372036854775807) : I64s w v l := by
  have hn : n = l.length := by have := h.1; simp at this; omega
  subst hn
  rcases h.2 with ⟨rfl, e⟩ | ⟨g, cap, cur, rfl, _, _, hnc, hcm, _, _⟩
  · have : l = [] := List.length_eq_zero_iff.1 e
    subst this
    exact Or.inl ⟨rfl, none, 0, rfl, fun _ => rfl⟩
  · refine Or.inr ⟨hl, g, 0, cap, hnc, by unfold maxLen at hcm; omega, rfl, fun i hi => ?_⟩
    rw [Nat.zero_add, h.cellAt i (by omega)]
    simp [hi]

set_option maxRecDepth 100000 in
/-- A row of numbers, copied behind an empty literal: the run of that append. -/
theorem copy_own (W : World) (v : Value) (l : List Int) (hv : I64s W v l) (hs : l.length ≤ 100000) (g : Nat) (hg : W.heap.size = g) :
    ∃ v' w', (Builtin.append_ #[36, 36] 36 #[.slice (some ⟨g, 0, none⟩) 0 0, v]).run Tryz.prog (W.alloc (.cells #[] 2)) = .ok v' w' ∧ w'.ownsRow W.heap.size 2 1 v' l.length (l.map (Value.int .i64)) ∧ Below W.heap.size W w' := by
  subst hg
  obtain ⟨i0, hi, hz0, hz1, hz2⟩ := info_parts info64
  have hv1 : I64s (W.alloc (.cells #[] 2)) v l := hv.below ((Below.refl _ _).alloc (Nat.le_refl _) _)
  have hown : (W.alloc (.cells #[] 2)).ownsRow W.heap.size 2 1 (.slice (some ⟨W.heap.size, 0, none⟩) 0 0) 0 [] := World.ownsRow_lit W #[] 0 (Nat.le_refl _) (by simp [maxLen]) rfl
  have key : ∀ (ad : Addr) (c : Nat), v = .slice (some ad) l.length c → (∀ j u, (l.map (Value.int .i64))[j]? = some u → (W.alloc (.cells #[] 2)).cell? (ad.add j) = some u) →
      ∃ v' w', (Builtin.append_ #[36, 36] 36 #[.slice (some ⟨W.heap.size, 0, none⟩) 0 0, v]).run Tryz.prog (W.alloc (.cells #[] 2)) = .ok v' w' ∧ w'.ownsRow W.heap.size 2 1 v' l.length (l.map (Value.int .i64)) ∧ Below W.heap.size W w' := by
    intro ad c e hnews
    subst e
    obtain ⟨v', w', hr, h1, h2, h3⟩ := run_append_own (P := Tryz.prog) (W.alloc (.cells #[] 2)) W.heap.size 36 36 2 i0 (.int .i64 0) 1 8 Tryz.underlying36 hi hz0 hz1 hz2 rfl (by decide)
      (.slice (some ⟨W.heap.size, 0, none⟩) 0 0) 0 [] hown ad l.length c (l.map (Value.int .i64)) (by simp) hnews (by intro u hu; obtain ⟨x, _, rfl⟩ := List.mem_map.1 hu; rfl) (by simp [maxLen]; omega) (by omega) (by simp)
    rw [List.nil_append] at h1
    exact ⟨v', w', hr, by simpa using h1, ((Below.refl _ _).alloc (Nat.le_refl _) _).grown h2 (by simp) (by intro k hk; simp [Value.ownBlock] at hk; omega)⟩
  rcases hv1 with ⟨rfl, p, c, rfl, hpc⟩ | ⟨hl, b, o, c, -, -, rfl, hc⟩
  · cases p with
    | none =>
      obtain rfl := hpc rfl
      exact ⟨_, _, run_append_owned_none (P := Tryz.prog) (W.alloc (.cells #[] 2)) W.heap.size 36 36 2 i0 1 Tryz.underlying36 hi _ 0 [] hown, hown, (Below.refl _ _).alloc (Nat.le_refl _) _⟩
    | some ad => exact key ad c rfl (by intro j u hu; simp at hu)
  · refine key ⟨b, o, none⟩ c rfl fun j u hu => ?_
    obtain ⟨hj, hu⟩ := List.getElem?_eq_some_iff.1 hu
    have hj' : j < l.length := by simpa using hj
    have e : (⟨b, o, none⟩ : Addr).add j = ⟨b, o + j, none⟩ := by unfold Addr.add; split <;> simp_all
    rw [e, hc j hj', ← hu, List.getElem_map]

/-- A row of numbers, cut: what is ahead. -/
theorem I64s.take {w : World} {b o c : Nat} {l : List Int} (h : ∀ i (h : i < l.length), w.cell? ⟨b, o + i, none⟩ = some (.int .i64 l[i])) (hl : l.length ≤ c) (hc : c ≤ 9223372036854775807) (k : Nat) (hk : k ≤ l.length) :
    I64s w (.slice (some ⟨b, o, none⟩) k c) (l.take k) := by
  have e : (l.take k).length = k := by rw [List.length_take]; omega
  refine Or.inr ⟨by omega, b, o, c, by omega, hc, by rw [e], fun i hi => ?_⟩
  rw [List.getElem_take]
  exact h i (by omega)
/-- .. and what is behind. -/
theorem I64s.drop {w : World} {b o c : Nat} {l : List Int} (h : ∀ i (h : i < l.length), w.cell? ⟨b, o + i, none⟩ = some (.int .i64 l[i])) (hl : l.length ≤ c) (hc : c ≤ 9223372036854775807) (k : Nat) (hk : k ≤ l.length) :
    I64s w (.slice (some ⟨b, o + k, none⟩) (l.length - k) (c - k)) (l.drop k) := by
  have e : (l.drop k).length = l.length - k := List.length_drop
  refine Or.inr ⟨by omega, b, o + k, c - k, by omega, by omega, by rw [e], fun i hi => ?_⟩
  rw [List.getElem_drop, Nat.add_assoc]
  exact h (k + i) (by omega)

end Go.Proofs.YtgihaakgadmidaaGreat
