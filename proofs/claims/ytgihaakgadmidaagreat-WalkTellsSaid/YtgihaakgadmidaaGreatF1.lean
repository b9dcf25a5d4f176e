/-
  Plain mathematics of heaps: keys, each at a cost, the least first. No program stands here.
-/
import Derived.WalkKit
import Derived.Test.YtgihaakgadmidaaGreatA1
import Derived.Test.YtgihaakgadmidaaGreatCarry
import Derived.Lib.Hide
import Derived.Laws.AppendOwn
import Derived.Laws.OwnMore
import Derived.Test.YtgihaakgadmidaaGreatGrow
import Derived.Deep.QuietTactic
import Derived.BigQuiet
import Derived.RegionTactic
import Derived.ChangeAlike
import Derived.WalkSmall
namespace Go.Proofs.YtgihaakgadmidaaGreat.HP

/-- A key, and at what it is in. -/
abbrev It := Nat × Int
/-- Is one taken out ahead of another one? -/
def ahd (a b : It) : Prop := a.2 < b.2 ∨ a.2 = b.2 ∧ a.1 < b.1
theorem ahd_or (a b : It) : ahd a b ∨ ¬ ahd a b := by unfold ahd; omega
def ahdB (a b : It) : Bool := decide (a.2 < b.2 ∨ a.2 = b.2 ∧ a.1 < b.1)
theorem ahdB_true {a b : It} (h : ahd a b) : ahdB a b = true := by unfold ahdB; unfold ahd at h; simpa using h
theorem ahdB_false {a b : It} (h : ¬ ahd a b) : ahdB a b = false := by unfold ahdB; unfold ahd at h; simpa using h
theorem ahd_of {a b : It} (h : ahdB a b = true) : ahd a b := by unfold ahdB at h; unfold ahd; simpa using h
theorem ahd_not {a b : It} (h : ahdB a b = false) : ¬ ahd a b := by unfold ahdB at h; unfold ahd; simpa using h
theorem ahd_asymm {a b : It} (h : ahd a b) : ¬ ahd b a := by unfold ahd at *; omega
theorem nahd_trans {a b c : It} (h : ¬ ahd a b) (k : ¬ ahd b c) : ¬ ahd a c := by unfold ahd at *; omega
theorem nahd_refl (a : It) : ¬ ahd a a := by unfold ahd; omega
theorem ahd_eq {a b : It} (h : ¬ ahd a b) (k : ¬ ahd b a) : a = b := by
  obtain ⟨a1, a2⟩ := a
  obtain ⟨b1, b2⟩ := b
  unfold ahd at *
  simp only at h k
  have e1 : a1 = b1 := by omega
  have e2 : a2 = b2 := by omega
  rw [e1, e2]

/-! ### which keys are in, and at what -/
/-- What is in, with k at v. -/
def upd (m : Nat → Option Int) (k : Nat) (v : Option Int) : Nat → Option Int := fun j => if j = k then v else m j
theorem upd_at (m : Nat → Option Int) (k : Nat) (v : Option Int) : upd m k v k = v := if_pos rfl
theorem upd_ne (m : Nat → Option Int) {k j : Nat} (v : Option Int) (h : j ≠ k) : upd m k v j = m j := if_neg h
/-- How many of the first n keys are in. -/
def cnt (m : Nat → Option Int) : Nat → Nat
  | 0 => 0
  | n + 1 => cnt m n + if (m n).isSome then 1 else 0
theorem cnt_le (m : Nat → Option Int) (n : Nat) : cnt m n ≤ n := by
  induction n with
  | zero => exact Nat.le_refl _
  | succ n ih => unfold cnt; split <;> omega
theorem cnt_upd (m : Nat → Option Int) (k : Nat) (v : Option Int) (n : Nat) : cnt (upd m k v) n + (if k < n ∧ (m k).isSome then 1 else 0) = cnt m n + (if k < n ∧ v.isSome then 1 else 0) := by
  induction n with
  | zero => simp [cnt]
  | succ n ih =>
    unfold cnt
    by_cases h : n = k
    · subst h
      rw [upd_at]
      rw [if_neg (by omega), if_neg (by omega)] at ih
      have e : (n < n + 1) = True := by simp
      simp only [e, true_and]
      omega
    · rw [upd_ne _ _ h]
      have e : (k < n + 1) = (k < n) := by rw [eq_iff_iff]; omega
      simp only [e]
      omega
theorem cnt_put {m : Nat → Option Int} {k n : Nat} {c : Int} (hk : k < n) (h : m k = none) : cnt (upd m k (some c)) n = cnt m n + 1 := by
  have := cnt_upd m k (some c) n
  simp [h, hk] at this
  exact this
theorem cnt_low {m : Nat → Option Int} {k n : Nat} {c d : Int} (h : m k = some d) : cnt (upd m k (some c)) n = cnt m n := by
  have := cnt_upd m k (some c) n
  simp [h] at this
  exact this
theorem cnt_pop {m : Nat → Option Int} {k n : Nat} {c : Int} (hk : k < n) (h : m k = some c) : cnt (upd m k none) n + 1 = cnt m n := by
  have := cnt_upd m k none n
  simp [h, hk] at this
  exact this
theorem cnt_none (n : Nat) : cnt (fun _ => none) n = 0 := by
  induction n with
  | zero => rfl
  | succ n ih => unfold cnt; rw [ih]; rfl
theorem cnt_pos {m : Nat → Option Int} {k n : Nat} {c : Int} (hk : k < n) (h : m k = some c) : 0 < cnt m n := by
  have := cnt_pop hk h
  omega
/-- The least of the first n keys: how the document goes on from those ahead. -/
def lstStep (b : Option It) (k : Nat) (v : Option Int) : Option It :=
  match v with
  | none => b
  | some c => match b with
    | none => some (k, c)
    | some x => if c < x.2 then some (k, c) else some x
def lst (m : Nat → Option Int) : Nat → Option It
  | 0 => none
  | n + 1 => lstStep (lst m n) n (m n)
/-- x is the least. -/
def Lst (m : Nat → Option Int) (n : Nat) (x : It) : Prop := x.1 < n ∧ m x.1 = some x.2 ∧ ∀ k c, k < n → m k = some c → ¬ ahd (k, c) x
theorem lst_spec (m : Nat → Option Int) (n : Nat) : (lst m n = none ∧ ∀ k, k < n → m k = none) ∨ ∃ x, lst m n = some x ∧ Lst m n x := by
  induction n with
  | zero => exact Or.inl ⟨rfl, fun k h => by omega⟩
  | succ n ih =>
    show (lstStep (lst m n) n (m n) = none ∧ _) ∨ ∃ x, lstStep (lst m n) n (m n) = some x ∧ _
    cases e : m n with
    | none =>
      rcases ih with ⟨h1, h2⟩ | ⟨x, h1, h2, h3, h4⟩
      · refine Or.inl ⟨by rw [h1]; rfl, fun k hk => ?_⟩
        by_cases hn : k = n
        · rw [hn, e]
        · exact h2 k (by omega)
      · refine Or.inr ⟨x, by rw [h1]; rfl, by omega, h3, fun k c hk hc => ?_⟩
        by_cases hn : k = n
        · rw [hn, e] at hc; cases hc
        · exact h4 k c (by omega) hc
    | some c =>
      rcases ih with ⟨h1, h2⟩ | ⟨x, h1, h2, h3, h4⟩
      · refine Or.inr ⟨(n, c), by rw [h1]; rfl, by show n < n + 1; omega, e, fun k d hk hd => ?_⟩
        by_cases hn : k = n
        · subst hn
          rw [e] at hd
          injection hd with hd
          subst hd
          exact nahd_refl _
        · rw [h2 k (by omega)] at hd; cases hd
      · by_cases hlt : c < x.2
        · refine Or.inr ⟨(n, c), by rw [h1]; show (if c < x.2 then _ else _) = _; rw [if_pos hlt], by show n < n + 1; omega, e, fun k d hk hd => ?_⟩
          by_cases hn : k = n
          · subst hn
            rw [e] at hd
            injection hd with hd
            subst hd
            exact nahd_refl _
          · exact nahd_trans (h4 k d (by omega) hd) (by unfold ahd; simp only; omega)
        · refine Or.inr ⟨x, by rw [h1]; show (if c < x.2 then _ else _) = _; rw [if_neg hlt], by omega, h3, fun k d hk hd => ?_⟩
          by_cases hn : k = n
          · subst hn
            rw [e] at hd
            injection hd with hd
            subst hd
            unfold ahd
            simp only
            omega
          · exact h4 k d (by omega) hd
theorem Lst.uniq {m : Nat → Option Int} {n : Nat} {x y : It} (hx : Lst m n x) (hy : Lst m n y) : x = y :=
  ahd_eq (hy.2.2 x.1 x.2 hx.1 hx.2.1) (hx.2.2 y.1 y.2 hy.1 hy.2.1)
theorem lst_eq {m : Nat → Option Int} {n : Nat} {x : It} (hx : Lst m n x) : lst m n = some x := by
  rcases lst_spec m n with ⟨_, h2⟩ | ⟨y, h1, h2⟩
  · have := h2 x.1 hx.1
    rw [hx.2.1] at this
    cases this
  · rw [h1, hx.uniq h2]
theorem lst_of {m : Nat → Option Int} {n : Nat} {x : It} (h : lst m n = some x) : Lst m n x := by
  rcases lst_spec m n with ⟨h1, _⟩ | ⟨y, h1, h2⟩
  · rw [h1] at h; cases h
  · rw [h1] at h; injection h with h; subst h; exact h2
theorem lst_zero {m : Nat → Option Int} {n : Nat} (h : cnt m n = 0) : lst m n = none := by
  rcases lst_spec m n with ⟨h1, _⟩ | ⟨y, h1, h2⟩
  · exact h1
  · have := cnt_pos h2.1 h2.2.1; omega
/-! ### what each call answers -/
def putB (N : Nat) (m : Nat → Option Int) (k c : Int) : Bool :=
  if k < 0 ∨ N ≤ k then false else match m k.toNat with
    | none => true
    | some d => decide (hld c < d)
def putM (N : Nat) (m : Nat → Option Int) (k c : Int) : Nat → Option Int := if putB N m k c = true then upd m k.toNat (some (hld c)) else m
def popV (N : Nat) (m : Nat → Option Int) : Int × Int × Bool :=
  match lst m N with
  | none => (0, 0, false)
  | some x => (x.1, x.2, true)
def popM (N : Nat) (m : Nat → Option Int) : Nat → Option Int :=
  match lst m N with
  | none => m
  | some x => upd m x.1 none
/-- How many keys there are. -/
def keysN (n : Int) : Nat := if n < 0 then 0 else if 16384 < n then 16384 else n.toNat
/-! ### the row and the places -/
/-- Each that is in stands in the row, at its place. -/
structure Con (N : Nat) (R : List It) (P : List Int) (m : Nat → Option Int) : Prop where
  pl : P.length = N
  rl : R.length = cnt m N
  row : ∀ (i : Nat) (x : It), R[i]? = some x → x.1 < N ∧ P[x.1]? = some (i : Int) ∧ m x.1 = some x.2
  back : ∀ (k : Nat) (c : Int), m k = some c → ∃ i : Nat, R[i]? = some (k, c)
  off : ∀ k, k < N → m k = none → P[k]? = some (-1)
  cost : ∀ (k : Nat) (c : Int), m k = some c → 0 ≤ c ∧ c ≤ 1152921504606846976
theorem Con.inj {N : Nat} {R : List It} {P : List Int} {m : Nat → Option Int} (h : Con N R P m) {i j : Nat} {x y : It} (hi : R[i]? = some x) (hj : R[j]? = some y) (e : x.1 = y.1) : i = j := by
  have a := (h.row i x hi).2.1
  have b := (h.row j y hj).2.1
  rw [e, b] at a
  injection a with a
  omega
theorem Con.len {N : Nat} {R : List It} {P : List Int} {m : Nat → Option Int} (h : Con N R P m) : R.length ≤ N := by
  rw [h.rl]; exact cnt_le _ _
theorem lt_of_get {α : Type} {l : List α} {i : Nat} {x : α} (h : l[i]? = some x) : i < l.length := (List.getElem?_eq_some_iff.1 h).1
theorem get_set_at {α : Type} {l : List α} {i : Nat} {x : α} (h : i < l.length) : (l.set i x)[i]? = some x := by
  rw [List.getElem?_set, if_pos rfl, if_pos h]
theorem get_set_ne {α : Type} {l : List α} {i j : Nat} {x : α} (h : j ≠ i) : (l.set i x)[j]? = l[j]? := by
  rw [List.getElem?_set, if_neg (fun e => h e.symm)]
theorem set_get {α : Type} {l : List α} {i : Nat} {x : α} (h : l[i]? = some x) : l.set i x = l := by
  apply List.ext_getElem?
  intro j
  by_cases e : j = i
  · subst e; rw [get_set_at (lt_of_get h), h]
  · exact get_set_ne e
theorem Con.swap {N : Nat} {R : List It} {P : List Int} {m : Nat → Option Int} (h : Con N R P m) {i j : Nat} {x y : It} (hi : R[i]? = some x) (hj : R[j]? = some y) (hne : i ≠ j) :
    Con N ((R.set i y).set j x) ((P.set y.1 i).set x.1 j) m := by
  have li := lt_of_get hi
  have lj := lt_of_get hj
  have hxy : x.1 ≠ y.1 := fun e => hne (h.inj hi hj e)
  obtain ⟨x1, x2, x3⟩ := h.row i x hi
  obtain ⟨y1, y2, y3⟩ := h.row j y hj
  refine ⟨by rw [List.length_set, List.length_set, h.pl], by rw [List.length_set, List.length_set, h.rl], ?_, ?_, ?_, h.cost⟩
  · intro k z hz
    by_cases e1 : k = j
    · subst e1
      rw [get_set_at (by rw [List.length_set]; exact lj)] at hz
      injection hz with hz
      subst hz
      exact ⟨x1, get_set_at (by rw [List.length_set, h.pl]; exact x1), x3⟩
    · rw [get_set_ne e1] at hz
      by_cases e2 : k = i
      · subst e2
        rw [get_set_at li] at hz
        injection hz with hz
        subst hz
        exact ⟨y1, by rw [get_set_ne (fun e => hxy e.symm)]; exact get_set_at (by rw [h.pl]; exact y1), y3⟩
      · rw [get_set_ne e2] at hz
        obtain ⟨z1, z2, z3⟩ := h.row k z hz
        exact ⟨z1, by rw [get_set_ne (fun e => e2 (h.inj hz hi e)), get_set_ne (fun e => e1 (h.inj hz hj e))]; exact z2, z3⟩
  · intro k c hk
    obtain ⟨l, hl⟩ := h.back k c hk
    by_cases e1 : l = i
    · subst e1
      rw [hi] at hl
      exact ⟨j, by rw [get_set_at (by rw [List.length_set]; exact lj)]; exact hl⟩
    · by_cases e2 : l = j
      · subst e2
        rw [hj] at hl
        exact ⟨i, by rw [get_set_ne hne, get_set_at li]; exact hl⟩
      · exact ⟨l, by rw [get_set_ne e2, get_set_ne e1]; exact hl⟩
  · intro k hk hm
    have a : k ≠ x.1 := fun e => by rw [e, x3] at hm; cases hm
    have b : k ≠ y.1 := fun e => by rw [e, y3] at hm; cases hm
    rw [get_set_ne a, get_set_ne b]
    exact h.off k hk hm

/-- A heap: none goes ahead of the one above it. -/
structure Hpp (N : Nat) (R : List It) (P : List Int) (m : Nat → Option Int) : Prop where
  con : Con N R P m
  ord : ∀ (i : Nat) (x y : It), 0 < i → R[i]? = some x → R[(i - 1) / 2]? = some y → ¬ ahd x y
theorem Hpp.top {N : Nat} {R : List It} {P : List Int} {m : Nat → Option Int} (h : Hpp N R P m) {r : It} (hr : R[0]? = some r) : ∀ (i : Nat) (x : It), R[i]? = some x → ¬ ahd x r := by
  intro i
  induction i using Nat.strongRecOn with
  | _ i ih =>
    intro x hx
    by_cases h0 : i = 0
    · subst h0
      rw [hr] at hx
      injection hx with hx
      subst hx
      exact nahd_refl _
    · have lx := lt_of_get hx
      have lp : (i - 1) / 2 < R.length := by omega
      have hp : R[(i - 1) / 2]? = some R[(i - 1) / 2] := List.getElem?_eq_getElem lp
      exact nahd_trans (h.ord i x _ (by omega) hx hp) (ih _ (by omega) _ hp)
theorem Hpp.least {N : Nat} {R : List It} {P : List Int} {m : Nat → Option Int} (h : Hpp N R P m) {r : It} (hr : R[0]? = some r) : lst m N = some r := by
  obtain ⟨r1, r2, r3⟩ := h.con.row 0 r hr
  refine lst_eq ⟨r1, r3, fun k c hk hc => ?_⟩
  obtain ⟨i, hi⟩ := h.con.back k c hc
  exact h.top hr i _ hi

/-- On the way up: the place at has it, which may go ahead of the one above. -/
structure Up (N : Nat) (R : List It) (P : List Int) (m : Nat → Option Int) (at' : Nat) (it : It) : Prop where
  len : at' < R.length
  con : Con N (R.set at' it) (P.set it.1 at') m
  ord : ∀ (i : Nat) (x y : It), 0 < i → i ≠ at' → (R.set at' it)[i]? = some x → (R.set at' it)[(i - 1) / 2]? = some y → ¬ ahd x y
  gr : 0 < at' → ∀ (i : Nat) (x y : It), 0 < i → (i - 1) / 2 = at' → (R.set at' it)[i]? = some x → (R.set at' it)[(at' - 1) / 2]? = some y → ¬ ahd x y
section
variable {N : Nat} {R : List It} {P : List Int} {m : Nat → Option Int} {p : Nat} {it U : It}
theorem Up.at (h : Up N R P m p it) : (R.set p it)[p]? = some it := get_set_at h.len
theorem Up.done (h : Up N R P m p it) (hd : p = 0 ∨ ∃ U, R[(p - 1) / 2]? = some U ∧ ¬ ahd it U) : Hpp N (R.set p it) (P.set it.1 p) m := by
  refine ⟨h.con, fun i x y h0 hx hy => ?_⟩
  by_cases e : i = p
  · subst e
    rcases hd with hd | ⟨U, hU, hn⟩
    · omega
    · rw [h.at] at hx
      rw [get_set_ne (by omega), hU] at hy
      injection hx with hx
      injection hy with hy
      subst hx; subst hy
      exact hn
  · exact h.ord i x y h0 e hx hy
theorem swap_rows (R : List It) (P : List Int) (p q : Nat) (it U : It) : (P.set U.1 p).set it.1 q = ((P.set it.1 p).set U.1 p).set it.1 q ∧ (R.set p U).set q it = ((R.set p it).set p U).set q it := by
  constructor
  · apply List.ext_getElem?
    intro j
    by_cases e : j = it.1
    · subst e
      simp [List.getElem?_set]
    · rw [get_set_ne e, get_set_ne e]
      by_cases e2 : j = U.1
      · subst e2; simp [List.getElem?_set]
      · rw [get_set_ne e2, get_set_ne e2, get_set_ne e]
  · rw [List.set_set]
theorem Up.step (h : Up N R P m p it) (h0 : 0 < p) (hU : R[(p - 1) / 2]? = some U) (ha : ahd it U) : Up N (R.set p U) (P.set U.1 p) m ((p - 1) / 2) it := by
  have hqp : (p - 1) / 2 ≠ p := by omega
  obtain ⟨q, hq⟩ : ∃ q, q = (p - 1) / 2 := ⟨_, rfl⟩
  rw [← hq] at hU hqp ⊢
  obtain ⟨eP, eR⟩ := swap_rows R P p q it U
  have hUs : (R.set p it)[q]? = some U := by rw [get_set_ne hqp]; exact hU
  have hc := h.con.swap h.at hUs (fun e => hqp e.symm)
  have lq := lt_of_get hU
  rw [← eP, ← eR] at hc
  have a1 : ((R.set p U).set q it)[q]? = some it := get_set_at (by rw [List.length_set]; exact lq)
  have a2 : ((R.set p U).set q it)[p]? = some U := by rw [get_set_ne (fun e => hqp e.symm)]; exact get_set_at h.len
  have a3 : ∀ j, j ≠ p → j ≠ q → ((R.set p U).set q it)[j]? = (R.set p it)[j]? := fun j h1 h2 => by rw [get_set_ne h2, get_set_ne h1, get_set_ne h1]
  refine ⟨by rw [List.length_set]; exact lq, hc, ?_, ?_⟩
  · intro i x y hi hne hx hy
    by_cases e1 : i = p
    · subst e1
      rw [a2] at hx
      rw [← hq, a1] at hy
      injection hx with hx
      injection hy with hy
      subst hx; subst hy
      exact ahd_asymm ha
    · rw [a3 i e1 hne] at hx
      by_cases e2 : (i - 1) / 2 = p
      · rw [e2, a2] at hy
        injection hy with hy
        subst hy
        exact h.gr h0 i x U hi e2 hx (by rw [← hq]; exact hUs)
      · by_cases e3 : (i - 1) / 2 = q
        · rw [e3, a1] at hy
          injection hy with hy
          subst hy
          exact nahd_trans (h.ord i x U hi e1 hx (by rw [e3]; exact hUs)) (ahd_asymm ha)
        · rw [a3 _ e2 e3] at hy
          exact h.ord i x y hi e1 hx hy
  · intro hq0 i x y hi hp hx hy
    have e4 : (q - 1) / 2 ≠ p := by omega
    have e5 : (q - 1) / 2 ≠ q := by omega
    rw [a3 _ e4 e5] at hy
    have hUy := h.ord q U y hq0 hqp hUs hy
    by_cases e1 : i = p
    · subst e1
      rw [a2] at hx
      injection hx with hx
      subst hx
      exact hUy
    · rw [a3 i e1 (by omega)] at hx
      exact nahd_trans (h.ord i x U hi e1 hx (by rw [hp]; exact hUs)) hUy
end

/-- On the way down: the place at has it, ahead of which some below may go. -/
structure Down (N : Nat) (R : List It) (P : List Int) (m : Nat → Option Int) (p : Nat) (it : It) : Prop where
  len : p < R.length
  con : Con N (R.set p it) (P.set it.1 p) m
  ord : ∀ (i : Nat) (x y : It), 0 < i → (i - 1) / 2 ≠ p → (R.set p it)[i]? = some x → (R.set p it)[(i - 1) / 2]? = some y → ¬ ahd x y
  gr : 0 < p → ∀ (i : Nat) (x y : It), 0 < i → (i - 1) / 2 = p → (R.set p it)[i]? = some x → (R.set p it)[(p - 1) / 2]? = some y → ¬ ahd x y
section
variable {N : Nat} {R : List It} {P : List Int} {m : Nat → Option Int} {p q : Nat} {it D : It}
theorem Down.at (h : Down N R P m p it) : (R.set p it)[p]? = some it := get_set_at h.len
/-- What is below p goes behind it. -/
theorem Down.done (h : Down N R P m p it) (hd : ∀ (i : Nat) (x : It), 0 < i → (i - 1) / 2 = p → R[i]? = some x → ¬ ahd x it) : Hpp N (R.set p it) (P.set it.1 p) m := by
  refine ⟨h.con, fun i x y h0 hx hy => ?_⟩
  by_cases e : (i - 1) / 2 = p
  · rw [e, h.at] at hy
    injection hy with hy
    subst hy
    rw [get_set_ne (by omega)] at hx
    exact hd i x h0 e hx
  · exact h.ord i x y h0 e hx hy
theorem Down.step (h : Down N R P m p it) (hq : (q - 1) / 2 = p) (hq0 : 0 < q) (hD : R[q]? = some D) (ha : ahd D it) (hm : ∀ (i : Nat) (x : It), 0 < i → (i - 1) / 2 = p → R[i]? = some x → ¬ ahd x D) : Down N (R.set p D) (P.set D.1 p) m q it := by
  have hqp : q ≠ p := by omega
  obtain ⟨eP, eR⟩ := swap_rows R P p q it D
  have hDs : (R.set p it)[q]? = some D := by rw [get_set_ne hqp]; exact hD
  have hc := h.con.swap h.at hDs (fun e => hqp e.symm)
  have lq := lt_of_get hD
  rw [← eP, ← eR] at hc
  have a1 : ((R.set p D).set q it)[q]? = some it := get_set_at (by rw [List.length_set]; exact lq)
  have a2 : ((R.set p D).set q it)[p]? = some D := by rw [get_set_ne (fun e => hqp e.symm)]; exact get_set_at h.len
  have a3 : ∀ j, j ≠ p → j ≠ q → ((R.set p D).set q it)[j]? = (R.set p it)[j]? := fun j h1 h2 => by rw [get_set_ne h2, get_set_ne h1, get_set_ne h1]
  refine ⟨by rw [List.length_set]; exact lq, hc, ?_, ?_⟩
  · intro i x y hi hne hx hy
    by_cases e1 : i = p
    · subst e1
      have e4 : (i - 1) / 2 ≠ i := by omega
      rw [a2] at hx
      rw [a3 _ e4 hne] at hy
      injection hx with hx
      subst hx
      exact h.gr hi q D y hq0 hq hDs hy
    · by_cases e2 : (i - 1) / 2 = p
      · rw [e2, a2] at hy
        injection hy with hy
        subst hy
        by_cases e3 : i = q
        · subst e3
          rw [a1] at hx
          injection hx with hx
          subst hx
          exact ahd_asymm ha
        · rw [a3 i e1 e3, get_set_ne e1] at hx
          exact hm i x hi e2 hx
      · have e3 : i ≠ q := fun e => e2 (by rw [e]; exact hq)
        rw [a3 i e1 e3] at hx
        rw [a3 _ e2 hne] at hy
        exact h.ord i x y hi e2 hx hy
  · intro _ i x y hi hp hx hy
    rw [hq, a2] at hy
    injection hy with hy
    subst hy
    rw [a3 i (by omega) (by omega)] at hx
    exact h.ord i x D hi (by omega) hx (by rw [hp]; exact hDs)
end

/-! ### where the ways begin -/
section
variable {N : Nat} {R : List It} {P : List Int} {m : Nat → Option Int} {k : Nat} {c d : Int}
theorem get_snoc {α : Type} (l : List α) (a : α) (i : Nat) (x : α) (h : (l ++ [a])[i]? = some x) : (i < l.length ∧ l[i]? = some x) ∨ (i = l.length ∧ x = a) := by
  by_cases e : i < l.length
  · rw [List.getElem?_append_left e] at h; exact Or.inl ⟨e, h⟩
  · rw [List.getElem?_append_right (by omega)] at h
    by_cases e2 : i - l.length = 0
    · rw [e2] at h
      simp at h
      exact Or.inr ⟨by omega, h.symm⟩
    · rw [List.getElem?_eq_none (by simp; omega)] at h
      cases h
/-- A key that was not in, at the row's end. -/
theorem Hpp.new (h : Hpp N R P m) (hk : k < N) (hm : m k = none) (c0 : 0 ≤ c) (c1 : c ≤ 1152921504606846976) : Up N (R ++ [(k, c)]) P (upd m k (some c)) R.length (k, c) := by
  have e : (R ++ [(k, c)]).set R.length (k, c) = R ++ [(k, c)] := set_get (by simp)
  have hne : ∀ (i : Nat) (x : It), R[i]? = some x → x.1 ≠ k := fun i x hx e => by
    have := (h.con.row i x hx).2.2
    rw [e, hm] at this
    cases this
  refine ⟨by simp, ?_, ?_, ?_⟩
  · rw [e]
    refine ⟨by rw [List.length_set, h.con.pl], by rw [List.length_append, cnt_put hk hm, h.con.rl]; rfl, ?_, ?_, ?_, ?_⟩
    · intro i x hx
      rcases get_snoc _ _ _ _ hx with ⟨h1, h2⟩ | ⟨rfl, rfl⟩
      · obtain ⟨a1, a2, a3⟩ := h.con.row i x h2
        exact ⟨a1, by rw [get_set_ne (hne i x h2)]; exact a2, by rw [upd_ne _ _ (hne i x h2)]; exact a3⟩
      · exact ⟨hk, get_set_at (by rw [h.con.pl]; exact hk), upd_at _ _ _⟩
    · intro j b hj
      by_cases ej : j = k
      · subst ej
        rw [upd_at] at hj
        injection hj with hj
        subst hj
        exact ⟨R.length, by simp⟩
      · rw [upd_ne _ _ ej] at hj
        obtain ⟨i, hi⟩ := h.con.back j b hj
        exact ⟨i, by rw [List.getElem?_append_left (lt_of_get hi)]; exact hi⟩
    · intro j hj hmj
      by_cases ej : j = k
      · subst ej; rw [upd_at] at hmj; cases hmj
      · rw [upd_ne _ _ ej] at hmj
        rw [get_set_ne (by exact ej)]
        exact h.con.off j hj hmj
    · intro j b hj
      by_cases ej : j = k
      · subst ej
        rw [upd_at] at hj
        injection hj with hj
        subst hj
        exact ⟨c0, c1⟩
      · rw [upd_ne _ _ ej] at hj
        exact h.con.cost j b hj
  · rw [e]
    intro i x y hi hne' hx hy
    rcases get_snoc _ _ _ _ hx with ⟨h1, h2⟩ | ⟨h1, -⟩
    · rcases get_snoc _ _ _ _ hy with ⟨h3, h4⟩ | ⟨h3, -⟩
      · exact h.ord i x y hi h2 h4
      · omega
    · exact absurd h1 hne'
  · rw [e]
    intro _ i x y hi hp hx hy
    rcases get_snoc _ _ _ _ hx with ⟨h1, h2⟩ | ⟨h1, -⟩ <;> omega
/-- A key that is in at more. -/
theorem Hpp.low (h : Hpp N R P m) (hk : k < N) (hm : m k = some d) (hlt : c < d) (c0 : 0 ≤ c) : ∃ i : Nat, P[k]? = some (i : Int) ∧ R[i]? = some (k, d) ∧ Up N R P (upd m k (some c)) i (k, c) := by
  obtain ⟨p, hp⟩ := h.con.back k d hm
  obtain ⟨-, hP, -⟩ := h.con.row p _ hp
  have hd := h.con.cost k d hm
  have lp := lt_of_get hp
  have hne : ∀ (i : Nat) (x : It), R[i]? = some x → i ≠ p → x.1 ≠ k := fun i x hx e e' => e (h.con.inj hx hp e')
  refine ⟨p, hP, hp, lp, ?_, ?_, ?_⟩
  · rw [show P.set k (p : Int) = P from set_get hP]
    refine ⟨h.con.pl, by rw [List.length_set, cnt_low hm, h.con.rl], ?_, ?_, ?_, ?_⟩
    · intro i x hx
      by_cases e : i = p
      · subst e
        rw [get_set_at lp] at hx
        injection hx with hx
        subst hx
        exact ⟨hk, hP, upd_at _ _ _⟩
      · rw [get_set_ne e] at hx
        obtain ⟨a1, a2, a3⟩ := h.con.row i x hx
        exact ⟨a1, a2, by rw [upd_ne _ _ (hne i x hx e)]; exact a3⟩
    · intro j b hj
      by_cases ej : j = k
      · subst ej
        rw [upd_at] at hj
        injection hj with hj
        subst hj
        exact ⟨p, get_set_at lp⟩
      · rw [upd_ne _ _ ej] at hj
        obtain ⟨i, hi⟩ := h.con.back j b hj
        have : i ≠ p := fun e => by
          subst e
          rw [hp] at hi
          injection hi with hi
          injection hi with hi
          exact ej hi.symm
        exact ⟨i, by rw [get_set_ne this]; exact hi⟩
    · intro j hj hmj
      by_cases ej : j = k
      · subst ej; rw [upd_at] at hmj; cases hmj
      · rw [upd_ne _ _ ej] at hmj
        exact h.con.off j hj hmj
    · intro j b hj
      by_cases ej : j = k
      · subst ej
        rw [upd_at] at hj
        injection hj with hj
        subst hj
        exact ⟨c0, by omega⟩
      · rw [upd_ne _ _ ej] at hj
        exact h.con.cost j b hj
  · intro i x y hi hne' hx hy
    rw [get_set_ne hne'] at hx
    by_cases e : (i - 1) / 2 = p
    · rw [e, get_set_at lp] at hy
      injection hy with hy
      subst hy
      exact nahd_trans (h.ord i x _ hi hx (by rw [e]; exact hp)) (by unfold ahd; simp only; omega)
    · rw [get_set_ne e] at hy
      exact h.ord i x y hi hx hy
  · intro hp0 i x y hi hpar hx hy
    rw [get_set_ne (by omega)] at hx hy
    exact nahd_trans (h.ord i x _ hi hx (by rw [hpar]; exact hp)) (h.ord p _ y hp0 hp hy)
/-- The least one is taken out, and was alone. -/
theorem Hpp.pop1 (h : Hpp N R P m) {r : It} (hr : R[0]? = some r) (hl : R.length = 1) : Hpp N [] (P.set r.1 (-1)) (upd m r.1 none) := by
  obtain ⟨r1, r2, r3⟩ := h.con.row 0 r hr
  have hc := cnt_pop r1 r3
  have hrl := h.con.rl
  refine ⟨⟨by rw [List.length_set, h.con.pl], by rw [List.length_nil]; omega, fun i x hx => by simp at hx, ?_, ?_, ?_⟩, fun i x y _ hx => by simp at hx⟩
  · intro k c hk
    exfalso
    by_cases e : k = r.1
    · subst e; rw [upd_at] at hk; cases hk
    · rw [upd_ne _ _ e] at hk
      obtain ⟨i, hi⟩ := h.con.back k c hk
      have := lt_of_get hi
      have e0 : i = 0 := by omega
      subst e0
      rw [hr] at hi
      injection hi with hi
      exact e (by rw [hi])
  · intro k hk hm
    by_cases e : k = r.1
    · subst e; exact get_set_at (by rw [h.con.pl]; exact hk)
    · rw [upd_ne _ _ e] at hm
      rw [get_set_ne e]
      exact h.con.off k hk hm
  · intro k c hk
    by_cases e : k = r.1
    · subst e; rw [upd_at] at hk; cases hk
    · rw [upd_ne _ _ e] at hk
      exact h.con.cost k c hk
/-- The least one is taken out; the last one goes to its place. -/
theorem Hpp.pop (h : Hpp N R P m) {r l : It} {n : Nat} (hr : R[0]? = some r) (hn : R.length = n + 1) (hn0 : 0 < n) (hl : R[n]? = some l) : Down N (R.take n) (P.set r.1 (-1)) (upd m r.1 none) 0 l := by
  obtain ⟨r1, r2, r3⟩ := h.con.row 0 r hr
  obtain ⟨l1, l2, l3⟩ := h.con.row n l hl
  have hc := cnt_pop r1 r3
  have hrl := h.con.rl
  have hlr : l.1 ≠ r.1 := fun e => by have := h.con.inj hl hr e; omega
  have hlen : (R.take n).length = n := by rw [List.length_take]; omega
  have hg : ∀ (i : Nat) (x : It), i ≠ 0 → ((R.take n).set 0 l)[i]? = some x → i < n ∧ R[i]? = some x := fun i x h0 hx => by
    rw [get_set_ne h0] at hx
    have := lt_of_get hx
    rw [hlen] at this
    exact ⟨this, by rw [List.getElem?_take_of_lt this] at hx; exact hx⟩
  have h0 : ((R.take n).set 0 l)[0]? = some l := get_set_at (by rw [hlen]; exact hn0)
  have hne : ∀ (i : Nat) (x : It), i ≠ 0 → R[i]? = some x → x.1 ≠ r.1 := fun i x h1 h2 e => h1 (h.con.inj h2 hr e)
  refine ⟨by rw [hlen]; exact hn0, ?_, ?_, fun e => absurd e (by omega)⟩
  · refine ⟨by rw [List.length_set, List.length_set, h.con.pl], by rw [List.length_set, hlen]; omega, ?_, ?_, ?_, ?_⟩
    · intro i x hx
      by_cases e : i = 0
      · subst e
        rw [h0] at hx
        injection hx with hx
        subst hx
        exact ⟨l1, get_set_at (by rw [List.length_set, h.con.pl]; exact l1), by rw [upd_ne _ _ hlr]; exact l3⟩
      · obtain ⟨hlt, hx⟩ := hg i x e hx
        obtain ⟨a1, a2, a3⟩ := h.con.row i x hx
        have hxl : x.1 ≠ l.1 := fun e' => by have := h.con.inj hx hl e'; omega
        exact ⟨a1, by rw [get_set_ne hxl, get_set_ne (hne i x e hx)]; exact a2, by rw [upd_ne _ _ (hne i x e hx)]; exact a3⟩
    · intro k c hk
      by_cases e : k = r.1
      · subst e; rw [upd_at] at hk; cases hk
      · rw [upd_ne _ _ e] at hk
        obtain ⟨i, hi⟩ := h.con.back k c hk
        have hi0 : i ≠ 0 := fun e0 => by
          subst e0
          rw [hr] at hi
          injection hi with hi
          exact e (by rw [hi])
        by_cases ei : i = n
        · subst ei
          rw [hl] at hi
          exact ⟨0, by rw [h0]; exact hi⟩
        · have := lt_of_get hi
          exact ⟨i, by rw [get_set_ne hi0, List.getElem?_take_of_lt (by omega)]; exact hi⟩
    · intro k hk hm
      have hkl : k ≠ l.1 := fun e => by rw [e, upd_ne _ _ hlr, l3] at hm; cases hm
      rw [get_set_ne hkl]
      by_cases e : k = r.1
      · subst e; exact get_set_at (by rw [h.con.pl]; exact hk)
      · rw [upd_ne _ _ e] at hm
        rw [get_set_ne e]
        exact h.con.off k hk hm
    · intro k c hk
      by_cases e : k = r.1
      · subst e; rw [upd_at] at hk; cases hk
      · rw [upd_ne _ _ e] at hk
        exact h.con.cost k c hk
  · intro i x y hi hp hx hy
    obtain ⟨_, hx⟩ := hg i x (by omega) hx
    obtain ⟨_, hy⟩ := hg _ y hp hy
    exact h.ord i x y hi hx hy
theorem Hpp.empty (N : Nat) : Hpp N [] (List.replicate N (-1)) (fun _ => none) := by
  refine ⟨⟨List.length_replicate, (cnt_none N).symm, ?_, ?_, ?_, ?_⟩, ?_⟩
  · intro i x hx; simp at hx
  · intro k c hk; cases hk
  · intro k hk _; rw [List.getElem?_replicate, if_pos hk]
  · intro k c hk; cases hk
  · intro i x y _ hx; simp at hx
end

/-! ### taken all out -/
/-- The places, with those of the row's first n at none. -/
def clr (R : List It) (P : List Int) : List Int := R.foldl (fun Q x => Q.set x.1 (-1)) P
theorem clr_length (R : List It) (P : List Int) : (clr R P).length = P.length := by
  unfold clr
  induction R generalizing P with
  | nil => rfl
  | cons x r ih => rw [List.foldl_cons, ih, List.length_set]
theorem clr_get (R : List It) (P : List Int) (k : Nat) (hk : k < P.length) : (clr R P)[k]? = some (-1) ∨ ((clr R P)[k]? = P[k]? ∧ ∀ x ∈ R, x.1 ≠ k) := by
  unfold clr
  induction R generalizing P with
  | nil => exact Or.inr ⟨rfl, fun x h => by cases h⟩
  | cons x r ih =>
    rw [List.foldl_cons]
    rcases ih (P.set x.1 (-1)) (by rw [List.length_set]; exact hk) with h | ⟨h1, h2⟩
    · exact Or.inl h
    · by_cases e : k = x.1
      · subst e
        exact Or.inl (h1.trans (get_set_at hk))
      · refine Or.inr ⟨h1.trans (get_set_ne e), fun y hy => ?_⟩
        rcases List.mem_cons.1 hy with rfl | hy
        · exact fun e' => e e'.symm
        · exact h2 y hy
theorem Hpp.clear {N : Nat} {R : List It} {P : List Int} {m : Nat → Option Int} (h : Hpp N R P m) : clr R P = List.replicate N (-1) := by
  apply List.ext_getElem?
  intro k
  rw [List.getElem?_replicate]
  by_cases hk : k < N
  · rw [if_pos hk]
    rcases clr_get R P k (by rw [h.con.pl]; exact hk) with e | ⟨e1, e2⟩
    · exact e
    · rw [e1]
      cases hm : m k with
      | none => exact h.con.off k hk hm
      | some c =>
        obtain ⟨i, hi⟩ := h.con.back k c hm
        exact absurd rfl (e2 _ (List.mem_of_getElem? hi))
  · rw [if_neg hk]
    exact List.getElem?_eq_none (by rw [clr_length, h.con.pl]; omega)

end Go.Proofs.YtgihaakgadmidaaGreat.HP

/-
  Heaps as they lie in memory; what stays where some blocks are written.
-/
namespace Go.Proofs.YtgihaakgadmidaaGreat.HP
open Go.RowKit

/-! ### what stays -/
/-- The blocks in which P holds are as they were. -/
structure Keep (P : Nat → Prop) (w w' : World) : Prop where
  os : w'.os = w.os
  tape : w'.tape = w.tape
  output : w'.output = w.output
  size : w.heap.size ≤ w'.heap.size
  block : ∀ k, k < w.heap.size → P k → w'.heap[k]? = w.heap[k]?
section
variable {P Q : Nat → Prop} {w w' : World}
theorem Keep.refl (P : Nat → Prop) (w : World) : Keep P w w := ⟨rfl, rfl, rfl, Nat.le_refl _, fun _ _ _ => rfl⟩
theorem Keep.trans {u v w : World} (h : Keep P u v) (k : Keep P v w) : Keep P u w :=
  ⟨k.os.trans h.os, k.tape.trans h.tape, k.output.trans h.output, Nat.le_trans h.size k.size, fun i hi hp => (k.block i (Nat.lt_of_lt_of_le hi h.size) hp).trans (h.block i hi hp)⟩
theorem Keep.of (h : Below w.heap.size w w') : Keep P w w' := ⟨h.os, h.tape, h.output, h.size, fun k hk _ => h.block k hk⟩
theorem Keep.mono (h : Keep P w w') (hq : ∀ b, Q b → P b) : Keep Q w w' := ⟨h.os, h.tape, h.output, h.size, fun k hk hp => h.block k hk (hq k hp)⟩
theorem Keep.mono' (h : Keep P w w') (hq : ∀ b, b < w.heap.size → Q b → P b) : Keep Q w w' := ⟨h.os, h.tape, h.output, h.size, fun k hk hp => h.block k hk (hq k hk hp)⟩
theorem Keep.setCell {b : Nat} (h : Keep P w w') (hb : ¬ P b) (o : Nat) (v : Value) : Keep P w (w'.setCell ⟨b, o, none⟩ v) :=
  h.trans ⟨rfl, rfl, rfl, by simp [World.setCell], fun k _ hp => Below.heap_setCell _ _ _ _ (by rintro rfl; exact hb hp)⟩
theorem Keep.drew (h : Keep P w w') : Keep P w w'.drew := ⟨h.os, h.tape, h.output, h.size, h.block⟩
theorem Keep.cell (h : Keep P w w') {b o : Nat} {v : Value} (hc : w.cell? ⟨b, o, none⟩ = some v) (hp : P b) : w'.cell? ⟨b, o, none⟩ = some v :=
  (World.cell?_of_block (w := w) (a := ⟨b, o, none⟩) (h.block b (World.block_lt_of_cell? w _ hc) hp)).trans hc
theorem Keep.blk (h : Keep P w w') {b : Nat} {cs : Array Value} {t : TypeId} (hk : Blk w b cs t) (hp : P b) : Blk w' b cs t := (h.block b hk.lt hp).trans hk
theorem Keep.below {B : Nat} (h : Keep P w w') (hp : ∀ b, b < B → P b) (hB : B ≤ w.heap.size) : Below B w w' := ⟨h.os, h.tape, h.output, h.size, fun k hk => h.block k (by omega) (hp k hk)⟩
theorem Keep.own (h : Keep P w w') {base : Nat} {e : TypeId} {size : Nat} {v : Value} {n : Nat} {xs : List Value} (ho : w.ownsRow base e size v n xs) (hp : ∀ g, v.ownBlock = some g → P g) : w'.ownsRow base e size v n xs := by
  refine ⟨ho.1, ?_⟩
  rcases ho.2 with h0 | ⟨g, cap, cur, rfl, h1, h2, h3⟩
  · exact Or.inl h0
  · exact Or.inr ⟨g, cap, cur, rfl, h1, (h.block g (Array.getElem?_eq_some_iff.1 h2).1 (hp g rfl)).trans h2, h3⟩
end
/-- A row's own block is no block of another type. -/
theorem own_ne_blk {w : World} {base : Nat} {e : TypeId} {size : Nat} {v : Value} {n : Nat} {xs : List Value} (h : w.ownsRow base e size v n xs) {b : Nat} {cs : Array Value} {t : TypeId} (hk : Blk w b cs t) (hne : e ≠ t) : v.ownBlock ≠ some b := by
  rcases h.2 with ⟨rfl, _⟩ | ⟨g, cap, cur, rfl, _, h4, _⟩
  · simp [Value.ownBlock]
  · simp only [Value.ownBlock, ne_eq, Option.some.injEq]
    intro e0
    subst e0
    unfold Blk at hk
    rw [hk] at h4
    injection h4 with h4
    injection h4 with _ h4
    exact hne h4.symm
/-- A row of the call's own: where it is not empty it lies in a block. -/
theorem owns_blk {w : World} {base : Nat} {e : TypeId} {size : Nat} {v : Value} {n : Nat} {xs : List Value} (h : w.ownsRow base e size v n xs) : (v = .slice none 0 0 ∧ n = 0) ∨ ∃ g c cur, v = .slice (some ⟨g, 0, none⟩) n c ∧ Blk w g cur e ∧ n ≤ c ∧ c ≤ maxLen ∧ cur.size = c * size ∧ cur.toList.take (n * size) = xs := by
  rcases h.2 with h0 | ⟨g, cap, cur, rfl, _, h2, h3, h4, h5, h6⟩
  · exact Or.inl h0
  · exact Or.inr ⟨g, cap, cur, rfl, h2, h3, h4, h5, h6⟩

/-! ### rows of keys and costs -/
def flatI : List It → List Value
  | [] => []
  | x :: r => .int .i64 x.1 :: .int .i64 x.2 :: flatI r
theorem flatI_len (R : List It) : (flatI R).length = R.length * 2 := by
  induction R with
  | nil => rfl
  | cons x r ih => simp only [flatI, List.length_cons, ih]; omega
theorem flatI_at : ∀ (R : List It) (i : Nat) (x : It), R[i]? = some x → (flatI R)[i * 2]? = some (.int .i64 x.1) ∧ (flatI R)[i * 2 + 1]? = some (.int .i64 x.2)
  | [], i, x, h => by simp at h
  | y :: r, 0, x, h => by simp at h; subst h; exact ⟨rfl, rfl⟩
  | y :: r, i + 1, x, h => by
    have := flatI_at r i x (by simpa using h)
    rw [show (i + 1) * 2 = i * 2 + 2 from by omega]
    exact this
theorem flatI_set : ∀ (R : List It) (i : Nat) (x : It), i < R.length → flatI (R.set i x) = ((flatI R).set (i * 2) (.int .i64 x.1)).set (i * 2 + 1) (.int .i64 x.2)
  | [], i, x, h => by simp at h
  | y :: r, 0, x, h => by simp [flatI]
  | y :: r, i + 1, x, h => by
    have := flatI_set r i x (by simpa using h)
    rw [show (i + 1) * 2 = i * 2 + 1 + 1 from by omega]
    simp only [List.set_cons_succ, flatI, this]
theorem flatI_app (R Q : List It) : flatI (R ++ Q) = flatI R ++ flatI Q := by
  induction R with
  | nil => rfl
  | cons x r ih => simp only [List.cons_append, flatI, ih]
theorem flatI_take : ∀ (R : List It) (n : Nat), (flatI R).take (n * 2) = flatI (R.take n)
  | [], n => by simp [flatI]
  | y :: r, 0 => by simp [flatI]
  | y :: r, n + 1 => by
    rw [show (n + 1) * 2 = n * 2 + 1 + 1 from by omega]
    simp only [flatI, List.take_succ_cons, flatI_take r n]

/-- A heap's pointer. -/
abbrev hp (p : Nat) : Value := .pointer (some ⟨p, 0, none⟩)
/-- A key and its cost as a value. -/
abbrev itV (x : It) : Value := .agg #[.int .i64 x.1, .int .i64 x.2]
/-- At p lies a heap's box, of this row and these places; all its blocks are of S. -/
structure HpS (S : Nat → Prop) (w : World) (p : Nat) (R : List It) (P : List Int) (rv pv : Value) : Prop where
  k : Blk w p #[rv, pv] 134
  p : S p
  r : w.ownsRow 0 136 2 rv R.length (flatI R)
  rS : ∀ g, rv.ownBlock = some g → S g
  l : w.ownsRow 0 3 1 pv P.length (P.map (Value.int .i64))
  lS : ∀ g, pv.ownBlock = some g → S g
section
variable {S T : Nat → Prop} {w w' : World} {p : Nat} {R : List It} {P : List Int} {rv pv : Value}
theorem HpS.keep {Q : Nat → Prop} (h : HpS S w p R P rv pv) (hk : Keep Q w w') (hq : ∀ b, b < w.heap.size → S b → Q b) : HpS S w' p R P rv pv :=
  ⟨(hk.mono' hq).blk h.k h.p, h.p, (hk.mono' hq).own h.r h.rS, h.rS, (hk.mono' hq).own h.l h.lS, h.lS⟩
theorem HpS.old (h : HpS S w p R P rv pv) (hb : Below w.heap.size w w') : HpS S w' p R P rv pv := h.keep (Keep.of hb) (fun _ _ h => h)
theorem HpS.drew (h : HpS S w p R P rv pv) : HpS S w.drew p R P rv pv := h.old (Below.refl _ _).drew
theorem HpS.mono (h : HpS S w p R P rv pv) (hq : ∀ b, b < w.heap.size → S b → T b) : HpS T w p R P rv pv :=
  ⟨h.k, hq p h.k.lt h.p, h.r, fun g hg => hq g (h.r.lt g hg).2 (h.rS g hg), h.l, fun g hg => hq g (h.l.lt g hg).2 (h.lS g hg)⟩
theorem HpS.shape (h : HpS S w p R P rv pv) : (∃ q c, rv = .slice q R.length c ∧ R.length ≤ c ∧ c ≤ 9223372036854775807) ∧ ∃ q c, pv = .slice q P.length c := by
  constructor
  · rcases owns_blk h.r with ⟨e, e0⟩ | ⟨g, c, cur, e, _, h1, h2, _⟩
    · exact ⟨none, 0, by rw [e, e0], by omega, by omega⟩
    · exact ⟨_, c, e, h1, by unfold maxLen at h2; omega⟩
  · rcases owns_blk h.l with ⟨e, e0⟩ | ⟨g, c, cur, e, _, _, _⟩
    · exact ⟨none, 0, by rw [e, e0]⟩
    · exact ⟨_, c, e⟩
/-- The cells of place i of the row. -/
theorem HpS.at {q : Option Addr} {c : Nat} (h : HpS S w p R P (.slice q R.length c) pv) {i : Nat} {x : It} (hx : R[i]? = some x) : ∃ g, q = some ⟨g, 0, none⟩ ∧ w.cell? ⟨g, i * 2, none⟩ = some (.int .i64 x.1) ∧ w.cell? ⟨g, i * 2 + 1, none⟩ = some (.int .i64 x.2) ∧ g < w.heap.size := by
  have hl := lt_of_get hx
  rcases owns_blk h.r with ⟨e, e0⟩ | ⟨g, c', cur, e, hb, _⟩
  · omega
  · injection e with e1 e2 e3
    subst e1
    obtain ⟨x0, x1⟩ := flatI_at R i x hx
    exact ⟨g, rfl, (h.r.cellAt _ (by omega)).trans x0, (h.r.cellAt _ (by omega)).trans x1, hb.lt⟩
/-- The place of key k. -/
theorem HpS.pl {q : Option Addr} {c : Nat} (h : HpS S w p R P rv (.slice q P.length c)) {k : Nat} {x : Int} (hx : P[k]? = some x) : ∃ g, q = some ⟨g, 0, none⟩ ∧ w.cell? ⟨g, k, none⟩ = some (.int .i64 x) ∧ g < w.heap.size := by
  have hl := lt_of_get hx
  rcases owns_blk h.l with ⟨e, e0⟩ | ⟨g, c', cur, e, hb, _⟩
  · omega
  · injection e with e1 e2 e3
    subst e1
    exact ⟨g, rfl, (h.l.cellAt _ (by omega)).trans (by rw [List.getElem?_map, hx]; rfl), hb.lt⟩
theorem own_put {base : Nat} {e : TypeId} {size : Nat} {g c n : Nat} {xs : List Value} (h : w.ownsRow base e size (.slice (some ⟨g, 0, none⟩) n c) n xs) (j : Nat) (x : Value) : (w.setCell ⟨g, j, none⟩ x).ownsRow base e size (.slice (some ⟨g, 0, none⟩) n c) n (xs.set j x) := (World.ownsRow.stored h j x).1
theorem own_other {base : Nat} {e : TypeId} {size : Nat} {v : Value} {n : Nat} {xs : List Value} (h : w.ownsRow base e size v n xs) {g : Nat} (hg : v.ownBlock ≠ some g) (j : Nat) (x : Value) : (w.setCell ⟨g, j, none⟩ x).ownsRow base e size v n xs :=
  h.kept (row := some g) ⟨rfl, rfl, rfl, by simp, fun i _ hi => heap_setCell_other w ⟨g, j, none⟩ i x (fun e => hi (by simp [e]))⟩ (Or.inr hg)
/-- Place i of the row is written. -/
theorem HpS.setR {q : Option Addr} {c : Nat} (h : HpS S w p R P (.slice q R.length c) pv) {i : Nat} (hi : i < R.length) (x : It) : ∃ g, q = some ⟨g, 0, none⟩ ∧ g < w.heap.size ∧ (∃ v, w.cell? ⟨g, i * 2, none⟩ = some v) ∧ (∃ v, w.cell? ⟨g, i * 2 + 1, none⟩ = some v) ∧ w.frozen? ⟨g, i * 2, none⟩ = false ∧ w.frozen? ⟨g, i * 2 + 1, none⟩ = false ∧
    HpS S ((w.setCell ⟨g, i * 2, none⟩ (.int .i64 x.1)).setCell ⟨g, i * 2 + 1, none⟩ (.int .i64 x.2)) p (R.set i x) P (.slice q R.length c) pv ∧ Keep (fun b => ¬ S b) w ((w.setCell ⟨g, i * 2, none⟩ (.int .i64 x.1)).setCell ⟨g, i * 2 + 1, none⟩ (.int .i64 x.2)) := by
  obtain ⟨g, rfl, c0, c1, hg⟩ := h.at (List.getElem?_eq_getElem hi)
  rcases owns_blk h.r with ⟨e, e0⟩ | ⟨g', c', cur, e, hb, _⟩
  · omega
  · injection e with e1 e2 e3
    injection e1 with e1
    injection e1 with e1
    subst e1
    have hS : S g := h.rS g rfl
    have hne : g ≠ p := fun e => by
      have := own_ne_blk h.r h.k (by decide)
      exact this (by rw [← e]; rfl)
    have hpl : pv.ownBlock ≠ some g := own_ne_blk h.l hb (by decide)
    refine ⟨g, rfl, hg, ⟨_, c0⟩, ⟨_, c1⟩, hb.free _, hb.free _, ⟨?_, h.p, ?_, h.rS, own_other (own_other h.l hpl _ _) hpl _ _, h.lS⟩, ((Keep.refl _ _).setCell (fun k => k hS) _ _).setCell (fun k => k hS) _ _⟩
    · exact (h.k.other _ _ (fun e => hne e.symm)).other _ _ (fun e => hne e.symm)
    · show World.ownsRow _ _ _ _ _ (R.set i x).length (flatI (R.set i x))
      rw [List.length_set, flatI_set R i x hi]
      exact own_put (own_put h.r _ _) _ _
/-- The place of key k is written. -/
theorem HpS.setP {q : Option Addr} {c : Nat} (h : HpS S w p R P rv (.slice q P.length c)) {k : Nat} (hk : k < P.length) (x : Int) : ∃ g, q = some ⟨g, 0, none⟩ ∧ g < w.heap.size ∧ (∃ v, w.cell? ⟨g, k, none⟩ = some v) ∧ w.frozen? ⟨g, k, none⟩ = false ∧
    HpS S (w.setCell ⟨g, k, none⟩ (.int .i64 x)) p R (P.set k x) rv (.slice q P.length c) ∧ Keep (fun b => ¬ S b) w (w.setCell ⟨g, k, none⟩ (.int .i64 x)) := by
  obtain ⟨g, rfl, c0, hg⟩ := h.pl (List.getElem?_eq_getElem hk)
  rcases owns_blk h.l with ⟨e, e0⟩ | ⟨g', c', cur, e, hb, _⟩
  · omega
  · injection e with e1 e2 e3
    injection e1 with e1
    injection e1 with e1
    subst e1
    have hS : S g := h.lS g rfl
    have hne : g ≠ p := fun e => by
      have := own_ne_blk h.l h.k (by decide)
      exact this (by rw [← e]; rfl)
    have hrl : rv.ownBlock ≠ some g := own_ne_blk h.r hb (by decide)
    refine ⟨g, rfl, hg, ⟨_, c0⟩, hb.free _, ⟨?_, h.p, own_other h.r hrl _ _, h.rS, ?_, h.lS⟩, (Keep.refl _ _).setCell (fun k => k hS) _ _⟩
    · exact h.k.other _ _ (fun e => hne e.symm)
    · show World.ownsRow _ _ _ _ _ (P.set k x).length ((P.set k x).map _)
      rw [List.length_set, List.map_set]
      exact own_put h.l _ _
/-- The row's slice is stored. -/
theorem HpS.setRow (h : HpS S w p R P rv pv) {R' : List It} {rv' : Value} (hr : w.ownsRow 0 136 2 rv' R'.length (flatI R')) (hS : ∀ g, rv'.ownBlock = some g → S g) : HpS S (w.setCell ⟨p, 0, none⟩ rv') p R' P rv' pv ∧ Keep (fun b => ¬ S b) w (w.setCell ⟨p, 0, none⟩ rv') := by
  refine ⟨⟨?_, h.p, own_other hr (own_ne_blk hr h.k (by decide)) _ _, hS, own_other h.l (own_ne_blk h.l h.k (by decide)) _ _, h.lS⟩, (Keep.refl _ _).setCell (fun k => k h.p) _ _⟩
  simpa using h.k.set 0 rv'
/-- A row's first n. -/
theorem own_cut {base : Nat} {e : TypeId} {g c n m : Nat} {R : List It} (h : w.ownsRow base e 2 (.slice (some ⟨g, 0, none⟩) n c) n (flatI R)) (hm : m ≤ n) : w.ownsRow base e 2 (.slice (some ⟨g, 0, none⟩) m c) m (flatI (R.take m)) := by
  have hl := h.1
  rw [flatI_len] at hl
  rcases h.2 with ⟨e, _⟩ | ⟨g', c', cur, e, hg, hb, h1, h2, h3, h4⟩
  · cases e
  · injection e with e1 e2 e3
    subst e3
    refine ⟨by rw [flatI_len, List.length_take]; omega, Or.inr ⟨g', c, cur, by rw [e1], hg, hb, by omega, h2, h3, ?_⟩⟩
    rw [← flatI_take, ← h4, List.take_take, show min (m * 2) (n * 2) = m * 2 from by omega]
end
/-- A heap at p: its keys, and what each is at. -/
def HpAt (S : Nat → Prop) (w : World) (p : Nat) (N : Nat) (m : Nat → Option Int) : Prop := N ≤ 16384 ∧ ∃ R P rv pv, HpS S w p R P rv pv ∧ Hpp N R P m
theorem HpAt.keep {S Q : Nat → Prop} {w w' : World} {p N : Nat} {m : Nat → Option Int} (h : HpAt S w p N m) (hk : Keep Q w w') (hq : ∀ b, b < w.heap.size → S b → Q b) : HpAt S w' p N m := by
  obtain ⟨hN, R, P, rv, pv, h1, h2⟩ := h
  exact ⟨hN, R, P, rv, pv, h1.keep hk hq, h2⟩
theorem HpAt.old {S : Nat → Prop} {w w' : World} {p N : Nat} {m : Nat → Option Int} (h : HpAt S w p N m) (hb : Below w.heap.size w w') : HpAt S w' p N m := h.keep (Keep.of hb) (fun _ _ h => h)
theorem HpAt.mono {S T : Nat → Prop} {w : World} {p N : Nat} {m : Nat → Option Int} (h : HpAt S w p N m) (hq : ∀ b, b < w.heap.size → S b → T b) : HpAt T w p N m := by
  obtain ⟨hN, R, P, rv, pv, h1, h2⟩ := h
  exact ⟨hN, R, P, rv, pv, h1.mono hq, h2⟩

end Go.Proofs.YtgihaakgadmidaaGreat.HP

/-
  The program's heap: is there a key; how many are in; which goes ahead; one is laid.
-/
namespace Go.Proofs.YtgihaakgadmidaaGreat.HP
open Go.RowKit

set_option maxHeartbeats 1000000 in
theorem ahead_any (a b : It) (w : World) :
    Calls Tryz.prog 103 #[itV a, itV b] w fun e w' => e = .returned (.bool (ahdB a b)) ∧ Below w.heap.size w w' := by
  obtain ⟨a1, a2⟩ := a
  obtain ⟨b1, b2⟩ := b
  have hb : Below w.heap.size w ((w.alloc (.cells #[.int .i64 a1, .int .i64 a2] 136)).alloc (.cells #[.int .i64 b1, .int .i64 b2] 136)) := ((Below.refl _ _).alloc (Nat.le_refl _) _).alloc (by simp) _
  have HB := Lib.hid hb
  clear hb
  unfold ahdB
  simp only []
  by_cases h1 : a2 < b2
  · go_enter Tryz.func103, Tryz.ntmps103
    go_wp2
    go_ret
    exact ⟨ret_bool (by simp [h1]), HB.out⟩
  · by_cases h2 : a2 = b2
    · subst h2
      by_cases h3 : a1 < b1
      · have h4 : ¬ a2 < a2 := by omega
        go_enter Tryz.func103, Tryz.ntmps103
        go_wp2
        go_ret
        exact ⟨ret_bool (by simp), HB.out⟩
      · have h4 : ¬ a2 < a2 := by omega
        go_enter Tryz.func103, Tryz.ntmps103
        go_wp2
        go_ret
        exact ⟨ret_bool (by simp), HB.out⟩
    · go_enter Tryz.func103, Tryz.ntmps103
      go_wp2
      go_ret
      exact ⟨ret_bool (by simp [h1]), HB.out⟩

section
variable {S : Nat → Prop} {w : World} {p : Nat} {R : List It} {P : List Int} {rv pv : Value}

set_option maxHeartbeats 1000000 in
theorem hhas_any (h : HpS S w p R P rv pv) (k : Int) {B : Bool} (hB : decide (0 ≤ k ∧ k < P.length) = B) : Calls Tryz.prog 88 #[hp p, .int .i64 k] w fun e w' => e = .returned (.bool B) ∧ w = w' := by
  obtain ⟨⟨q, c, rfl, -⟩, q', c', rfl⟩ := h.shape
  obtain ⟨c0, c1, -, -⟩ := h.k.o2
  have HB := Lib.hid hB
  clear h hB
  by_cases h0 : 0 ≤ k
  · by_cases h1 : k < P.length
    · have d0 : decide (0 ≤ k) = true := by simpa using h0
      go_enter Tryz.func88, Tryz.ntmps88
      go_wp2
      go_ret
      exact ⟨ret_bool (by rw [← HB.out]; simp [h0, h1]), rfl⟩
    · have d0 : decide (0 ≤ k) = true := by simpa using h0
      go_enter Tryz.func88, Tryz.ntmps88
      go_wp2
      go_ret
      exact ⟨ret_bool (by rw [← HB.out]; simp [h1]), rfl⟩
  · have d0 : decide (0 ≤ k) = false := by simpa using h0
    go_enter Tryz.func88, Tryz.ntmps88
    go_wp2
    go_ret
    exact ⟨ret_bool (by rw [← HB.out]; symm; exact decide_eq_false (fun h => by omega)), rfl⟩

set_option maxHeartbeats 4000000 in
set_option maxRecDepth 100000 in
theorem hlay_any (h : HpS S w p R P rv pv) (i : Nat) (hi : i < R.length) (x : It) (hx : x.1 < P.length) :
    Calls Tryz.prog 104 #[hp p, .int .i64 i, itV x] w fun e w' => e = .returned (.tuple #[]) ∧ HpS S w' p (R.set i x) (P.set x.1 i) rv pv ∧ Keep (fun b => ¬ S b) w w' := by
  obtain ⟨⟨q, c, rfl, -⟩, q', c', rfl⟩ := h.shape
  obtain ⟨k, y⟩ := x
  simp only [] at hx ⊢
  obtain ⟨W, hW⟩ := named (w.alloc (.cells #[.int .i64 k, .int .i64 y] 136))
  have hbW : Below w.heap.size w W := by rw [hW]; exact (Below.refl _ _).alloc (Nat.le_refl _) _
  have h1 := h.old hbW
  have hbx : Blk W w.heap.size #[.int .i64 k, .int .i64 y] 136 := by rw [hW]; exact Blk.new _ _ _ _ rfl
  obtain ⟨b0, b1, -, -⟩ := hbx.o2
  obtain ⟨c0, c1, -, -⟩ := h1.k.o2
  obtain ⟨g, rfl, hg, ⟨v0, a0⟩, ⟨v1, a1⟩, f0, f1, hs, hk⟩ := h1.setR hi (k, y)
  simp only [] at hs hk
  have hgne : g ≠ w.heap.size := fun e => by
    have := (h.r.lt g rfl).2
    omega
  have hbx2 : Blk ((W.setCell ⟨g, i * 2, none⟩ (.int .i64 k)).setCell ⟨g, i * 2 + 1, none⟩ (.int .i64 y)) w.heap.size #[.int .i64 k, .int .i64 y] 136 := (hbx.other _ _ (fun e => hgne e.symm)).other _ _ (fun e => hgne e.symm)
  have HS := Lib.hid hs
  have HBX := Lib.hid hbx2
  have HBW := Lib.hid hbW
  have HK := Lib.hid hk
  have HW := Lib.hid hW
  have hi64 : (i : Int) < (R.length : Int) := by omega
  clear h h1 hbx hs hk hbx2 hbW hgne hW
  go_enter Tryz.func104, Tryz.ntmps104
  go_wp2_with fail
  rw [show w.alloc (.cells #[.int .i64 k, .int .i64 y] 136) = W from HW.out.symm]
  go_region
  go_wp2_with fail
  obtain ⟨W2, hW2⟩ := named ((W.setCell ⟨g, i * 2, none⟩ (.int .i64 k)).setCell ⟨g, i * 2 + 1, none⟩ (.int .i64 y)).drew
  rw [← hW2]
  have h2 : HpS S W2 p (R.set i (k, y)) P (.slice (some ⟨g, 0, none⟩) R.length c) (.slice q' P.length c') := by rw [hW2]; exact HS.out.drew
  have hk2 : Keep (fun b => ¬ S b) w W2 := by rw [hW2]; exact ((Keep.of HBW.out).trans HK.out).drew
  have hb2 : Blk W2 w.heap.size #[.int .i64 k, .int .i64 y] 136 := by rw [hW2]; exact HBX.out.drew
  clear b0 b1 c0 c1 a0 a1 f0 f1 HS HBX HBW HK HW hW2
  obtain ⟨b0, b1, -, -⟩ := hb2.o2
  obtain ⟨c0, c1, -, -⟩ := h2.k.o2
  obtain ⟨g', rfl, hg', ⟨v0, a0⟩, f0, hs, hk⟩ := h2.setP hx i
  have HS := Lib.hid hs
  have HK := Lib.hid (hk2.trans hk)
  clear h2 hk2 hb2 hs hk
  go_region
  go_wp2_with fail
  exact bodyPost_end (v := .tuple #[]) (by simp [results, Tryz.results104, go_sem]) rfl ⟨rfl, HS.out.drew, HK.out.drew⟩
end

end Go.Proofs.YtgihaakgadmidaaGreat.HP

/-
  The program's heap: which of the two below goes ahead; up and down.
-/
namespace Go.Proofs.YtgihaakgadmidaaGreat.HP
open Go.RowKit

section
variable {S : Nat → Prop} {w : World} {p : Nat} {R : List It} {P : List Int} {rv pv : Value}

set_option maxHeartbeats 2000000 in
set_option maxRecDepth 100000 in
theorem hbelow_none (h : HpS S w p R P rv pv) (a : Nat) (h1 : R.length ≤ 2 * a + 1) (ha : a ≤ 16384) : Calls Tryz.prog 105 #[hp p, .int .i64 a] w fun e w' => e = .returned (.int .i64 (-1)) ∧ w = w' := by
  obtain ⟨⟨q, c, rfl, -⟩, q', c', rfl⟩ := h.shape
  obtain ⟨c0, c1, -, -⟩ := h.k.o2
  have hi : (R.length : Int) ≤ 2 * (a : Int) + 1 := by omega
  clear h
  go_enter Tryz.func105, Tryz.ntmps105
  go_wp2
  go_ret
  exact ⟨rfl, rfl⟩

set_option maxHeartbeats 2000000 in
set_option maxRecDepth 100000 in
theorem hbelow_only (h : HpS S w p R P rv pv) (a : Nat) (hR : R.length ≤ 16384) (h1 : R.length = 2 * a + 2) : Calls Tryz.prog 105 #[hp p, .int .i64 a] w fun e w' => e = .returned (.int .i64 (2 * a + 1)) ∧ ∃ n, w' = w.drewN n := by
  obtain ⟨⟨q, c, rfl, -⟩, q', c', rfl⟩ := h.shape
  obtain ⟨c0, c1, -, -⟩ := h.k.o2
  have hi : 2 * (a : Int) + 1 < (R.length : Int) := by omega
  have hj : decide (2 * (a : Int) + 2 < (R.length : Int)) = false := by simp; omega
  have ha : (a : Int) ≤ 16384 := by omega
  clear h
  go_enter Tryz.func105, Tryz.ntmps105
  go_wp2
  go_quiet (fail)
  go_wp2
  go_ret
  exact ⟨rfl, _, rfl⟩

set_option maxHeartbeats 2000000 in
set_option maxRecDepth 100000 in
theorem hbelow_two (h : HpS S w p R P rv pv) (a : Nat) (hR : R.length ≤ 16384) {x y : It} (hx : R[2 * a + 2]? = some x) (hy : R[2 * a + 1]? = some y) (hB : ahdB x y = true) : Calls Tryz.prog 105 #[hp p, .int .i64 a] w fun e w' => e = .returned (.int .i64 (2 * a + 2)) ∧ Below w.heap.size w w' := by
  obtain ⟨⟨q, c, rfl, -⟩, q', c', rfl⟩ := h.shape
  obtain ⟨c0, c1, -, -⟩ := h.k.o2
  have hlt := lt_of_get hx
  have hi : 2 * (a : Int) + 1 < (R.length : Int) := by omega
  have hi2 : 2 * (a : Int) + 2 < (R.length : Int) := by omega
  have hj : decide (2 * (a : Int) + 2 < (R.length : Int)) = true := by simp; omega
  have ha : (a : Int) ≤ 16384 := by omega
  obtain ⟨g, rfl, x0, x1, hg⟩ := h.at hx
  obtain ⟨g', e, y0, y1, -⟩ := h.at hy
  cases e
  have C0 := Lib.hid c0
  have X0 := Lib.hid x0
  have X1 := Lib.hid x1
  have Y0 := Lib.hid y0
  have Y1 := Lib.hid y1
  have HB := Lib.hid hB
  clear h x0 x1 y0 y1 hx hy hB hlt
  go_enter Tryz.func105, Tryz.ntmps105
  go_wp2_with fail
  clear c0 c1
  have n2 : (2 * (a : Int) + 2).toNat = 2 * a + 2 := by omega
  have n1 : (2 * (a : Int) + 1).toNat = 2 * a + 1 := by omega
  have hGS : Grows (fun w' => Below w.heap.size w w') := Grows.below w
  refine' wp_growL _ (fun w' => Below w.heap.size w w') [[], [], [1], [2], [3], [4], [0, 5], [6], [7], [7, 8], [7, 9], [7, 10], [7], [7, 11, 12], [7, 13], [7], [7, 15], [7, 16], [7, 17], [7], [7, 18, 19], [7, 20], [7, 14, 21], [7, 22]] (Fact.lit _ :: Fact.lit _ :: Fact.lit _ :: Fact.lit _ :: Fact.lit _ :: Fact.lit _ :: Fact.lit _ :: Fact.lit _ :: Fact.lit _ :: Fact.lit _ :: Fact.lit _ :: Fact.lit _ :: Fact.lit _ :: Fact.lit _ :: Fact.lit _ :: Fact.lit _ :: Fact.lit _ :: Fact.lit _ :: Fact.lit _ :: Fact.lit _ :: Fact.lit _ :: Fact.lit _ :: Fact.lit _ :: Fact.lit _ :: []) (by kernel_rfl) rfl (by kernel_rfl) (Below.refl _ _).drew ?seqb4
  case' seqb4 => skip
  iterate 22 ((first | (apply grow_skip; (case hf => rfl); (case hw => rfl)) | (apply grow_lit; (case hf => rfl); (case hw => rfl); (case hrun => (intro w' hS H; clear H; (have y0 := keep hS C0.out); (have y1 := keep hS X0.out); (have y2 := keep hS X1.out); (have y3 := keep hS Y0.out); (have y4 := keep hS Y1.out); clear hS; go_simp; first | done | exact rfl)))); (case hc => (simp only [Act.put, List.setIfInBounds_toArray, List.set_cons_zero, List.set_cons_succ]; first | done | exact rfl)); (try (case hj => rfl)))
  (refine' grow_call (u := .bool true) rfl Tryz.func103 (by kernel_rfl) rfl hGS rfl ?wt33 ?run33 ?put33 ?next33; (case wt33 => rfl); (case run33 => (intro w' hS H; exact (ahead_any x y w').mono (fun e w2 h => ⟨h.1.trans (by rw [HB.out]), h.2⟩))); (case put33 => (simp only [Act.put, List.setIfInBounds_toArray, List.set_cons_zero, List.set_cons_succ]; first | done | exact rfl)); (case' next33 => skip))
  iterate 1 ((first | (apply grow_skip; (case hf => rfl); (case hw => rfl)) | (apply grow_lit; (case hf => rfl); (case hw => rfl); (case hrun => (intro w' hS H; clear H; (have y0 := keep hS C0.out); (have y1 := keep hS X0.out); (have y2 := keep hS X1.out); (have y3 := keep hS Y0.out); (have y4 := keep hS Y1.out); clear hS; go_simp; first | done | exact rfl)))); (case hc => (simp only [Act.put, List.setIfInBounds_toArray, List.set_cons_zero, List.set_cons_succ]; first | done | exact rfl)); (try (case hj => rfl)))
  intro w1 hb _
  go_wp2_with fail
  go_ret
  exact ⟨rfl, hb⟩

set_option maxHeartbeats 2000000 in
set_option maxRecDepth 100000 in
theorem hbelow_one (h : HpS S w p R P rv pv) (a : Nat) (hR : R.length ≤ 16384) {x y : It} (hx : R[2 * a + 2]? = some x) (hy : R[2 * a + 1]? = some y) (hB : ahdB x y = false) : Calls Tryz.prog 105 #[hp p, .int .i64 a] w fun e w' => e = .returned (.int .i64 (2 * a + 1)) ∧ Below w.heap.size w w' := by
  obtain ⟨⟨q, c, rfl, -⟩, q', c', rfl⟩ := h.shape
  obtain ⟨c0, c1, -, -⟩ := h.k.o2
  have hlt := lt_of_get hx
  have hi : 2 * (a : Int) + 1 < (R.length : Int) := by omega
  have hi2 : 2 * (a : Int) + 2 < (R.length : Int) := by omega
  have hj : decide (2 * (a : Int) + 2 < (R.length : Int)) = true := by simp; omega
  have ha : (a : Int) ≤ 16384 := by omega
  obtain ⟨g, rfl, x0, x1, hg⟩ := h.at hx
  obtain ⟨g', e, y0, y1, -⟩ := h.at hy
  cases e
  have C0 := Lib.hid c0
  have X0 := Lib.hid x0
  have X1 := Lib.hid x1
  have Y0 := Lib.hid y0
  have Y1 := Lib.hid y1
  have HB := Lib.hid hB
  clear h x0 x1 y0 y1 hx hy hB hlt
  go_enter Tryz.func105, Tryz.ntmps105
  go_wp2_with fail
  clear c0 c1
  have n2 : (2 * (a : Int) + 2).toNat = 2 * a + 2 := by omega
  have n1 : (2 * (a : Int) + 1).toNat = 2 * a + 1 := by omega
  have hGS : Grows (fun w' => Below w.heap.size w w') := Grows.below w
  refine' wp_growL _ (fun w' => Below w.heap.size w w') [[], [], [1], [2], [3], [4], [0, 5], [6], [7], [7, 8], [7, 9], [7, 10], [7], [7, 11, 12], [7, 13], [7], [7, 15], [7, 16], [7, 17], [7], [7, 18, 19], [7, 20], [7, 14, 21], [7, 22]] (Fact.lit _ :: Fact.lit _ :: Fact.lit _ :: Fact.lit _ :: Fact.lit _ :: Fact.lit _ :: Fact.lit _ :: Fact.lit _ :: Fact.lit _ :: Fact.lit _ :: Fact.lit _ :: Fact.lit _ :: Fact.lit _ :: Fact.lit _ :: Fact.lit _ :: Fact.lit _ :: Fact.lit _ :: Fact.lit _ :: Fact.lit _ :: Fact.lit _ :: Fact.lit _ :: Fact.lit _ :: Fact.lit _ :: Fact.lit _ :: []) (by kernel_rfl) rfl (by kernel_rfl) (Below.refl _ _).drew ?seqb4
  case' seqb4 => skip
  iterate 22 ((first | (apply grow_skip; (case hf => rfl); (case hw => rfl)) | (apply grow_lit; (case hf => rfl); (case hw => rfl); (case hrun => (intro w' hS H; clear H; (have y0 := keep hS C0.out); (have y1 := keep hS X0.out); (have y2 := keep hS X1.out); (have y3 := keep hS Y0.out); (have y4 := keep hS Y1.out); clear hS; go_simp; first | done | exact rfl)))); (case hc => (simp only [Act.put, List.setIfInBounds_toArray, List.set_cons_zero, List.set_cons_succ]; first | done | exact rfl)); (try (case hj => rfl)))
  (refine' grow_call (u := .bool false) rfl Tryz.func103 (by kernel_rfl) rfl hGS rfl ?wt34 ?run34 ?put34 ?next34; (case wt34 => rfl); (case run34 => (intro w' hS H; exact (ahead_any x y w').mono (fun e w2 h => ⟨h.1.trans (by rw [HB.out]), h.2⟩))); (case put34 => (simp only [Act.put, List.setIfInBounds_toArray, List.set_cons_zero, List.set_cons_succ]; first | done | exact rfl)); (case' next34 => skip))
  iterate 1 ((first | (apply grow_skip; (case hf => rfl); (case hw => rfl)) | (apply grow_lit; (case hf => rfl); (case hw => rfl); (case hrun => (intro w' hS H; clear H; (have y0 := keep hS C0.out); (have y1 := keep hS X0.out); (have y2 := keep hS X1.out); (have y3 := keep hS Y0.out); (have y4 := keep hS Y1.out); clear hS; go_simp; first | done | exact rfl)))); (case hc => (simp only [Act.put, List.setIfInBounds_toArray, List.set_cons_zero, List.set_cons_succ]; first | done | exact rfl)); (try (case hj => rfl)))
  intro w1 hb _
  go_wp2_with fail
  go_ret
  exact ⟨rfl, hb⟩

theorem hbelow_some (h : HpS S w p R P rv pv) (a : Nat) (hR : R.length ≤ 16384) (h1 : 2 * a + 1 < R.length) : ∃ (d : Nat) (D : It), (d = 2 * a + 1 ∨ d = 2 * a + 2) ∧ R[d]? = some D ∧ (∀ (i : Nat) (x : It), 0 < i → (i - 1) / 2 = a → R[i]? = some x → ¬ ahd x D) ∧
    Calls Tryz.prog 105 #[hp p, .int .i64 a] w fun e w' => e = .returned (.int .i64 d) ∧ Below w.heap.size w w' := by
  have hy : R[2 * a + 1]? = some R[2 * a + 1] := List.getElem?_eq_getElem h1
  obtain ⟨y, ey⟩ : ∃ y, R[2 * a + 1] = y := ⟨_, rfl⟩
  rw [ey] at hy
  by_cases h2 : 2 * a + 2 < R.length
  · have hx : R[2 * a + 2]? = some R[2 * a + 2] := List.getElem?_eq_getElem h2
    obtain ⟨x, ex⟩ : ∃ x, R[2 * a + 2] = x := ⟨_, rfl⟩
    rw [ex] at hx
    have two : ∀ (i : Nat), 0 < i → (i - 1) / 2 = a → i = 2 * a + 1 ∨ i = 2 * a + 2 := fun i _ _ => by omega
    rcases ahd_or x y with hB | hB
    · refine ⟨2 * a + 2, x, Or.inr rfl, hx, fun i z h0 hi hz => ?_, (hbelow_two h a hR hx hy (ahdB_true hB)).mono fun e w' h => ⟨h.1.trans (ret_int (by omega)), h.2⟩⟩
      rcases two i h0 hi with rfl | rfl
      · rw [hy] at hz; injection hz with hz; subst hz; exact ahd_asymm hB
      · rw [hx] at hz; injection hz with hz; subst hz; exact nahd_refl _
    · refine ⟨2 * a + 1, y, Or.inl rfl, hy, fun i z h0 hi hz => ?_, (hbelow_one h a hR hx hy (ahdB_false hB)).mono fun e w' h => ⟨h.1.trans (ret_int (by omega)), h.2⟩⟩
      rcases two i h0 hi with rfl | rfl
      · rw [hy] at hz; injection hz with hz; subst hz; exact nahd_refl _
      · rw [hx] at hz; injection hz with hz; subst hz; exact hB
  · refine ⟨2 * a + 1, y, Or.inl rfl, hy, fun i z h0 hi hz => ?_, (hbelow_only h a hR (by omega)).mono fun e w' h => ⟨h.1.trans (ret_int (by omega)), ?_⟩⟩
    · have hl := lt_of_get hz
      have : i = 2 * a + 1 := by omega
      subst this
      rw [hy] at hz; injection hz with hz; subst hz; exact nahd_refl _
    · obtain ⟨-, n, rfl⟩ := h
      exact below_drewN (Below.refl _ _) n
end

end Go.Proofs.YtgihaakgadmidaaGreat.HP

/-
  The program's heap: on the way up, on the way down.
-/
namespace Go.Proofs.YtgihaakgadmidaaGreat.HP
open Go.RowKit

/-- A heap at p, of row and places whatever, but the same slices; the keys as told; what is none of its blocks stays. -/
def SiftPost (S : Nat → Prop) (w : World) (p N : Nat) (m : Nat → Option Int) (rv pv : Value) (e : Ending) (w' : World) : Prop :=
  e = .returned (.tuple #[]) ∧ ∃ R P, HpS S w' p R P rv pv ∧ Hpp N R P m ∧ Keep (fun b => ¬ S b) w w'
/-- The way up at a round's head. -/
def RiseRel (S : Nat → Prop) (w : World) (p N : Nat) (m : Nat → Option Int) (rv pv : Value) (it : It) (v : Value) (wr : World) : Prop :=
  ∃ (a : Nat) (R : List It) (P : List Int), v = .int .i64 a ∧ HpS S wr p R P rv pv ∧ Up N R P m a it ∧ Keep (fun b => ¬ S b) w wr ∧ Blk wr w.heap.size #[.int .i64 it.1, .int .i64 it.2] 136 ∧ w.heap.size < wr.heap.size
def SinkRel (S : Nat → Prop) (w : World) (p N : Nat) (m : Nat → Option Int) (rv pv : Value) (it : It) (v : Value) (wr : World) : Prop :=
  ∃ (a : Nat) (R : List It) (P : List Int), v = .int .i64 a ∧ HpS S wr p R P rv pv ∧ Down N R P m a it ∧ Keep (fun b => ¬ S b) w wr ∧ Blk wr w.heap.size #[.int .i64 it.1, .int .i64 it.2] 136 ∧ w.heap.size < wr.heap.size ∧ R.length ≤ 16384
section
variable {S : Nat → Prop} {w : World} {p : Nat} {R : List It} {P : List Int} {rv pv : Value} {N : Nat} {m : Nat → Option Int}
theorem Up.pl {a : Nat} {it : It} (h : Up N R P m a it) : P.length = N := by have := h.con.pl; rw [List.length_set] at this; exact this
theorem Up.rl {a : Nat} {it : It} (h : Up N R P m a it) : R.length ≤ N := by have := h.con.len; rw [List.length_set] at this; exact this
theorem Up.key {a : Nat} {it : It} (h : Up N R P m a it) : it.1 < N := (h.con.row a it h.at).1
theorem Up.key' {a i : Nat} {it x : It} (h : Up N R P m a it) (hi : i ≠ a) (hx : R[i]? = some x) : x.1 < N := (h.con.row i x (by rw [get_set_ne hi]; exact hx)).1
theorem Down.pl {a : Nat} {it : It} (h : Down N R P m a it) : P.length = N := by have := h.con.pl; rw [List.length_set] at this; exact this
theorem Down.rl {a : Nat} {it : It} (h : Down N R P m a it) : R.length ≤ N := by have := h.con.len; rw [List.length_set] at this; exact this
theorem Down.key {a : Nat} {it : It} (h : Down N R P m a it) : it.1 < N := (h.con.row a it h.at).1
theorem Down.key' {a i : Nat} {it x : It} (h : Down N R P m a it) (hi : i ≠ a) (hx : R[i]? = some x) : x.1 < N := (h.con.row i x (by rw [get_set_ne hi]; exact hx)).1
theorem nS_of (hS : ∀ b, S b → b < w.heap.size) : ¬ S w.heap.size := fun h => by have := hS _ h; omega

set_option maxHeartbeats 4000000 in
set_option maxRecDepth 100000 in
theorem hrise0 (hS : ∀ b, S b → b < w.heap.size) (h : HpS S w p R P rv pv) (a0 : Nat) (it : It) (hu : Up N R P m a0 it) (hN : N ≤ 16384) : Calls Tryz.prog 89 #[hp p, .int .i64 a0, itV it] w (SiftPost S w p N m rv pv) := by
  have HSS := Lib.hid hS
  have HH := Lib.hid h
  have HU0 := Lib.hid hu
  clear h hS hu
  go_enter Tryz.func89, Tryz.ntmps89
  go_wp2_with fail
  go_loopw [1] (fun v wr => RiseRel S w p N m rv pv it v wr) (fun v _ => (intOf v).toNat)
  case atStart =>
    have hb : Below w.heap.size w (w.alloc (.cells #[.int .i64 it.1, .int .i64 it.2] 136)) := (Below.refl _ _).alloc (Nat.le_refl _) _
    exact ⟨a0, R, P, rfl, HH.out.old hb, HU0.out, Keep.of hb, Blk.new _ _ _ _ rfl, by simp⟩
  case round =>
    obtain ⟨a, R1, P1, rfl, h1, hu, hk, hbx, hlt⟩ := hrel
    clear HH HU0
    obtain ⟨⟨q, c, rfl, -⟩, q', c', rfl⟩ := h1.shape
    have hnS : ¬ S w.heap.size := nS_of HSS.out
    have hlen := hu.rl
    obtain ⟨wo, rfl⟩ : ∃ wo : World, wo = wr := ⟨_, rfl⟩
    obtain ⟨b0, b1, -, -⟩ := hbx.o2
    obtain ⟨c0, c1, -, -⟩ := h1.k.o2
    rcases Nat.eq_zero_or_pos a with h0 | h0
    · have HD := Lib.hid (hu.done (Or.inl h0))
      have HU := Lib.hid hu
      have H1 := Lib.hid h1
      have HK1 := Lib.hid hk
      have d0 : decide (0 < a) = false := by simp; omega
      clear hu h1 hk hbx h0
      go_wp2_with fail
      refine (hlay_any H1.out a HU.out.len it (by rw [HU.out.pl]; exact HU.out.key)).mono ?_
      rintro e w2 ⟨rfl, hs2, hk2⟩
      have HS2 := Lib.hid hs2
      have HK2 := Lib.hid hk2
      clear hs2 hk2
      go_wp2_with fail
      exact bodyPost_end (v := .tuple #[]) (by simp [results, Tryz.results89, go_sem]) rfl ⟨rfl, _, _, HS2.out, HD.out, HK1.out.trans HK2.out⟩
    · have hup : (a - 1) / 2 < R1.length := by have := hu.len; omega
      obtain ⟨J, hJ⟩ : ∃ J, (a - 1) / 2 = J := ⟨_, rfl⟩
      obtain ⟨U, hUx⟩ : ∃ U, R1[(a - 1) / 2]? = some U := ⟨_, List.getElem?_eq_getElem hup⟩
      have hUk : U.1 < N := hu.key' (by omega) hUx
      have HST := Lib.hid (hu.step h0 hUx)
      have HDN : Hid (¬ ahd it U → Hpp N (R1.set a it) (P1.set it.1 a) m) := Lib.hid (fun hn => hu.done (Or.inr ⟨U, hUx, hn⟩))
      rw [hJ] at hUx hup
      have hJ' := Lib.hid hJ
      obtain ⟨g, rfl, x0, x1, hg⟩ := h1.at hUx
      have hJi : (J : Int) < (R1.length : Int) := by omega
      have hq : ((a : Int) - 1) / 2 = (J : Int) := by omega
      have hq' : ((a : Int) - 1).tdiv 2 = (J : Int) := by rw [Int.tdiv_eq_ediv_of_nonneg (by omega)]; exact hq
      have h1a : (1 : Int) ≤ a := by omega
      have h0a : (0 : Int) < a := by omega
      have hJa : J < a := by omega
      have HU := Lib.hid hu
      have H1 := Lib.hid h1
      have HK1 := Lib.hid hk
      have HB := Lib.hid hbx
      have C0 := Lib.hid c0
      have X0 := Lib.hid x0
      have X1 := Lib.hid x1
      have B0 := Lib.hid b0
      have B1 := Lib.hid b1
      clear hu h1 hk hbx x0 x1 hUx hJ
      cases hB : ahdB it U with
      | false =>
        have HBB := Lib.hid hB
        clear hB
        have HD := Lib.hid (HDN.out (ahd_not HBB.out))
        clear HDN HST c0 c1 b0 b1
        go_wp2_with fail
        have hGS : Grows (fun w' => Below wo.heap.size wo w') := Grows.below wo
        refine' wp_growL _ (fun w' => Below wo.heap.size wo w') [[], [], [1], [2], [3], [], [4, 5], [6], [0, 7], [8]] (Fact.lit _ :: Fact.lit _ :: Fact.lit _ :: Fact.lit _ :: Fact.lit _ :: Fact.lit _ :: Fact.lit _ :: Fact.lit _ :: Fact.lit _ :: Fact.lit _ :: []) (by kernel_rfl) rfl (by kernel_rfl) (Below.refl _ _).drew ?seqr3f
        case' seqr3f => skip
        iterate 8 ((first | (apply grow_skip; (case hf => rfl); (case hw => rfl)) | (apply grow_lit; (case hf => rfl); (case hw => rfl); (case hrun => (intro w' hS H; clear H; (have y0 := keep hS C0.out); (have y1 := keep hS X0.out); (have y2 := keep hS X1.out); (have y3 := keep hS B0.out); (have y4 := keep hS B1.out); clear hS; go_simp; first | done | exact rfl)))); (case hc => (simp only [Act.put, List.setIfInBounds_toArray, List.set_cons_zero, List.set_cons_succ]; first | done | exact rfl)); (try (case hj => rfl)))
        (refine' grow_call (u := .bool false) rfl Tryz.func103 (by kernel_rfl) rfl hGS rfl ?wt35 ?run35 ?put35 ?next35; (case wt35 => rfl); (case run35 => (intro w' hS H; exact (ahead_any it U w').mono (fun e w2 h => ⟨h.1.trans (by rw [HBB.out]), h.2⟩))); (case put35 => (simp only [Act.put, List.setIfInBounds_toArray, List.set_cons_zero, List.set_cons_succ]; first | done | exact rfl)); (case' next35 => skip))
        iterate 1 ((first | (apply grow_skip; (case hf => rfl); (case hw => rfl)) | (apply grow_lit; (case hf => rfl); (case hw => rfl); (case hrun => (intro w' hS H; clear H; (have y0 := keep hS C0.out); (have y1 := keep hS X0.out); (have y2 := keep hS X1.out); (have y3 := keep hS B0.out); (have y4 := keep hS B1.out); clear hS; go_simp; first | done | exact rfl)))); (case hc => (simp only [Act.put, List.setIfInBounds_toArray, List.set_cons_zero, List.set_cons_succ]; first | done | exact rfl)); (try (case hj => rfl)))
        intro w1 hb _
        have H2 := Lib.hid (H1.out.old hb)
        have HK3 := Lib.hid (HK1.out.trans (Keep.of hb))
        obtain ⟨b0, b1, -, -⟩ := (HB.out.keep hb).o2
        clear hb hGS
        go_wp2_with fail
        refine (hlay_any H2.out a HU.out.len it (by rw [HU.out.pl]; exact HU.out.key)).mono ?_
        rintro e w2 ⟨rfl, hs2, hk2⟩
        have HS2 := Lib.hid hs2
        have HK2 := Lib.hid hk2
        clear hs2 hk2
        go_wp2_with fail
        exact bodyPost_end (v := .tuple #[]) (by simp [results, Tryz.results89, go_sem]) rfl ⟨rfl, _, _, HS2.out, HD.out, HK3.out.trans HK2.out⟩
      | true =>
        have HBB := Lib.hid hB
        clear hB
        have HST2 := Lib.hid (show Up N (R1.set a U) (P1.set U.1 a) m J it from by rw [← hJ'.out]; exact HST.out (ahd_of HBB.out))
        clear HDN HST c0 c1 b0 b1
        go_wp2_with fail
        have hGS : Grows (fun w' => Below wo.heap.size wo w') := Grows.below wo
        refine' wp_growL _ (fun w' => Below wo.heap.size wo w') [[], [], [1], [2], [3], [], [4, 5], [6], [0, 7], [8]] (Fact.lit _ :: Fact.lit _ :: Fact.lit _ :: Fact.lit _ :: Fact.lit _ :: Fact.lit _ :: Fact.lit _ :: Fact.lit _ :: Fact.lit _ :: Fact.lit _ :: []) (by kernel_rfl) rfl (by kernel_rfl) (Below.refl _ _).drew ?seqr3t
        case' seqr3t => skip
        iterate 8 ((first | (apply grow_skip; (case hf => rfl); (case hw => rfl)) | (apply grow_lit; (case hf => rfl); (case hw => rfl); (case hrun => (intro w' hS H; clear H; (have y0 := keep hS C0.out); (have y1 := keep hS X0.out); (have y2 := keep hS X1.out); (have y3 := keep hS B0.out); (have y4 := keep hS B1.out); clear hS; go_simp; first | done | exact rfl)))); (case hc => (simp only [Act.put, List.setIfInBounds_toArray, List.set_cons_zero, List.set_cons_succ]; first | done | exact rfl)); (try (case hj => rfl)))
        (refine' grow_call (u := .bool true) rfl Tryz.func103 (by kernel_rfl) rfl hGS rfl ?wt36 ?run36 ?put36 ?next36; (case wt36 => rfl); (case run36 => (intro w' hS H; exact (ahead_any it U w').mono (fun e w2 h => ⟨h.1.trans (by rw [HBB.out]), h.2⟩))); (case put36 => (simp only [Act.put, List.setIfInBounds_toArray, List.set_cons_zero, List.set_cons_succ]; first | done | exact rfl)); (case' next36 => skip))
        iterate 1 ((first | (apply grow_skip; (case hf => rfl); (case hw => rfl)) | (apply grow_lit; (case hf => rfl); (case hw => rfl); (case hrun => (intro w' hS H; clear H; (have y0 := keep hS C0.out); (have y1 := keep hS X0.out); (have y2 := keep hS X1.out); (have y3 := keep hS B0.out); (have y4 := keep hS B1.out); clear hS; go_simp; first | done | exact rfl)))); (case hc => (simp only [Act.put, List.setIfInBounds_toArray, List.set_cons_zero, List.set_cons_succ]; first | done | exact rfl)); (try (case hj => rfl)))
        intro w1 hb _
        have H2 := Lib.hid (H1.out.old hb)
        have HK3 := Lib.hid (HK1.out.trans (Keep.of hb))
        obtain ⟨b0, b1, -, -⟩ := (HB.out.keep hb).o2
        have x0 := keep hb X0.out
        have x1 := keep hb X1.out
        obtain ⟨c0, c1, -, -⟩ := H2.out.k.o2
        have HZ := Lib.hid (Nat.lt_of_lt_of_le hlt hb.size)
        have HB2 := Lib.hid (HB.out.keep hb)
        clear hb hGS
        go_wp2_with fail
        refine (hlay_any H2.out a HU.out.len U (by rw [HU.out.pl]; exact hUk)).mono ?_
        rintro e w2 ⟨rfl, hs2, hk2⟩
        have HR : Hid (RiseRel S w p N m (.slice (some ⟨g, 0, none⟩) R1.length c) (.slice q' P1.length c') it (.int .i64 J) w2) := Lib.hid ⟨J, _, _, rfl, hs2, HST2.out, HK3.out.trans hk2, hk2.blk HB2.out hnS, Nat.lt_of_lt_of_le HZ.out hk2.size⟩
        clear hs2 hk2 x0 x1 c0 c1 b0 b1
        go_wp2_with fail
        go_roundw
        case rel => exact HR.out
        case measure => simp [intOf]; omega

set_option maxHeartbeats 4000000 in
set_option maxRecDepth 100000 in
theorem hsink0 (hS : ∀ b, S b → b < w.heap.size) (h : HpS S w p R P rv pv) (a0 : Nat) (it : It) (hu : Down N R P m a0 it) (hN : N ≤ 16384) : Calls Tryz.prog 90 #[hp p, .int .i64 a0, itV it] w (SiftPost S w p N m rv pv) := by
  have HSS := Lib.hid hS
  have HH := Lib.hid h
  have HU0 := Lib.hid hu
  clear h hS hu
  go_enter Tryz.func90, Tryz.ntmps90
  go_wp2_with fail
  go_loopw [1] (fun v wr => SinkRel S w p N m rv pv it v wr) (fun v _ => 16384 - (intOf v).toNat)
  case atStart =>
    have hb : Below w.heap.size w (w.alloc (.cells #[.int .i64 it.1, .int .i64 it.2] 136)) := (Below.refl _ _).alloc (Nat.le_refl _) _
    exact ⟨a0, R, P, rfl, HH.out.old hb, HU0.out, Keep.of hb, Blk.new _ _ _ _ rfl, by simp, Nat.le_trans HU0.out.rl hN⟩
  case round =>
    obtain ⟨a, R1, P1, rfl, h1, hu, hk, hbx, hlt, hR⟩ := hrel
    clear HH HU0
    obtain ⟨⟨q, c, rfl, -⟩, q', c', rfl⟩ := h1.shape
    have hnS : ¬ S w.heap.size := nS_of HSS.out
    have hal := hu.len
    obtain ⟨wo, rfl⟩ : ∃ wo : World, wo = wr := ⟨_, rfl⟩
    by_cases hd : 2 * a + 1 < R1.length
    · obtain ⟨d, D, hda, hD, hmin, hcall⟩ := hbelow_some h1 a hR hd
      have hdl := lt_of_get hD
      have hDk : D.1 < N := hu.key' (by omega) hD
      have HST := Lib.hid (hu.step (q := d) (by omega) (by omega) hD)
      have HDN : Hid (¬ ahd D it → Hpp N (R1.set a it) (P1.set it.1 a) m) := Lib.hid (fun hn => hu.done fun i x h0 hi hx => nahd_trans (hmin i x h0 hi hx) hn)
      have HMIN := Lib.hid hmin
      obtain ⟨g, rfl, x0, x1, hg⟩ := h1.at hD
      have hdi : (d : Int) < (R1.length : Int) := by omega
      have hdn : ((d : Int) == -1) = false := by simp
      have hgt : a < d := by omega
      have hd0 : 0 < d := by omega
      have hd16 : d < 16384 := by omega
      have HU := Lib.hid hu
      have H1 := Lib.hid h1
      have HK1 := Lib.hid hk
      have HB := Lib.hid hbx
      have HC := Lib.hid hcall
      have X0 := Lib.hid x0
      have X1 := Lib.hid x1
      clear hu h1 hk hbx x0 x1 hda hD hmin hcall hd
      cases hB : ahdB D it with
      | false =>
        have HBB := Lib.hid hB
        clear hB
        have HD := Lib.hid (HDN.out (ahd_not HBB.out))
        clear HDN HST HMIN
        go_wp2_with fail
        refine HC.out.mono ?_
        rintro e w0 ⟨rfl, hb0⟩
        have H0 := Lib.hid (H1.out.old hb0)
        obtain ⟨c0, c1, -, -⟩ := H0.out.k.o2
        have C0 := Lib.hid c0
        have Z0 := Lib.hid (keep hb0 X0.out)
        have Z1 := Lib.hid (keep hb0 X1.out)
        have HB0 := Lib.hid (HB.out.keep hb0)
        obtain ⟨b0, b1, -, -⟩ := HB0.out.o2
        have B0 := Lib.hid b0
        have B1 := Lib.hid b1
        have HK0 := Lib.hid (HK1.out.trans (Keep.of hb0))
        clear hb0 c0 c1 b0 b1
        go_wp2_with fail
        have hGS : Grows (fun w' => Below w0.heap.size w0 w') := Grows.below w0
        refine' wp_growL _ (fun w' => Below w0.heap.size w0 w') [[], [0], [1], [2], [2, 3], [2, 4], [2, 5], [2], [2, 6, 7], [2, 8], [2], [2, 9, 10], [2, 11], [2, 12]] (Fact.lit _ :: Fact.lit _ :: Fact.lit _ :: Fact.lit _ :: Fact.lit _ :: Fact.lit _ :: Fact.lit _ :: Fact.lit _ :: Fact.lit _ :: Fact.lit _ :: Fact.lit _ :: Fact.lit _ :: Fact.lit _ :: Fact.lit _ :: []) (by kernel_rfl) rfl (by kernel_rfl) (Below.refl _ _).drew ?seqs2f
        case' seqs2f => skip
        iterate 11 ((first | (apply grow_skip; (case hf => rfl); (case hw => rfl)) | (apply grow_lit; (case hf => rfl); (case hw => rfl); (case hrun => (intro w' hS H; clear H; (have y0 := keep hS C0.out); (have y1 := keep hS Z0.out); (have y2 := keep hS Z1.out); (have y3 := keep hS B0.out); (have y4 := keep hS B1.out); clear hS; go_simp; first | done | exact rfl)))); (case hc => (simp only [Act.put, List.setIfInBounds_toArray, List.set_cons_zero, List.set_cons_succ]; first | done | exact rfl)); (try (case hj => rfl)))
        (refine' grow_call (u := .bool false) rfl Tryz.func103 (by kernel_rfl) rfl hGS rfl ?wt37 ?run37 ?put37 ?next37; (case wt37 => rfl); (case run37 => (intro w' hS H; exact (ahead_any D it w').mono (fun e w2 h => ⟨h.1.trans (by rw [HBB.out]), h.2⟩))); (case put37 => (simp only [Act.put, List.setIfInBounds_toArray, List.set_cons_zero, List.set_cons_succ]; first | done | exact rfl)); (case' next37 => skip))
        iterate 2 ((first | (apply grow_skip; (case hf => rfl); (case hw => rfl)) | (apply grow_lit; (case hf => rfl); (case hw => rfl); (case hrun => (intro w' hS H; clear H; (have y0 := keep hS C0.out); (have y1 := keep hS Z0.out); (have y2 := keep hS Z1.out); (have y3 := keep hS B0.out); (have y4 := keep hS B1.out); clear hS; go_simp; first | done | exact rfl)))); (case hc => (simp only [Act.put, List.setIfInBounds_toArray, List.set_cons_zero, List.set_cons_succ]; first | done | exact rfl)); (try (case hj => rfl)))
        intro w1 hb _
        have H2 := Lib.hid (H0.out.old hb)
        have HK3 := Lib.hid (HK0.out.trans (Keep.of hb))
        obtain ⟨b0, b1, -, -⟩ := (HB0.out.keep hb).o2
        clear hb hGS
        go_wp2_with fail
        refine (hlay_any H2.out a HU.out.len it (by rw [HU.out.pl]; exact HU.out.key)).mono ?_
        rintro e w2 ⟨rfl, hs2, hk2⟩
        have HS2 := Lib.hid hs2
        have HK2 := Lib.hid hk2
        clear hs2 hk2
        go_wp2_with fail
        exact bodyPost_end (v := .tuple #[]) (by simp [results, Tryz.results90, go_sem]) rfl ⟨rfl, _, _, HS2.out, HD.out, HK3.out.trans HK2.out⟩
      | true =>
        have HBB := Lib.hid hB
        clear hB
        have HST2 := Lib.hid (HST.out (ahd_of HBB.out) HMIN.out)
        clear HDN HST HMIN
        go_wp2_with fail
        refine HC.out.mono ?_
        rintro e w0 ⟨rfl, hb0⟩
        have H0 := Lib.hid (H1.out.old hb0)
        obtain ⟨c0, c1, -, -⟩ := H0.out.k.o2
        have C0 := Lib.hid c0
        have Z0 := Lib.hid (keep hb0 X0.out)
        have Z1 := Lib.hid (keep hb0 X1.out)
        have HB0 := Lib.hid (HB.out.keep hb0)
        obtain ⟨b0, b1, -, -⟩ := HB0.out.o2
        have B0 := Lib.hid b0
        have B1 := Lib.hid b1
        have HK0 := Lib.hid (HK1.out.trans (Keep.of hb0))
        have HLT := Lib.hid (Nat.lt_of_lt_of_le hlt hb0.size)
        clear hb0 c0 c1 b0 b1 hlt
        go_wp2_with fail
        have hGS : Grows (fun w' => Below w0.heap.size w0 w') := Grows.below w0
        refine' wp_growL _ (fun w' => Below w0.heap.size w0 w') [[], [0], [1], [2], [2, 3], [2, 4], [2, 5], [2], [2, 6, 7], [2, 8], [2], [2, 9, 10], [2, 11], [2, 12]] (Fact.lit _ :: Fact.lit _ :: Fact.lit _ :: Fact.lit _ :: Fact.lit _ :: Fact.lit _ :: Fact.lit _ :: Fact.lit _ :: Fact.lit _ :: Fact.lit _ :: Fact.lit _ :: Fact.lit _ :: Fact.lit _ :: Fact.lit _ :: []) (by kernel_rfl) rfl (by kernel_rfl) (Below.refl _ _).drew ?seqs2t
        case' seqs2t => skip
        iterate 11 ((first | (apply grow_skip; (case hf => rfl); (case hw => rfl)) | (apply grow_lit; (case hf => rfl); (case hw => rfl); (case hrun => (intro w' hS H; clear H; (have y0 := keep hS C0.out); (have y1 := keep hS Z0.out); (have y2 := keep hS Z1.out); (have y3 := keep hS B0.out); (have y4 := keep hS B1.out); clear hS; go_simp; first | done | exact rfl)))); (case hc => (simp only [Act.put, List.setIfInBounds_toArray, List.set_cons_zero, List.set_cons_succ]; first | done | exact rfl)); (try (case hj => rfl)))
        (refine' grow_call (u := .bool true) rfl Tryz.func103 (by kernel_rfl) rfl hGS rfl ?wt38 ?run38 ?put38 ?next38; (case wt38 => rfl); (case run38 => (intro w' hS H; exact (ahead_any D it w').mono (fun e w2 h => ⟨h.1.trans (by rw [HBB.out]), h.2⟩))); (case put38 => (simp only [Act.put, List.setIfInBounds_toArray, List.set_cons_zero, List.set_cons_succ]; first | done | exact rfl)); (case' next38 => skip))
        iterate 2 ((first | (apply grow_skip; (case hf => rfl); (case hw => rfl)) | (apply grow_lit; (case hf => rfl); (case hw => rfl); (case hrun => (intro w' hS H; clear H; (have y0 := keep hS C0.out); (have y1 := keep hS Z0.out); (have y2 := keep hS Z1.out); (have y3 := keep hS B0.out); (have y4 := keep hS B1.out); clear hS; go_simp; first | done | exact rfl)))); (case hc => (simp only [Act.put, List.setIfInBounds_toArray, List.set_cons_zero, List.set_cons_succ]; first | done | exact rfl)); (try (case hj => rfl)))
        intro w1 hb _
        have H2 := Lib.hid (H0.out.old hb)
        have HK3 := Lib.hid (HK0.out.trans (Keep.of hb))
        have HB2 := Lib.hid (HB0.out.keep hb)
        have x0 := keep hb Z0.out
        have x1 := keep hb Z1.out
        obtain ⟨c0, c1, -, -⟩ := H2.out.k.o2
        have HZ := Lib.hid (Nat.lt_of_lt_of_le HLT.out hb.size)
        clear hb hGS
        go_wp2_with fail
        refine (hlay_any H2.out a HU.out.len D (by rw [HU.out.pl]; exact hDk)).mono ?_
        rintro e w2 ⟨rfl, hs2, hk2⟩
        have HR : Hid (SinkRel S w p N m (.slice (some ⟨g, 0, none⟩) R1.length c) (.slice q' P1.length c') it (.int .i64 d) w2) := Lib.hid ⟨d, _, _, rfl, hs2, HST2.out, HK3.out.trans hk2, hk2.blk HB2.out hnS, Nat.lt_of_lt_of_le HZ.out hk2.size, by rw [List.length_set]; exact hR⟩
        clear hs2 hk2 x0 x1 c0 c1
        go_wp2_with fail
        go_roundw
        case rel => exact HR.out
        case measure => simp [intOf]; omega
    · have HD := Lib.hid (hu.done fun i x h0 hi hx => absurd (lt_of_get hx) (by omega))
      have hd' : R1.length ≤ 2 * a + 1 := by omega
      have HC := Lib.hid (hbelow_none h1 a hd' (by omega))
      have HU := Lib.hid hu
      have H1 := Lib.hid h1
      have HK1 := Lib.hid hk
      obtain ⟨b0, b1, -, -⟩ := hbx.o2
      clear hu h1 hk hbx hd hd'
      go_wp2_with fail
      refine HC.out.mono ?_
      rintro e w0 ⟨rfl, rfl⟩
      go_wp2_with fail
      go_quiet (fail)
      go_wp2_with fail
      refine (hlay_any (H1.out.old (below_drewN (Below.refl _ _) _)) a HU.out.len it (by rw [HU.out.pl]; exact HU.out.key)).mono ?_
      rintro e w2 ⟨rfl, hs2, hk2⟩
      have HS2 := Lib.hid hs2
      have HK2 := Lib.hid hk2
      clear hs2 hk2
      go_wp2_with fail
      exact bodyPost_end (v := .tuple #[]) (by simp [results, Tryz.results90, go_sem]) rfl ⟨rfl, _, _, HS2.out, HD.out, (HK1.out.trans (Keep.of (below_drewN (Below.refl _ _) _))).trans HK2.out⟩

theorem NotS.mono {S : Nat → Prop} {w w' : World} (h : Keep (fun b => ¬ (S b ∧ b < w.heap.size)) w w') : Keep (fun b => ¬ S b) w w' := h.mono fun _ hb hc => hb hc.1
theorem SiftPost.all {S : Nat → Prop} {w : World} {p N : Nat} {m : Nat → Option Int} {rv pv : Value} {e : Ending} {w' : World} (h : SiftPost (fun b => S b ∧ b < w.heap.size) w p N m rv pv e w') : SiftPost S w p N m rv pv e w' := by
  obtain ⟨he, R, P, h1, h2, h3⟩ := h
  exact ⟨he, R, P, h1.mono fun _ _ h => h.1, h2, NotS.mono h3⟩
theorem hrise_any (h : HpS S w p R P rv pv) (a0 : Nat) (it : It) (hu : Up N R P m a0 it) (hN : N ≤ 16384) : Calls Tryz.prog 89 #[hp p, .int .i64 a0, itV it] w (SiftPost S w p N m rv pv) :=
  (hrise0 (S := fun b => S b ∧ b < w.heap.size) (fun _ h => h.2) (h.mono fun _ h1 h2 => ⟨h2, h1⟩) a0 it hu hN).mono fun _ _ h => h.all
theorem hsink_any (h : HpS S w p R P rv pv) (a0 : Nat) (it : It) (hu : Down N R P m a0 it) (hN : N ≤ 16384) : Calls Tryz.prog 90 #[hp p, .int .i64 a0, itV it] w (SiftPost S w p N m rv pv) :=
  (hsink0 (S := fun b => S b ∧ b < w.heap.size) (fun _ h => h.2) (h.mono fun _ h1 h2 => ⟨h2, h1⟩) a0 it hu hN).mono fun _ _ h => h.all
end

end Go.Proofs.YtgihaakgadmidaaGreat.HP
