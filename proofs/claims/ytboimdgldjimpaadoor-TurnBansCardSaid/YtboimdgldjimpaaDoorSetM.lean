/-
  Plain mathematics of a turn that is put into a table: no program stands here.
-/
import Derived.Test.YtboimdgldjimpaaDoorBackM
namespace Go.Proofs.YtboimdgldjimpaaDoor

/-- Two places are one just where the turns are. -/
theorem place_inj {O x y n q : Int} (hx : 0 ≤ y ∧ y < O) (hq : 0 ≤ q ∧ q < O) (h : x * O + y = n * O + q) : x = n ∧ y = q := by
  have key : ∀ {a b s t : Int}, 0 ≤ s → s < O → 0 ≤ t → t < O → a * O + s = b * O + t → ¬ a < b := by
    intro a b s t h0 h1 h2 h3 he hlt
    have h4 : (a + 1) * O ≤ b * O := Int.mul_le_mul_of_nonneg_right (by omega) (by omega)
    rw [Int.add_mul, Int.one_mul] at h4
    omega
  have h1 := key hx.1 hx.2 hq.1 hq.2 h
  have h2 := key hq.1 hq.2 hx.1 hx.2 h.symm
  obtain rfl : x = n := by omega
  exact ⟨rfl, by omega⟩

/-- What a turn costs in a table into which one is put. -/
theorem turnAt_set {I O : Int} {l : List Int} {x y c n q : Int} (hn : (l.length : Int) = I * O) (hx : 0 ≤ x ∧ x < I ∧ 0 ≤ y ∧ y < O) (hq : 0 ≤ n ∧ n < I ∧ 0 ≤ q ∧ q < O) :
    turnAt I O (l.set (x * O + y).toNat c) n q = if n = x ∧ q = y then c else turnAt I O l n q := by
  obtain ⟨p0, p1⟩ := place_lt hn hx
  obtain ⟨r0, r1⟩ := place_lt hn hq
  have hc : ¬ (n < 0 ∨ I ≤ n ∨ q < 0 ∨ O ≤ q) := by omega
  unfold turnAt
  simp only [if_neg hc]
  by_cases h : n = x ∧ q = y
  · rw [if_pos h, h.1, h.2, List.getD_eq_getElem?_getD, List.getElem?_set_self (by omega), Option.getD_some]
  · rw [if_neg h, List.getD_eq_getElem?_getD, List.getD_eq_getElem?_getD, List.getElem?_set_ne]
    intro e
    have e' : x * O + y = n * O + q := by omega
    obtain ⟨h1, h2⟩ := place_inj ⟨hx.2.2.1, hx.2.2.2⟩ ⟨hq.2.2.1, hq.2.2.2⟩ e'
    exact h ⟨h1.symm, h2.symm⟩

/-- Put back all is as it was. -/
theorem set_back {I O : Int} {l : List Int} {x y c d : Int} (hn : (l.length : Int) = I * O) (hx : 0 ≤ x ∧ x < I ∧ 0 ≤ y ∧ y < O) :
    ((l.set (x * O + y).toNat c).set (x * O + y).toNat d).set (x * O + y).toNat (turnAt I O l x y) = l := by
  obtain ⟨p0, p1⟩ := place_lt hn hx
  unfold turnAt
  rw [if_neg (by omega), List.set_set, List.set_set]
  apply List.ext_getElem?
  intro i
  by_cases h : (x * O + y).toNat = i
  · rw [← h, List.getElem?_set_self (by omega), List.getD_eq_getElem?_getD, List.getElem?_eq_getElem (by omega), Option.getD_some]
  · rw [List.getElem?_set_ne h]

theorem mem_set_in {l : List Int} {i : Nat} {c : Int} {P : Int → Prop} (h : ∀ x ∈ l, P x) (hc : P c) : ∀ x ∈ l.set i c, P x := by
  intro x hx
  rcases List.mem_or_eq_of_mem_set hx with h1 | h1
  · exact h x h1
  · rw [h1]; exact hc

theorem wgt_in {c : Int} (h : wgt c = true) : 0 ≤ c ∧ c ≤ 1152921504606846976 := by
  unfold wgt at h
  simp only [Bool.or_eq_true, Bool.and_eq_true, decide_eq_true_eq] at h
  omega
/-- A cost of a table that may be is a weight. -/
theorem turnAt_wgt {I O : Int} {l : List Int} {x y : Int} (h : chkT I O l = (0, 0)) (hx : 0 ≤ x ∧ x < I ∧ 0 ≤ y ∧ y < O) : wgt (turnAt I O l x y) = true := by
  obtain ⟨q0, q1, q2, q3, hn, hall⟩ := chkT_ok (I := I) (O := O) (l := l) (by rw [h])
  obtain ⟨p0, p1⟩ := place_lt hn hx
  unfold turnAt
  rw [if_neg (by omega), List.getD_eq_getElem?_getD, List.getElem?_eq_getElem (by omega), Option.getD_some]
  exact List.all_eq_true.1 hall _ (List.getElem_mem _)

end Go.Proofs.YtboimdgldjimpaaDoor
