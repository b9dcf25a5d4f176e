/-
  Nets of which one thing is turned into what may not be; rows in memory of which one cell is written.
-/
import Derived.Test.YtgihaakgadmidaaGreatCopyN
import Derived.Test.YtgihaakgadmidaaGreatLawN
namespace Go.Proofs.YtgihaakgadmidaaGreat
open Go.RowKit

/-! ### what is wrong with them -/
structure ChkParts (n : NetD) : Prop where
  t : firstBad typeFlt 0 n.t = fltOK
  v : firstBad (vertFlt n.t.length) 0 n.v = fltOK
  a : firstBad (arcFlt n.v.length) 0 n.a = fltOK
section
variable {n : NetD} (hs : NetSmall n) (hp : ChkParts n) (hg : NetGood n)
include hs hp
end
/-! ### a cell that is written -/
theorem flatB_set0 : ∀ (l : List Tab) (us : List Value) (i : Nat) (h : i < l.length) (x : Int), us.length = l.length → flatB (l.set i (x, l[i].2)) us = (flatB l us).set (i * 3) (.int .i64 x)
  | [], _, i, h, _, _ => by simp at h
  | y :: r, [], _, _, _, hu => by simp at hu
  | y :: r, u :: us, 0, _, x, _ => by simp [flatB]
  | y :: r, u :: us, i + 1, h, x, hu => by
    have := flatB_set0 r us i (by simpa using h) x (by simpa using hu)
    have e1 : (i + 1) * 3 = i * 3 + 1 + 1 + 1 := by omega
    simp only [List.set_cons_succ, List.getElem_cons_succ, flatB, this, e1]
section
variable {w : World} {base : Nat} {n : NetD} {uv ua ut : Value} {us : List Value}
theorem OwnN.below {w' : World} (h : OwnN w base n uv ua ut us) (hb : Below w.heap.size w w') : OwnN w' base n uv ua ut us := ⟨owns_below h.v hb, owns_below h.a hb, owns_below h.t hb, h.r.map fun _ _ h => h.below hb⟩
theorem OwnN.set (h : OwnN w base n uv ua ut us) {k : Nat} {cs : Array Value} {t : TypeId} (hk : Blk w k cs t) (h1 : 70 ≠ t) (h2 : 65 ≠ t) (h3 : 68 ≠ t) (h4 : 2 ≠ t) (o : Nat) (x : Value) : OwnN (w.setCell ⟨k, o, none⟩ x) base n uv ua ut us :=
  ⟨owns_set h.v hk h1 o x, owns_set h.a hk h2 o x, owns_set h.t hk h3 o x, h.r.map fun _ _ h => h.set hk h4 o x⟩
theorem OwnN.net (h : OwnN w base n uv ua ut us) (hv : n.v.length ≤ 10000) (ha : n.a.length ≤ 100000) (ht : n.t.length ≤ 1000) (hc : ∀ t ∈ n.t, t.2.2.length ≤ 1000) : NetV w (.agg #[uv, ua, ut]) n :=
  ⟨_, _, _, rfl, tris_of_owns h.v (by omega), tris_of_owns h.a (by omega), tabs_of_owns h.t h.r (by omega) hc⟩
/-- One cell of a row is written. -/
structure PutAt (w : World) (base : Nat) (q : Option Addr) (j : Nat) (old new : Value) (P : World → Prop) : Prop where
  is : ∃ g, q = some ⟨g, 0, none⟩ ∧ base ≤ g ∧ g < w.heap.size ∧ w.cell? ⟨g, j, none⟩ = some old ∧ w.frozen? ⟨g, j, none⟩ = false ∧ P (w.setCell ⟨g, j, none⟩ new) ∧ (∀ b cs t, Blk w b cs t → t ≠ 70 → t ≠ 65 → t ≠ 68 → Blk (w.setCell ⟨g, j, none⟩ new) b cs t)
theorem rowsI_put {l : List Tab} (h : RowsI w l us) {g j : Nat} {cs : Array Value} {t : TypeId} (hk : Blk w g cs t) (ht : 2 ≠ t) (x : Value) : RowsI (w.setCell ⟨g, j, none⟩ x) l us := h.map fun _ _ h => h.set hk ht j x
theorem owns_blk {e : TypeId} {size : Nat} {q : Option Addr} {c m : Nat} {xs : List Value} (h : w.ownsRow base e size (.slice q m c) m xs) (h0 : 0 < m) : ∃ g cs, q = some ⟨g, 0, none⟩ ∧ Blk w g cs e := by
  rcases h.2 with ⟨e1, e2⟩ | ⟨g, cap, cur, e1, hg, hh, _⟩
  · omega
  · injection e1 with e1 e2 e3
    exact ⟨g, cur, e1, hh⟩
theorem blk_put {g j b : Nat} {cs cs' : Array Value} {t t' : TypeId} (hk : Blk w g cs t) (h : Blk w b cs' t') (hne : t' ≠ t) (x : Value) : Blk (w.setCell ⟨g, j, none⟩ x) b cs' t' :=
  h.other _ _ (fun e => by
    subst e
    unfold Blk at h hk
    rw [h] at hk
    injection hk with e
    injection e with _ e2
    exact hne e2)
theorem OwnN.vert {q : Option Addr} {c : Nat} (h : OwnN w base n (.slice q n.v.length c) ua ut us) {k : Nat} (hk : k < n.v.length) {j : Nat} (hj : j < n.v.length * 3) {y : Tri} {x old : Value} (hold : (flatT n.v)[j]? = some old) (hx : flatT (n.v.set k y) = (flatT n.v).set j x) :
    PutAt w base q j old x (fun w' => OwnN w' base ⟨n.v.set k y, n.a, n.t⟩ (.slice q n.v.length c) ua ut us) := by
  obtain ⟨g, e, h1, h2, h3, h4, h5, h6⟩ := owns_put h.v hj x
  obtain ⟨g', cs, e', hb⟩ := owns_blk h.v (by omega)
  rw [e] at e'
  cases e'
  refine ⟨g, e, h1, h2, h3.trans hold, h4, ⟨?_, h6 _ _ _ _ _ _ (by decide) h.a, h6 _ _ _ _ _ _ (by decide) h.t, rowsI_put h.r hb (by decide) x⟩, fun b cs t hB t1 t2 t3 => blk_put hb hB t1 x⟩
  show World.ownsRow _ _ _ _ _ (n.v.set k y).length (flatT (n.v.set k y))
  rw [List.length_set, hx]
  exact h5
theorem OwnN.arc {q : Option Addr} {c : Nat} (h : OwnN w base n uv (.slice q n.a.length c) ut us) {k : Nat} (hk : k < n.a.length) {j : Nat} (hj : j < n.a.length * 3) {y : Tri} {x old : Value} (hold : (flatT n.a)[j]? = some old) (hx : flatT (n.a.set k y) = (flatT n.a).set j x) :
    PutAt w base q j old x (fun w' => OwnN w' base ⟨n.v, n.a.set k y, n.t⟩ uv (.slice q n.a.length c) ut us) := by
  obtain ⟨g, e, h1, h2, h3, h4, h5, h6⟩ := owns_put h.a hj x
  obtain ⟨g', cs, e', hb⟩ := owns_blk h.a (by omega)
  rw [e] at e'
  cases e'
  refine ⟨g, e, h1, h2, h3.trans hold, h4, ⟨h6 _ _ _ _ _ _ (by decide) h.v, ?_, h6 _ _ _ _ _ _ (by decide) h.t, rowsI_put h.r hb (by decide) x⟩, fun b cs t hB t1 t2 t3 => blk_put hb hB t2 x⟩
  show World.ownsRow _ _ _ _ _ (n.a.set k y).length (flatT (n.a.set k y))
  rw [List.length_set, hx]
  exact h5
theorem OwnN.tab {q : Option Addr} {c : Nat} (h : OwnN w base n uv ua (.slice q n.t.length c) us) {k : Nat} (hk : k < n.t.length) {x : Int} {old : Value} (hold : (flatB n.t us)[k * 3]? = some old) :
    PutAt w base q (k * 3) old (.int .i64 x) (fun w' => OwnN w' base ⟨n.v, n.a, n.t.set k (x, n.t[k].2)⟩ uv ua (.slice q n.t.length c) us) := by
  obtain ⟨g, e, h1, h2, h3, h4, h5, h6⟩ := owns_put h.t (j := k * 3) (by omega) (.int .i64 x)
  obtain ⟨g', cs, e', hb⟩ := owns_blk h.t (by omega)
  rw [e] at e'
  cases e'
  refine ⟨g, e, h1, h2, h3.trans hold, h4, ⟨h6 _ _ _ _ _ _ (by decide) h.v, h6 _ _ _ _ _ _ (by decide) h.a, ?_, ?_⟩, fun b cs t hB t1 t2 t3 => blk_put hb hB t3 _⟩
  · show World.ownsRow _ _ _ _ _ (n.t.set k _).length (flatB (n.t.set k _) us)
    rw [List.length_set, flatB_set0 n.t us k hk x h.r.1]
    exact h5
  · have hr := rowsI_put (j := k * 3) h.r hb (by decide) (.int .i64 x)
    refine ⟨by rw [List.length_set]; exact hr.1, fun i t u e1 e2 => ?_⟩
    by_cases hik : i = k
    · subst hik
      rw [List.getElem?_set_self hk] at e1
      obtain rfl : (x, n.t[i].2) = t := by simpa using e1
      exact hr.2 i n.t[i] u (List.getElem?_eq_getElem hk) e2
    · rw [List.getElem?_set_ne (Ne.symm hik)] at e1
      exact hr.2 i t u e1 e2
end

end Go.Proofs.YtgihaakgadmidaaGreat
