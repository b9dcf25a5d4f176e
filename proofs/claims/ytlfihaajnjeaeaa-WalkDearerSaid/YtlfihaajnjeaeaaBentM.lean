/-
  Nets of which one thing is turned into what may not be; rows in memory of which one cell is written.
-/
import Derived.Test.YtlfihaajnjeaeaaCopyN
import Derived.Test.YtlfihaajnjeaeaaLawN
namespace Go.Proofs.Ytlfihaajnjeaeaa
open Go.RowKit

/-! ### what is wrong with them -/
theorem fb_front {α : Type} {f : Int → α → Flt} : ∀ (k : Int) (l m : List α), firstBad f k (l ++ m) = fltOK → firstBad f k l = fltOK
  | _, [], _, _ => rfl
  | k, x :: r, m, h => by
    rw [List.cons_append] at h
    unfold firstBad at h ⊢
    by_cases hx : (f k x).2 = 0
    · rw [if_pos hx] at h ⊢
      exact fb_front (k + 1) r m h
    · rw [if_neg hx] at h
      rw [h] at hx
      exact absurd rfl hx
theorem set_parts {α : Type} (l : List α) (k : Nat) (h : k < l.length) (x : α) : l.set k x = l.take k ++ x :: l.drop (k + 1) := by
  rw [List.set_eq_take_append_cons_drop, if_pos h]
theorem fb_set {α : Type} {f : Int → α → Flt} {l : List α} (h : firstBad f 0 l = fltOK) {k : Nat} (hk : k < l.length) {x : α} {F : Flt} (hF : f k x = F) (hx : F.2 ≠ 0) : firstBad f 0 (l.set k x) = F := by
  have hl : (0 : Int) + ((l.take k).length : Int) = k := by rw [List.length_take]; omega
  have h1 : firstBad f 0 (l.take k) = fltOK := by
    have e : l = l.take k ++ l.drop k := (List.take_append_drop k l).symm
    rw [e] at h
    exact fb_front 0 _ _ h
  rw [set_parts l k hk x, firstBad_at f 0 (l.take k) (l.drop (k + 1)) x h1 (by rw [hl, hF]; exact hx), hl, hF]
theorem fb_end {α : Type} {f : Int → α → Flt} {l : List α} (h : firstBad f 0 l = fltOK) {x : α} {F : Flt} (hF : f l.length x = F) (hx : F.2 ≠ 0) : firstBad f 0 (l ++ [x]) = F := by
  rw [firstBad_at f 0 l [] x h (by rw [Int.zero_add, hF]; exact hx), Int.zero_add, hF]
structure ChkParts (n : NetD) : Prop where
  t : firstBad typeFlt 0 n.t = fltOK
  v : firstBad (vertFlt n.t.length) 0 n.v = fltOK
  a : firstBad (arcFlt n.v.length) 0 n.a = fltOK
theorem chk_parts {n : NetD} (hs : NetSmall n) (h : chkN n = fltOK) : ChkParts n := by
  rw [chkN_small hs] at h
  have ht : firstBad typeFlt 0 n.t = fltOK := by
    rcases fb_is typeFlt_is 0 n.t with h1 | ⟨_, h1⟩
    · exact h1
    · rw [if_pos h1] at h; exact h
  rw [if_neg (by rw [ht]; simp [fltOK])] at h
  have hv : firstBad (vertFlt n.t.length) 0 n.v = fltOK := by
    rcases fb_is (vertFlt_is n.t.length) 0 n.v with h1 | ⟨_, h1⟩
    · exact h1
    · rw [if_pos h1] at h; exact h
  rw [if_neg (by rw [hv]; simp [fltOK])] at h
  refine ⟨ht, hv, ?_⟩
  rcases fb_is (arcFlt_is n.v.length) 0 n.a with h1 | ⟨_, h1⟩
  · exact h1
  · rw [if_pos h1] at h; exact h
section
variable {n : NetD} (hs : NetSmall n) (hp : ChkParts n) (hg : NetGood n)
include hs hp
theorem bent0 {k : Nat} (hk : k < n.v.length) {x : Int} (hx : 1048576 < x) : chkN ⟨n.v.set k (x, n.v[k].2), n.a, n.t⟩ = ([(vertB, (k : Int))], 1) :=
  chkN_v (n := ⟨n.v.set k (x, n.v[k].2), n.a, n.t⟩) ⟨by simpa using hs.v, hs.a, hs.t⟩ hp.t (fb_set hp.v hk (by unfold vertFlt; rw [if_pos (by simp [coordB]; omega)]) (by simp)) (by simp)
include hg
theorem bent1 {k : Nat} (hk : k < n.v.length) {x : Int} (hx : n.t.length ≤ x) : chkN ⟨n.v.set k (n.v[k].1, n.v[k].2.1, x), n.a, n.t⟩ = ([(vertB, (k : Int))], 5) := by
  obtain ⟨h1, h2, -, -⟩ := hg.verts k hk
  exact chkN_v (n := ⟨n.v.set k (n.v[k].1, n.v[k].2.1, x), n.a, n.t⟩) ⟨by simpa using hs.v, hs.a, hs.t⟩ hp.t (fb_set hp.v hk (by unfold vertFlt; rw [if_neg (by simp [h1]), if_neg (by simp [h2]), if_neg (by simp only []; omega), if_pos hx]) (by simp)) (by simp)
theorem bent2 {k : Nat} (hk : k < n.a.length) {x : Int} (hx : x < 0) : chkN ⟨n.v, n.a.set k (n.a[k].1, x, n.a[k].2.2), n.t⟩ = ([(arcB, (k : Int))], 5) := by
  obtain ⟨h1, h2, -, -, -⟩ := hg.arcs k hk
  exact chkN_a (n := ⟨n.v, n.a.set k (n.a[k].1, x, n.a[k].2.2), n.t⟩) ⟨hs.v, by simpa using hs.a, hs.t⟩ hp.t hp.v (fb_set hp.a hk (by unfold arcFlt; rw [if_neg (by simp only []; omega), if_neg (by simp only []; omega), if_pos hx]) (by simp)) (by simp)
theorem bent3 {k : Nat} (hk : k < n.a.length) {x : Int} (hx : x < 0) : chkN ⟨n.v, n.a.set k (n.a[k].1, n.a[k].2.1, x), n.t⟩ = ([(arcB, (k : Int))], 8) := by
  obtain ⟨h1, h2, h3, h4, -⟩ := hg.arcs k hk
  have hw : wgt x = false := by unfold wgt; simp; omega
  exact chkN_a (n := ⟨n.v, n.a.set k (n.a[k].1, n.a[k].2.1, x), n.t⟩) ⟨hs.v, by simpa using hs.a, hs.t⟩ hp.t hp.v (fb_set hp.a hk (by unfold arcFlt; rw [if_neg (by simp only []; omega), if_neg (by simp only []; omega), if_neg (by simp only []; omega), if_neg (by simp only []; omega), if_pos hw]) (by simp)) (by simp)
omit hg
theorem bent4 (ht : n.t.length ≤ 255) {x : Int} (hx : 16 < x) : chkN ⟨n.v, n.a, n.t ++ [(1, x, [])]⟩ = ([(typeB, (n.t.length : Int)), (turnB, 1)], 1) := by
  have hc : chkT 1 x [] = (1, 1) := by unfold chkT; rw [if_neg (by omega), if_pos (by omega)]
  exact chkN_t (n := ⟨n.v, n.a, n.t ++ [(1, x, [])]⟩) ⟨hs.v, hs.a, by simp; omega⟩ (fb_end hp.t (by unfold typeFlt; simp only [hc]; rfl) (by simp)) (by simp)
include hg
theorem bent5 {k : Nat} (hk : k < n.t.length) (h0 : ¬ n.t[k].2.1 = 0) (h16 : n.t[k].1 + 1 ≤ 16) : chkN ⟨n.v, n.a, n.t.set k (n.t[k].1 + 1, n.t[k].2)⟩ = ([(typeB, (k : Int)), (turnB, 2)], 9) := by
  obtain ⟨q0, q1, q2, q3, hn, -⟩ := chkT_ok (I := n.t[k].1) (O := n.t[k].2.1) (l := n.t[k].2.2) (by rw [hg.tabs k hk])
  have hc : chkT (n.t[k].1 + 1) n.t[k].2.1 n.t[k].2.2 = (2, 9) := by
    unfold chkT
    rw [if_neg (by omega), if_neg (by omega), if_pos (by rw [hn, Int.add_mul]; omega)]
  exact chkN_t (n := ⟨n.v, n.a, n.t.set k (n.t[k].1 + 1, n.t[k].2)⟩) ⟨hs.v, hs.a, by simpa using hs.t⟩ (fb_set hp.t hk (by unfold typeFlt; simp only [hc]; rfl) (by simp)) (by simp)
end
theorem set_ne {α : Type} {l : List α} {k : Nat} (hk : k < l.length) {x : α} (h : l[k] ≠ x) : l ≠ l.set k x := fun e => h (by
  have : l[k] = (l.set k x)[k]'(by simpa using hk) := by congr 1
  rw [this]; simp)
theorem inTri_set {l : List Tri} (h : InTri l) (k : Nat) {x : Tri} (hx : (-9223372036854775808 ≤ x.1 ∧ x.1 ≤ 9223372036854775807) ∧ (-9223372036854775808 ≤ x.2.1 ∧ x.2.1 ≤ 9223372036854775807) ∧ (-9223372036854775808 ≤ x.2.2 ∧ x.2.2 ≤ 9223372036854775807)) : InTri (l.set k x) := fun y hy => by
  rcases List.mem_or_eq_of_mem_set hy with h1 | rfl
  · exact h y h1
  · exact hx
theorem inTab_set {l : List Tab} (h : InTab l) (k : Nat) {x : Tab} (hx : (-9223372036854775808 ≤ x.1 ∧ x.1 ≤ 9223372036854775807) ∧ (-9223372036854775808 ≤ x.2.1 ∧ x.2.1 ≤ 9223372036854775807) ∧ In64 x.2.2) : InTab (l.set k x) := fun y hy => by
  rcases List.mem_or_eq_of_mem_set hy with h1 | rfl
  · exact h y h1
  · exact hx

/-! ### a cell that is written -/
theorem flatT_set0 : ∀ (l : List Tri) (i : Nat) (h : i < l.length) (x : Int), flatT (l.set i (x, l[i].2)) = (flatT l).set (i * 3) (.int .i64 x)
  | [], i, h, _ => by simp at h
  | y :: r, 0, _, x => by simp [flatT]
  | y :: r, i + 1, h, x => by
    have := flatT_set0 r i (by simpa using h) x
    have e1 : (i + 1) * 3 = i * 3 + 1 + 1 + 1 := by omega
    simp only [List.set_cons_succ, List.getElem_cons_succ, flatT, this, e1]
theorem flatT_set1 : ∀ (l : List Tri) (i : Nat) (h : i < l.length) (x : Int), flatT (l.set i (l[i].1, x, l[i].2.2)) = (flatT l).set (i * 3 + 1) (.int .i64 x)
  | [], i, h, _ => by simp at h
  | y :: r, 0, _, x => by simp [flatT]
  | y :: r, i + 1, h, x => by
    have := flatT_set1 r i (by simpa using h) x
    have e1 : (i + 1) * 3 + 1 = i * 3 + 1 + 1 + 1 + 1 := by omega
    simp only [List.set_cons_succ, List.getElem_cons_succ, flatT, this, e1]
theorem flatT_set2 : ∀ (l : List Tri) (i : Nat) (h : i < l.length) (x : Int), flatT (l.set i (l[i].1, l[i].2.1, x)) = (flatT l).set (i * 3 + 2) (.int .i64 x)
  | [], i, h, _ => by simp at h
  | y :: r, 0, _, x => by simp [flatT]
  | y :: r, i + 1, h, x => by
    have := flatT_set2 r i (by simpa using h) x
    have e1 : (i + 1) * 3 + 2 = i * 3 + 2 + 1 + 1 + 1 := by omega
    simp only [List.set_cons_succ, List.getElem_cons_succ, flatT, this, e1]
theorem flatB_set0 : ∀ (l : List Tab) (us : List Value) (i : Nat) (h : i < l.length) (x : Int), us.length = l.length → flatB (l.set i (x, l[i].2)) us = (flatB l us).set (i * 3) (.int .i64 x)
  | [], _, i, h, _, _ => by simp at h
  | y :: r, [], _, _, _, hu => by simp at hu
  | y :: r, u :: us, 0, _, x, _ => by simp [flatB]
  | y :: r, u :: us, i + 1, h, x, hu => by
    have := flatB_set0 r us i (by simpa using h) x (by simpa using hu)
    have e1 : (i + 1) * 3 = i * 3 + 1 + 1 + 1 := by omega
    simp only [List.set_cons_succ, List.getElem_cons_succ, flatB, this, e1]
section
variable {w : World} {base : Nat} {n : NetD} {uv ua ut : Value} {us : List Value}
theorem OwnN.below {w' : World} (h : OwnN w base n uv ua ut us) (hb : Below w.heap.size w w') : OwnN w' base n uv ua ut us := ⟨owns_below h.v hb, owns_below h.a hb, owns_below h.t hb, h.r.map fun _ _ h => h.below hb⟩
theorem OwnN.set (h : OwnN w base n uv ua ut us) {k : Nat} {cs : Array Value} {t : TypeId} (hk : Blk w k cs t) (h1 : 92 ≠ t) (h2 : 35 ≠ t) (h3 : 90 ≠ t) (h4 : 2 ≠ t) (o : Nat) (x : Value) : OwnN (w.setCell ⟨k, o, none⟩ x) base n uv ua ut us :=
  ⟨owns_set h.v hk h1 o x, owns_set h.a hk h2 o x, owns_set h.t hk h3 o x, h.r.map fun _ _ h => h.set hk h4 o x⟩
theorem OwnN.net (h : OwnN w base n uv ua ut us) (hv : n.v.length ≤ 10000) (ha : n.a.length ≤ 100000) (ht : n.t.length ≤ 1000) (hc : ∀ t ∈ n.t, t.2.2.length ≤ 1000) : NetV w (.agg #[uv, ua, ut]) n :=
  ⟨_, _, _, rfl, tris_of_owns h.v (by omega), tris_of_owns h.a (by omega), tabs_of_owns h.t h.r (by omega) hc⟩
/-- One cell of a row is written. -/
structure PutAt (w : World) (base : Nat) (q : Option Addr) (j : Nat) (old new : Value) (P : World → Prop) : Prop where
  is : ∃ g, q = some ⟨g, 0, none⟩ ∧ base ≤ g ∧ g < w.heap.size ∧ w.cell? ⟨g, j, none⟩ = some old ∧ w.frozen? ⟨g, j, none⟩ = false ∧ P (w.setCell ⟨g, j, none⟩ new) ∧ (∀ b cs t, Blk w b cs t → t ≠ 92 → t ≠ 35 → t ≠ 90 → Blk (w.setCell ⟨g, j, none⟩ new) b cs t)
theorem rowsI_put {l : List Tab} (h : RowsI w l us) {g j : Nat} {cs : Array Value} {t : TypeId} (hk : Blk w g cs t) (ht : 2 ≠ t) (x : Value) : RowsI (w.setCell ⟨g, j, none⟩ x) l us := h.map fun _ _ h => h.set hk ht j x
theorem owns_blk {e : TypeId} {size : Nat} {q : Option Addr} {c m : Nat} {xs : List Value} (h : w.ownsRow base e size (.slice q m c) m xs) (h0 : 0 < m) : ∃ g cs, q = some ⟨g, 0, none⟩ ∧ Blk w g cs e := by
  rcases h.2 with ⟨e1, e2⟩ | ⟨g, cap, cur, e1, hg, hh, _⟩
  · omega
  · injection e1 with e1 e2 e3
    exact ⟨g, cur, e1, hh⟩
theorem blk_put {g j b : Nat} {cs cs' : Array Value} {t t' : TypeId} (hk : Blk w g cs t) (h : Blk w b cs' t') (hne : t' ≠ t) (x : Value) : Blk (w.setCell ⟨g, j, none⟩ x) b cs' t' :=
  h.other _ _ (fun e => by
    subst e
    unfold Blk at h hk
    rw [h] at hk
    injection hk with e
    injection e with _ e2
    exact hne e2)
theorem OwnN.vert {q : Option Addr} {c : Nat} (h : OwnN w base n (.slice q n.v.length c) ua ut us) {k : Nat} (hk : k < n.v.length) {j : Nat} (hj : j < n.v.length * 3) {y : Tri} {x old : Value} (hold : (flatT n.v)[j]? = some old) (hx : flatT (n.v.set k y) = (flatT n.v).set j x) :
    PutAt w base q j old x (fun w' => OwnN w' base ⟨n.v.set k y, n.a, n.t⟩ (.slice q n.v.length c) ua ut us) := by
  obtain ⟨g, e, h1, h2, h3, h4, h5, h6⟩ := owns_put h.v hj x
  obtain ⟨g', cs, e', hb⟩ := owns_blk h.v (by omega)
  rw [e] at e'
  cases e'
  refine ⟨g, e, h1, h2, h3.trans hold, h4, ⟨?_, h6 _ _ _ _ _ _ (by decide) h.a, h6 _ _ _ _ _ _ (by decide) h.t, rowsI_put h.r hb (by decide) x⟩, fun b cs t hB t1 t2 t3 => blk_put hb hB t1 x⟩
  show World.ownsRow _ _ _ _ _ (n.v.set k y).length (flatT (n.v.set k y))
  rw [List.length_set, hx]
  exact h5
theorem OwnN.arc {q : Option Addr} {c : Nat} (h : OwnN w base n uv (.slice q n.a.length c) ut us) {k : Nat} (hk : k < n.a.length) {j : Nat} (hj : j < n.a.length * 3) {y : Tri} {x old : Value} (hold : (flatT n.a)[j]? = some old) (hx : flatT (n.a.set k y) = (flatT n.a).set j x) :
    PutAt w base q j old x (fun w' => OwnN w' base ⟨n.v, n.a.set k y, n.t⟩ uv (.slice q n.a.length c) ut us) := by
  obtain ⟨g, e, h1, h2, h3, h4, h5, h6⟩ := owns_put h.a hj x
  obtain ⟨g', cs, e', hb⟩ := owns_blk h.a (by omega)
  rw [e] at e'
  cases e'
  refine ⟨g, e, h1, h2, h3.trans hold, h4, ⟨h6 _ _ _ _ _ _ (by decide) h.v, ?_, h6 _ _ _ _ _ _ (by decide) h.t, rowsI_put h.r hb (by decide) x⟩, fun b cs t hB t1 t2 t3 => blk_put hb hB t2 x⟩
  show World.ownsRow _ _ _ _ _ (n.a.set k y).length (flatT (n.a.set k y))
  rw [List.length_set, hx]
  exact h5
theorem OwnN.tab {q : Option Addr} {c : Nat} (h : OwnN w base n uv ua (.slice q n.t.length c) us) {k : Nat} (hk : k < n.t.length) {x : Int} {old : Value} (hold : (flatB n.t us)[k * 3]? = some old) :
    PutAt w base q (k * 3) old (.int .i64 x) (fun w' => OwnN w' base ⟨n.v, n.a, n.t.set k (x, n.t[k].2)⟩ uv ua (.slice q n.t.length c) us) := by
  obtain ⟨g, e, h1, h2, h3, h4, h5, h6⟩ := owns_put h.t (j := k * 3) (by omega) (.int .i64 x)
  obtain ⟨g', cs, e', hb⟩ := owns_blk h.t (by omega)
  rw [e] at e'
  cases e'
  refine ⟨g, e, h1, h2, h3.trans hold, h4, ⟨h6 _ _ _ _ _ _ (by decide) h.v, h6 _ _ _ _ _ _ (by decide) h.a, ?_, ?_⟩, fun b cs t hB t1 t2 t3 => blk_put hb hB t3 _⟩
  · show World.ownsRow _ _ _ _ _ (n.t.set k _).length (flatB (n.t.set k _) us)
    rw [List.length_set, flatB_set0 n.t us k hk x h.r.1]
    exact h5
  · have hr := rowsI_put (j := k * 3) h.r hb (by decide) (.int .i64 x)
    refine ⟨by rw [List.length_set]; exact hr.1, fun i t u e1 e2 => ?_⟩
    by_cases hik : i = k
    · subst hik
      rw [List.getElem?_set_self hk] at e1
      obtain rfl : (x, n.t[i].2) = t := by simpa using e1
      exact hr.2 i n.t[i] u (List.getElem?_eq_getElem hk) e2
    · rw [List.getElem?_set_ne (Ne.symm hik)] at e1
      exact hr.2 i t u e1 e2
end

end Go.Proofs.Ytlfihaajnjeaeaa
