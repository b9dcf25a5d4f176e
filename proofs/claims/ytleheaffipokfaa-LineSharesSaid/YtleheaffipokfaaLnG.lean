/-
  What the laws of points say of rows that are turned.
-/
import Derived.Test.YtleheaffipokfaaLnF
namespace Go.Proofs.Ytleheaffipokfaa
open Go.RowKit Go.Sort

def mirL (l : List (Int × Int)) : List (Int × Int) := l.map fun x => (x.2, x.1)
def minL (l : List (Int × Int)) : List (Int × Int) := l.map fun x => (0 - x.1, 0 - x.2)
theorem mirL_len (l : List (Int × Int)) : (mirL l).length = l.length := by simp [mirL]
theorem minL_len (l : List (Int × Int)) : (minL l).length = l.length := by simp [minL]
theorem mirL_snoc {l : List (Int × Int)} {k : Nat} {x y : Int} (hk : k < l.length) (h : l[k] = (x, y)) : mirL (l.take (k + 1)) = mirL (l.take k) ++ [(y, x)] := by
  rw [List.take_succ_eq_append_getElem hk, h]
  simp [mirL]
theorem minL_snoc {l : List (Int × Int)} {k : Nat} {x y : Int} (hk : k < l.length) (h : l[k] = (x, y)) : minL (l.take (k + 1)) = minL (l.take k) ++ [(0 - x, 0 - y)] := by
  rw [List.take_succ_eq_append_getElem hk, h]
  simp [minL]
theorem mirL_small {l : List (Int × Int)} (h : SmallL l) : SmallL (mirL l) := fun x hx => by
  obtain ⟨y, hy, rfl⟩ := List.mem_map.1 hx
  obtain ⟨a, b⟩ := h y hy
  exact ⟨b, a⟩
theorem minL_small {l : List (Int × Int)} (h : SmallL l) : SmallL (minL l) := fun x hx => by
  obtain ⟨y, hy, rfl⟩ := List.mem_map.1 hx
  obtain ⟨a, b⟩ := h y hy
  exact ⟨⟨by show -1099511627776 ≤ 0 - y.1; omega, by show 0 - y.1 ≤ 1099511627776; omega⟩, by show -1099511627776 ≤ 0 - y.2; omega, by show 0 - y.2 ≤ 1099511627776; omega⟩
/-- Order, of n points. -/
def OrdN (w : World) (l : List (Int × Int)) (n : Nat) (d : Int) (e : Ending) (w' : World) : Prop :=
  ∃ g o, e = .returned (.slice (some ⟨g, 0, none⟩) n n) ∧ OrdL l d o ∧ I64s w' (.slice (some ⟨g, 0, none⟩) n n) (zN o) ∧ Below w.heap.size w w'
theorem order_at {w : World} {pv : Value} {l : List (Int × Int)} {d : Int} {n : Nat} (h : Prs w pv l) (hs : SmallL l) (hl : l.length = n) (hn : n ≤ 10000) :
    Calls Try.prog 8 #[pv, .int .i64 d] w (OrdN w l n d) := by
  subst hl
  refine (order_is h hs hn).mono ?_
  rintro e w' ⟨g, o, rfl, ho, hk, -, hb⟩
  exact ⟨g, o, rfl, ho, i64s_of_blk hk (by rw [zN_len, ho.len]) (by omega), hb⟩
theorem same_is {w : World} {u v : Value} {l m : List Int} (hu : I64s w u l) (hv : I64s w v m) (e : l = m) : Calls Try.prog 11 #[u, v] w fun e w' => e = .returned (.bool true) ∧ Below w.heap.size w w' := by
  refine (sameints_any _ _ l m _ hu hv).mono ?_
  rintro e' w' ⟨rfl, hb⟩
  exact ⟨by rw [decide_eq_true e], hb⟩
theorem zN_at {o : List Nat} {i A : Nat} (h : o[i]? = some A) : ∃ h' : i < (zN o).length, (zN o)[i] = (A : Int) := by
  obtain ⟨h1, h2⟩ := List.getElem?_eq_some_iff.1 h
  exact ⟨by rw [zN_len]; exact h1, by simp [zN, h2]⟩
theorem I64s.atZ {w : World} {q : Option Addr} {n c : Nat} {o : List Nat} (h : I64s w (.slice q n c) (zN o)) {i A : Nat} (hi : o[i]? = some A) : ∃ b s, q = some ⟨b, s, none⟩ ∧ w.cell? ⟨b, s + i, none⟩ = some (.int .i64 (A : Int)) ∧ b < w.heap.size := by
  obtain ⟨h1, h2⟩ := zN_at hi
  obtain ⟨b, s, e, hc⟩ := h.at h1
  rw [h2] at hc
  exact ⟨b, s, e, hc, World.block_lt_of_cell? _ _ hc⟩
theorem Prs.atP {w : World} {q : Option Addr} {n c : Nat} {l : List (Int × Int)} (h : Prs w (.slice q n c) l) {i : Nat} {x y : Int} (hi : l[i]? = some (x, y)) : ∃ b s, q = some ⟨b, s, none⟩ ∧ w.cell? ⟨b, s + i * 2, none⟩ = some (.int .i64 x) ∧ w.cell? ⟨b, s + i * 2 + 1, none⟩ = some (.int .i64 y) ∧ b < w.heap.size := by
  obtain ⟨h1, h2⟩ := List.getElem?_eq_some_iff.1 hi
  obtain ⟨b, s, e, c0, c1⟩ := h.at h1
  rw [h2] at c0 c1
  exact ⟨b, s, e, c0, c1, World.block_lt_of_cell? _ _ c0⟩
theorem kAt_of {l : List (Int × Int)} {i : Nat} {x y : Int} (h : l[i]? = some (x, y)) (d : Int) : kAt l d i = keyL (x, y) d := by
  unfold kAt
  rw [List.getD_eq_getElem?_getD, h]
  rfl
theorem OrdL.some {l : List (Int × Int)} {d : Int} {o : List Nat} (h : OrdL l d o) {i : Nat} (hi : i < l.length) : ∃ A, o[i]? = some A ∧ A < l.length := by
  have hl := h.len
  exact ⟨o[i], List.getElem?_eq_getElem (by omega), h.mem (List.getElem_mem _)⟩
/-- Two keys, one from each end. -/
theorem minus_keys {l : List (Int × Int)} {d : Int} {o p : List Nat} (h : OrdL l d o) (h' : OrdL (minL l) d p) {i A B : Nat} (hi : i < l.length) (ha : o[i]? = Option.some A) (hb : p[l.length - 1 - i]? = Option.some B) : kAt l d A = 0 - kAt (minL l) d B := by
  have := ord_minus h h' rfl hi
  rw [List.getD_eq_getElem?_getD, List.getD_eq_getElem?_getD, ha, hb] at this
  exact this
theorem key_small {x y d r : Int} (h : SmallP (x, y)) (hr : keyL (x, y) d = r) : -4398046511104 ≤ r ∧ r ≤ 4398046511104 := by
  obtain ⟨⟨a, b⟩, c, e⟩ := h
  subst hr
  unfold keyL
  simp only at *
  repeat' split
  all_goals omega
end Go.Proofs.Ytleheaffipokfaa
