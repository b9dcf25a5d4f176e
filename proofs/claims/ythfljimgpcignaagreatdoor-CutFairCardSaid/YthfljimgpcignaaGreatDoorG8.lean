/-
  Rows of one's own: numbers, marks; one more at the end.
-/
import Derived.Test.YthfljimgpcignaaGreatDoorFlV
import Derived.Maps.AppendAt
namespace Go.Proofs.YthfljimgpcignaaGreatDoor
open Go.RowKit

theorem infoInt : (Tryz.prog.info? 3).map (fun i => (i.zero, i.size, i.bytes)) = some (some (.int .i64 0), 1, 8) := by kernel_rfl
theorem infoBool : (Tryz.prog.info? 4).map (fun i => (i.zero, i.size, i.bytes)) = some (some (.bool false), 1, 1) := by kernel_rfl
theorem own_shape {w : World} {base : Nat} {e : TypeId} {size : Nat} {v : Value} {n : Nat} {xs : List Value} (h : w.ownsRow base e size v n xs) : ∃ q c, v = .slice q n c := by
  rcases h.2 with ⟨rfl, e0⟩ | ⟨g, cap, cur, rfl, _⟩
  · exact ⟨none, 0, by rw [e0]⟩
  · exact ⟨_, cap, rfl⟩
theorem own_ge {w : World} {base : Nat} {e : TypeId} {size : Nat} {v : Value} {n : Nat} {xs : List Value} (h : w.ownsRow base e size v n xs) : ∀ g, v.ownBlock = some g → base ≤ g := by
  intro g hg
  rcases h.2 with ⟨rfl, _⟩ | ⟨g', cap, cur, rfl, hb, _⟩
  · simp [Value.ownBlock] at hg
  · simp only [Value.ownBlock, Option.some.injEq] at hg; omega
theorem own_ne {w : World} {base : Nat} {e : TypeId} {size : Nat} {v : Value} {n : Nat} {xs : List Value} (h : w.ownsRow base e size v n xs) {b : Nat} (hb : b < base) : v.ownBlock ≠ some b := fun e => by
  have := own_ge h b e
  omega
theorem Blk.grownO {w w' : World} {b : Nat} {cs : Array Value} {t : TypeId} {r : Option Nat} (h : Blk w b cs t) (hg : w.grownBy w' r) (hne : r ≠ some b) : Blk w' b cs t := (hg.block b h.lt hne.symm).trans h
theorem below_grownO {w W0 wr : World} {r : Option Nat} (hb : Below w.heap.size w W0) (hg : W0.grownBy wr r) (h : ∀ g, r = some g → w.heap.size ≤ g) : Below w.heap.size w wr :=
  hb.grown hg hb.size (fun g hr => h g (by simpa using hr))
theorem ints_of_owns {w : World} {base : Nat} {e : TypeId} {v : Value} {n : Nat} {l : List Int} (h : w.ownsRow base e 1 v n (l.map (Value.int .i64))) (hl : l.length ≤ 9223372036854775807) : I64s w v l := by
  have hn : n = l.length := by have := h.1; simp at this; omega
  subst hn
  rcases h.2 with ⟨rfl, e⟩ | ⟨g, cap, cur, rfl, _, _, hnc, hcm, _, _⟩
  · have : l = [] := List.length_eq_zero_iff.1 e
    subst this
    exact Or.inl ⟨rfl, none, 0, rfl, fun _ => rfl⟩
  · refine Or.inr ⟨hl, g, 0, cap, hnc, by unfold maxLen at hcm; omega, rfl, fun i hi => ?_⟩
    rw [Nat.zero_add, h.cellAt i (by omega)]
    simp [hi]
theorem bools_of_owns {w : World} {base : Nat} {e : TypeId} {v : Value} {n : Nat} {l : List Bool} (h : w.ownsRow base e 1 v n (l.map Value.bool)) (hl : l.length ≤ 9223372036854775807) : Bools w v l := by
  have hn : n = l.length := by have := h.1; simp at this; omega
  subst hn
  rcases h.2 with ⟨rfl, e⟩ | ⟨g, cap, cur, rfl, _, _, hnc, hcm, _, _⟩
  · have : l = [] := List.length_eq_zero_iff.1 e
    subst this
    exact Or.inl ⟨rfl, none, 0, rfl, fun _ => rfl⟩
  · refine Or.inr ⟨hl, g, 0, cap, hnc, by unfold maxLen at hcm; omega, rfl, fun i hi => ?_⟩
    rw [Nat.zero_add, h.cellAt i (by omega)]
    simp [hi]
theorem own_below {w w' : World} {base : Nat} {e : TypeId} {size : Nat} {v : Value} {n : Nat} {xs : List Value} (h : w.ownsRow base e size v n xs) (hb : Below w.heap.size w w') : w'.ownsRow base e size v n xs :=
  (Keep.of (P := fun _ => True) hb).own h (fun _ _ => trivial)
/-- One more, behind a row of one's own: the run of that append. -/
theorem app1 {t e : TypeId} {z x : Value} {b : Nat} (ht : Tryz.prog.underlying t = some (.slice e)) (hinf : (Tryz.prog.info? e).map (fun i => (i.zero, i.size, i.bytes)) = some (some z, 1, b)) (hz : z.cells.size = 1) (hx : x.oneCell' = true) (hb8 : 0 < b ∧ b ≤ 8) {W : World} {base : Nat} {v : Value} {m : Nat} {l : List Value} (h : W.ownsRow base e 1 v m l) {g : Nat} (hk : Blk W g #[x] e) (hl : m ≤ 100000) (hb : base ≤ W.heap.size) :
    ∃ q c w', (Builtin.append_ #[t, t] t #[v, .slice (some ⟨g, 0, none⟩) 1 1]).run Tryz.prog W = .ok (.slice q (m + 1) c) w' ∧ w'.ownsRow base e 1 (.slice q (m + 1) c) (m + 1) (l ++ [x]) ∧ W.grownBy w' v.ownBlock := by
  obtain ⟨i0, hi, hz0, hz1, hz2⟩ := info_parts hinf
  obtain ⟨v', w', hr, h1, h2, -⟩ := run_append_own (P := Tryz.prog) W base t t e i0 z 1 b ht hi hz0 hz1 hz2 hz (by omega) v m l h ⟨g, 0, none⟩ 1 1 [x] rfl
    (fun j u hj => by
      obtain ⟨k0, -⟩ := hk.o1
      match j, hj with
      | 0, hj => simp at hj; subst hj; simpa [Addr.add] using k0) (by intro u hu; simp at hu; subst hu; exact hx) (by simp [maxLen]; omega) (Nat.le_trans (Nat.mul_le_mul (show m + 1 ≤ 100001 by omega) hb8.2) (by decide)) hb
  obtain ⟨q, c, rfl⟩ := own_shape h1
  exact ⟨q, c, w', hr, h1, h2⟩
/-- A row of numbers, a block of its own. -/
def numI (l : List Int) : Array Value := (l.map (Value.int .i64)).toArray
theorem numI_at {l : List Int} {i : Nat} (h : i < l.length) : (numI l)[i]? = some (.int .i64 l[i]) := by simp [numI, h]
theorem numI_set (l : List Int) (i : Nat) (x : Int) : (numI l).setIfInBounds i (.int .i64 x) = numI (l.set i x) := by simp [numI, List.map_set]
theorem numI_rep (n : Nat) (x : Int) : numI (List.replicate n x) = (List.replicate n (Value.int .i64 x)).toArray := by simp [numI]
def bolB (l : List Bool) : Array Value := (l.map Value.bool).toArray
theorem bolB_at {l : List Bool} {i : Nat} (h : i < l.length) : (bolB l)[i]? = some (.bool l[i]) := by simp [bolB, h]
theorem bolB_set (l : List Bool) (i : Nat) (x : Bool) : (bolB l).setIfInBounds i (.bool x) = bolB (l.set i x) := by simp [bolB, List.map_set]
theorem bolB_rep (n : Nat) (x : Bool) : bolB (List.replicate n x) = (List.replicate n (Value.bool x)).toArray := by simp [bolB]
theorem i64s_of_blk {w : World} {b N : Nat} {l : List Int} {t : TypeId} (h : Blk w b (numI l) t) (hl : l.length = N) (hN : N ≤ 1000000) : I64s w (.slice (some ⟨b, 0, none⟩) N N) l := by
  subst hl
  exact Or.inr ⟨by omega, b, 0, l.length, Nat.le_refl _, by omega, rfl, fun i hi => by rw [Nat.zero_add]; exact h.cell i (numI_at hi)⟩
theorem bools_of_blk {w : World} {b N : Nat} {l : List Bool} {t : TypeId} (h : Blk w b (bolB l) t) (hl : l.length = N) (hN : N ≤ 1000000) : Bools w (.slice (some ⟨b, 0, none⟩) N N) l := by
  subst hl
  exact Or.inr ⟨by omega, b, 0, l.length, Nat.le_refl _, by omega, rfl, fun i hi => by rw [Nat.zero_add]; exact h.cell i (bolB_at hi)⟩
/-- How long a row is. -/
def lenS : Value → Nat
  | .slice _ n _ => n
  | _ => 0
end Go.Proofs.YthfljimgpcignaaGreatDoor

/-
  Where an edge leads: the program's along.
-/
namespace Go.Proofs.YthfljimgpcignaaGreatDoor
open Go.RowKit

section
variable {P : Nat → Prop} {w w' : World} {p N : Nat} {E : Edg} {A B : List Bool} {ev sv dv fv : Value} {ab : Nat} {us : List Value}
set_option maxHeartbeats 2000000 in
set_option maxRecDepth 100000 in
theorem along_is (h : WebS P w p N E A B ev sv dv fv ab us) {i v : Nat} (hi : i < E.length) {x : Nat} {y : Int} (hxy : alongE E i v = (x, y)) :
    Calls Tryz.prog 81 #[pt p, .int .i64 i, .int .i64 v] w fun e w' => e = .returned (.tuple #[.int .i64 x, .int .i64 y]) ∧ Below w.heap.size w w' := by
  obtain ⟨q, c, rfl⟩ := h.e.shape
  have hz := zE_len E
  obtain ⟨b, o, rfl, e0, e1⟩ := h.e.at (k := i) (by omega)
  rw [zE_at] at e0 e1
  obtain ⟨x0, x1, x2, x3, x4, -, -, -, -, -⟩ := h.k.o5
  have hpl := h.k.lt
  have hel := World.block_lt_of_cell? w _ e0
  have hii : (i : Int) < ((zE E).length : Int) := by omega
  unfold alongE at hxy
  generalize (eL E i).1 = a at e0 hxy
  generalize (eL E i).2 = d at e1 hxy
  have hr : ((v : Int) == (a : Int)) = decide (v = a) := by
    by_cases hc : v = a
    · subst hc; simp
    · have : ¬ (v : Int) = a := by omega
      simp [hc, this]
  clear h hz
  by_cases hc : v = a
  · rw [if_pos hc] at hxy
    obtain ⟨rfl, rfl⟩ := Prod.mk.inj hxy
    have hr1 : ((v : Int) == (a : Int)) = true := by rw [hr]; simpa using hc
    clear hr hc hxy
    go_enter Tryz.func81, Tryz.ntmps81
    go_wp2_with fail
    go_ret2
    exact ⟨rfl, below_alloc1 _⟩
  · rw [if_neg hc] at hxy
    obtain ⟨rfl, rfl⟩ := Prod.mk.inj hxy
    have hr1 : ((v : Int) == (a : Int)) = false := by rw [hr]; simpa using hc
    clear hr hc hxy
    go_enter Tryz.func81, Tryz.ntmps81
    go_wp2_with fail
    go_ret2
    exact ⟨rfl, below_alloc1 _⟩
end
end Go.Proofs.YthfljimgpcignaaGreatDoor
