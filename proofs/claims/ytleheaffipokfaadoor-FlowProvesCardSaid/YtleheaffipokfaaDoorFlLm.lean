/-
  What the laws of flows want of cuts: plain mathematics, no program stands here.
-/
import Derived.Test.YtleheaffipokfaaDoorFlKm
namespace Go.Proofs.YtleheaffipokfaaDoor

/-- A Wrong's Errno. -/
theorem wr_field1 (a b : Value) (w : World) : (Instr.field 42 (.agg #[a, b]) 1).run Tryd.prog w = .ok b w := by kernel_rfl
theorem Bools.shapeN {w : World} {v : Value} {l : List Bool} {N : Nat} (h : Bools w v l) (hl : l.length = N) : ∃ q c, v = .slice q N c := by
  subst hl
  exact h.shape
theorem Bools.atN {w : World} {q : Option Addr} {n c : Nat} {l : List Bool} (h : Bools w (.slice q n c) l) {k : Nat} (hk : k < l.length) : ∃ b o, q = some ⟨b, o, none⟩ ∧ w.cell? ⟨b, o + k, none⟩ = some (.bool (setB l k)) ∧ b < w.heap.size := by
  obtain ⟨b, o, e, hc⟩ := h.at hk
  rw [← setB_at hk] at hc
  exact ⟨b, o, e, hc, World.block_lt_of_cell? w _ hc⟩
theorem remN {a : Int} {N : Nat} (h : 0 ≤ a) (hN : 0 < N) : ∃ s : Nat, a.tmod (N : Int) = (s : Int) ∧ s < N := by
  have h1 : 0 ≤ a % (N : Int) := Int.emod_nonneg _ (by omega)
  have h2 : a % (N : Int) < (N : Int) := Int.emod_lt_of_pos _ (by omega)
  exact ⟨(a % (N : Int)).toNat, by rw [Int.tmod_eq_emod_of_nonneg h]; omega, by omega⟩
theorem sumN_split (g : Nat → Int) (a : Nat) : ∀ b, sumN g (a + b) = sumN g a + sumN (fun i => g (a + i)) b
  | 0 => by simp [sumN]
  | b + 1 => by
    show sumN g (a + b) + g (a + b) = sumN g a + (sumN (fun i => g (a + i)) b + g (a + b))
    rw [sumN_split g a b]
    omega
theorem eL_left {E F : Edg} {i : Nat} (h : i < E.length) : eL (E ++ F) i = eL E i := by
  unfold eL
  rw [List.getD_eq_getElem?_getD, List.getD_eq_getElem?_getD, List.getElem?_append_left h]
theorem eL_right {E F : Edg} (i : Nat) : eL (E ++ F) (E.length + i) = eL F i := by
  unfold eL
  rw [List.getD_eq_getElem?_getD, List.getD_eq_getElem?_getD, List.getElem?_append_right (by omega)]
  congr 2
  omega
theorem crossS_app (S : VSet) (E F : Edg) : crossS S (E ++ F) = crossS S E + crossS S F := by
  unfold crossS
  rw [List.length_append, sumN_split]
  congr 1
  · exact sumN_congr fun i hi => by rw [eL_left hi]
  · exact sumN_congr fun i _ => by rw [eL_right]
theorem crossS_nil (S : VSet) : crossS S [] = 0 := rfl
theorem crossS_one (S : VSet) (x y : Nat) : crossS S [(x, y)] = b1 (S x != S y) := by
  unfold crossS
  show (0 : Int) + _ = _
  rw [Int.zero_add]
  rfl
theorem edgIn_app {N : Nat} {E F : Edg} (h : EdgIn N E) (k : EdgIn N F) : EdgIn N (E ++ F) := by
  intro i hi
  by_cases hl : i < E.length
  · rw [eL_left hl]
    exact h i hl
  · obtain ⟨j, rfl⟩ : ∃ j, i = E.length + j := ⟨i - E.length, by omega⟩
    rw [eL_right]
    rw [List.length_append] at hi
    exact k j (by omega)
theorem edgIn_one {N x y : Nat} (hx : x < N) (hy : y < N) : EdgIn N [(x, y)] := by
  intro i hi
  have : i = 0 := by simpa using hi
  subst this
  exact ⟨hx, hy⟩
theorem zE_app (E F : Edg) : zE (E ++ F) = zE E ++ zE F := by simp [zE]
section
variable {N : Nat} {E : Edg} {A B near far : VSet} {V : Int}
theorem MaxQ.cross {F : Edg} (h : MaxQ N E A B V near far) (hc : ∀ S, crossS S F = crossS S E) : MaxQ N F A B V near far :=
  ⟨h.nearC, h.farC, by rw [hc]; exact h.nearV, by rw [hc]; exact h.farV, fun S hS => by rw [hc]; exact h.least S hS, fun S hS e => h.both S hS (by rw [← hc]; exact e)⟩
theorem cross_not (S : VSet) (E : Edg) : crossS (fun v => !S v) E = crossS S E := by
  unfold crossS
  refine sumN_congr fun i _ => ?_
  show b1 ((!S (eL E i).1) != (!S (eL E i).2)) = _
  cases S (eL E i).1 <;> cases S (eL E i).2 <;> rfl
theorem IsCut.swap {S : VSet} (h : IsCut N A B S) : IsCut N B A (fun v => !S v) := ⟨fun v hv hb => by simp [h.none v hv hb], fun v hv ha => by simp [h.has v hv ha]⟩
theorem IsCut.back {S : VSet} (h : IsCut N B A S) : IsCut N A B (fun v => !S v) := h.swap
/-- The other way round. -/
theorem MaxQ.swap (h : MaxQ N E A B V near far) : MaxQ N E B A V (fun v => !far v) (fun v => !near v) := by
  refine ⟨h.farC.swap, h.nearC.swap, by rw [cross_not]; exact h.farV, by rw [cross_not]; exact h.nearV, fun S hS => by rw [← cross_not]; exact h.least _ hS.back, fun S hS e => ?_⟩
  have := h.both _ hS.back (by rw [cross_not]; exact e)
  refine ⟨fun v hv hn => ?_, fun v hv hs => ?_⟩
  · cases hs : S v
    · have := this.2 v hv (by simp [hs])
      simp [this] at hn
    · rfl
  · cases hn : near v
    · rfl
    · have := this.1 v hv hn
      simp [hs] at this
/-- One edge more. -/
theorem MaxQ.more {x y : Nat} {W : Int} {near' far' : VSet} (h : MaxQ N E A B V near far) (k : MaxQ N (E ++ [(x, y)]) A B W near' far') (hx : x < N) (hy : y < N) :
    W = if ((near x && !far y) || (near y && !far x)) = true then V + 1 else V := by
  have hc : ∀ S, crossS S (E ++ [(x, y)]) = crossS S E + b1 (S x != S y) := fun S => by rw [crossS_app, crossS_one]
  have hsub := h.sub
  have hW := k.nearV
  rw [hc] at hW
  have hl := h.least _ k.nearC
  have hb0 : ∀ b : Bool, 0 ≤ b1 b ∧ b1 b ≤ 1 := fun b => by cases b <;> decide
  have hkn := k.least _ h.nearC
  have hkf := k.least _ h.farC
  rw [hc, h.nearV] at hkn
  rw [hc, h.farV] at hkf
  have hbb := hb0 (near' x != near' y)
  have both := h.both _ k.nearC
  split
  · next hm =>
    have h1 := hb0 (near x != near y)
    have : V + 1 ≤ W := by
      by_cases e : crossS near' E = V
      · obtain ⟨p, q⟩ := both e
        have hne : (near' x != near' y) = true := by
          rcases (show (near x && !far y) = true ∨ (near y && !far x) = true by simpa [Bool.or_eq_true] using hm) with hm | hm
          · obtain ⟨m1, m2⟩ : near x = true ∧ (!far y) = true := by simpa [Bool.and_eq_true] using hm
            have a1 := p x hx m1
            have a2 : near' y = false := by
              cases e2 : near' y
              · rfl
              · have := q y hy e2
                simp [this] at m2
            simp [a1, a2]
          · obtain ⟨m1, m2⟩ : near y = true ∧ (!far x) = true := by simpa [Bool.and_eq_true] using hm
            have a1 := p y hy m1
            have a2 : near' x = false := by
              cases e2 : near' x
              · rfl
              · have := q x hx e2
                simp [this] at m2
            simp [a1, a2]
        rw [hne] at hW
        have : b1 true = 1 := rfl
        omega
      · omega
    omega
  · next hm =>
    have : W ≤ V := by
      have hz : b1 (near x != near y) = 0 ∨ b1 (far x != far y) = 0 := by
        have sx := hsub x hx
        have sy := hsub y hy
        revert hm sx sy
        cases near x <;> cases near y <;> cases far x <;> cases far y <;> simp [b1]
      rcases hz with hz | hz <;> omega
    omega
end
/-- Edges told the other way round, each with one from a vertex to itself behind it. -/
def turnE (E : Edg) (N : Nat) : Nat → Edg
  | 0 => []
  | k + 1 => turnE E N k ++ [((eL E k).2, (eL E k).1), (k % N, k % N)]
theorem turnE_len (E : Edg) (N : Nat) : ∀ k, (turnE E N k).length = 2 * k
  | 0 => rfl
  | k + 1 => by rw [turnE, List.length_append, turnE_len E N k]; rfl
theorem turnE_in {N : Nat} {E : Edg} (h : EdgIn N E) (hN : 0 < N) : ∀ k, k ≤ E.length → EdgIn N (turnE E N k)
  | 0, _ => fun i hi => by simp [turnE] at hi
  | k + 1, hk => by
    refine edgIn_app (turnE_in h hN k (by omega)) ?_
    intro i hi
    have hi' : i < 2 := hi
    match i, hi' with
    | 0, _ => exact ⟨(h k (by omega)).2, (h k (by omega)).1⟩
    | 1, _ => exact ⟨Nat.mod_lt _ hN, Nat.mod_lt _ hN⟩
theorem turnE_cross (S : VSet) (E : Edg) (N : Nat) : ∀ k, crossS S (turnE E N k) = crossTo S E k
  | 0 => rfl
  | k + 1 => by
    rw [turnE, crossS_app, turnE_cross S E N k, crossTo_succ]
    congr 1
    rw [show [((eL E k).2, (eL E k).1), (k % N, k % N)] = [((eL E k).2, (eL E k).1)] ++ [(k % N, k % N)] from rfl, crossS_app, crossS_one, crossS_one]
    cases S (eL E k).1 <;> cases S (eL E k).2 <;> cases S (k % N) <;> rfl
theorem OkA.swap {n : Int} {l : List (Int × Int)} {src dst : List Int} (h : OkA n l src dst) : OkA n l dst src := ⟨h.n0, h.e, h.d, h.s⟩
theorem Twice.swap {src dst : List Int} (h : Twice dst src) : Twice src dst := by
  obtain ⟨x, h1, h2⟩ := h
  exact ⟨x, h2, h1⟩
theorem okA_of {N : Nat} {E : Edg} {S D : List Nat} (hE : EdgIn N E) (hS : ∀ x, x ∈ S → x < N) (hD : ∀ x, x ∈ D → x < N) : OkA (N : Int) (zE E) (zN S) (zN D) := by
  refine ⟨by omega, fun x hx => ?_, fun x hx => ?_, fun x hx => ?_⟩
  · obtain ⟨i, hi, e⟩ := List.mem_iff_getElem.1 hx
    rw [zE_at] at e
    have := hE i (by rwa [zE_len] at hi)
    rw [← e]
    simp only
    omega
  · obtain ⟨v, hv, rfl⟩ := zN_mem.1 hx
    have := hS v hv
    omega
  · obtain ⟨v, hv, rfl⟩ := zN_mem.1 hx
    have := hD v hv
    omega
end Go.Proofs.YtleheaffipokfaaDoor
