/-
  What the laws of flows want of cuts: plain mathematics, no program stands here.
-/
import Derived.Test.YthfljimgpcignaaGreatDoorG21
import Derived.Test.YthfljimgpcignaaGreatDoorG20
namespace Go.Proofs.YthfljimgpcignaaGreatDoor

/-- A Wrong's Errno. -/
theorem wr_field1 (a b : Value) (w : World) : (Instr.field 28 (.agg #[a, b]) 1).run Tryz.prog w = .ok b w := by kernel_rfl
theorem Bools.shapeN {w : World} {v : Value} {l : List Bool} {N : Nat} (h : Bools w v l) (hl : l.length = N) : ∃ q c, v = .slice q N c := by
  subst hl
  exact h.shape
theorem Bools.atN {w : World} {q : Option Addr} {n c : Nat} {l : List Bool} (h : Bools w (.slice q n c) l) {k : Nat} (hk : k < l.length) : ∃ b o, q = some ⟨b, o, none⟩ ∧ w.cell? ⟨b, o + k, none⟩ = some (.bool (setB l k)) ∧ b < w.heap.size := by
  obtain ⟨b, o, e, hc⟩ := h.at hk
  rw [← setB_at hk] at hc
  exact ⟨b, o, e, hc, World.block_lt_of_cell? w _ hc⟩
theorem remN {a : Int} {N : Nat} (h : 0 ≤ a) (hN : 0 < N) : ∃ s : Nat, a.tmod (N : Int) = (s : Int) ∧ s < N := by
  have h1 : 0 ≤ a % (N : Int) := Int.emod_nonneg _ (by omega)
  have h2 : a % (N : Int) < (N : Int) := Int.emod_lt_of_pos _ (by omega)
  exact ⟨(a % (N : Int)).toNat, by rw [Int.tmod_eq_emod_of_nonneg h]; omega, by omega⟩
theorem sumN_split (g : Nat → Int) (a : Nat) : ∀ b, sumN g (a + b) = sumN g a + sumN (fun i => g (a + i)) b
  | 0 => by simp [sumN]
  | b + 1 => by
    show sumN g (a + b) + g (a + b) = sumN g a + (sumN (fun i => g (a + i)) b + g (a + b))
    rw [sumN_split g a b]
    omega
theorem eL_left {E F : Edg} {i : Nat} (h : i < E.length) : eL (E ++ F) i = eL E i := by
  unfold eL
  rw [List.getD_eq_getElem?_getD, List.getD_eq_getElem?_getD, List.getElem?_append_left h]
theorem eL_right {E F : Edg} (i : Nat) : eL (E ++ F) (E.length + i) = eL F i := by
  unfold eL
  rw [List.getD_eq_getElem?_getD, List.getD_eq_getElem?_getD, List.getElem?_append_right (by omega)]
  congr 2
  omega
theorem crossS_app (S : VSet) (E F : Edg) : crossS S (E ++ F) = crossS S E + crossS S F := by
  unfold crossS
  rw [List.length_append, sumN_split]
  congr 1
  · exact sumN_congr fun i hi => by rw [eL_left hi]
  · exact sumN_congr fun i _ => by rw [eL_right]
theorem crossS_nil (S : VSet) : crossS S [] = 0 := rfl
theorem crossS_one (S : VSet) (x y : Nat) : crossS S [(x, y)] = b1 (S x != S y) := by
  unfold crossS
  show (0 : Int) + _ = _
  rw [Int.zero_add]
  rfl
theorem edgIn_app {N : Nat} {E F : Edg} (h : EdgIn N E) (k : EdgIn N F) : EdgIn N (E ++ F) := by
  intro i hi
  by_cases hl : i < E.length
  · rw [eL_left hl]
    exact h i hl
  · obtain ⟨j, rfl⟩ : ∃ j, i = E.length + j := ⟨i - E.length, by omega⟩
    rw [eL_right]
    rw [List.length_append] at hi
    exact k j (by omega)
theorem edgIn_one {N x y : Nat} (hx : x < N) (hy : y < N) : EdgIn N [(x, y)] := by
  intro i hi
  have : i = 0 := by simpa using hi
  subst this
  exact ⟨hx, hy⟩
theorem zE_app (E F : Edg) : zE (E ++ F) = zE E ++ zE F := by simp [zE]
section
variable {N : Nat} {E : Edg} {A B near far : VSet} {V : Int}
theorem MaxQ.cross {F : Edg} (h : MaxQ N E A B V near far) (hc : ∀ S, crossS S F = crossS S E) : MaxQ N F A B V near far :=
  ⟨h.nearC, h.farC, by rw [hc]; exact h.nearV, by rw [hc]; exact h.farV, fun S hS => by rw [hc]; exact h.least S hS, fun S hS e => h.both S hS (by rw [← hc]; exact e)⟩
theorem cross_not (S : VSet) (E : Edg) : crossS (fun v => !S v) E = crossS S E := by
  unfold crossS
  refine sumN_congr fun i _ => ?_
  show b1 ((!S (eL E i).1) != (!S (eL E i).2)) = _
  cases S (eL E i).1 <;> cases S (eL E i).2 <;> rfl
theorem IsCut.swap {S : VSet} (h : IsCut N A B S) : IsCut N B A (fun v => !S v) := ⟨fun v hv hb => by simp [h.none v hv hb], fun v hv ha => by simp [h.has v hv ha]⟩
theorem IsCut.back {S : VSet} (h : IsCut N B A S) : IsCut N A B (fun v => !S v) := h.swap
/-- The other way round. -/
theorem MaxQ.swap (h : MaxQ N E A B V near far) : MaxQ N E B A V (fun v => !far v) (fun v => !near v) := by
  refine ⟨h.farC.swap, h.nearC.swap, by rw [cross_not]; exact h.farV, by rw [cross_not]; exact h.nearV, fun S hS => by rw [← cross_not]; exact h.least _ hS.back, fun S hS e => ?_⟩
  have := h.both _ hS.back (by rw [cross_not]; exact e)
  refine ⟨fun v hv hn => ?_, fun v hv hs => ?_⟩
  · cases hs : S v
    · have := this.2 v hv (by simp [hs])
      simp [this] at hn
    · rfl
  · cases hn : near v
    · rfl
    · have := this.1 v hv hn
      simp [hs] at this
/-- One edge more. -/
theorem MaxQ.more {x y : Nat} {W : Int} {near' far' : VSet} (h : MaxQ N E A B V near far) (k : MaxQ N (E ++ [(x, y)]) A B W near' far') (hx : x < N) (hy : y < N) :
    W = if ((near x && !far y) || (near y && !far x)) = true then V + 1 else V := by
  have hc : ∀ S, crossS S (E ++ [(x, y)]) = crossS S E + b1 (S x != S y) := fun S => by rw [crossS_app, crossS_one]
  have hsub := h.sub
  have hW := k.nearV
  rw [hc] at hW
  have hl := h.least _ k.nearC
  have hb0 : ∀ b : Bool, 0 ≤ b1 b ∧ b1 b ≤ 1 := fun b => by cases b <;> decide
  have hkn := k.least _ h.nearC
  have hkf := k.least _ h.farC
  rw [hc, h.nearV] at hkn
  rw [hc, h.farV] at hkf
  have hbb := hb0 (near' x != near' y)
  have both := h.both _ k.nearC
  split
  · next hm =>
    have h1 := hb0 (near x != near y)
    have : V + 1 ≤ W := by
      by_cases e : crossS near' E = V
      · obtain ⟨p, q⟩ := both e
        have hne : (near' x != near' y) = true := by
          rcases (show (near x && !far y) = true ∨ (near y && !far x) = true by simpa [Bool.or_eq_true] using hm) with hm | hm
          · obtain ⟨m1, m2⟩ : near x = true ∧ (!far y) = true := by simpa [Bool.and_eq_true] using hm
            have a1 := p x hx m1
            have a2 : near' y = false := by
              cases e2 : near' y
              · rfl
              · have := q y hy e2
                simp [this] at m2
            simp [a1, a2]
          · obtain ⟨m1, m2⟩ : near y = true ∧ (!far x) = true := by simpa [Bool.and_eq_true] using hm
            have a1 := p y hy m1
            have a2 : near' x = false := by
              cases e2 : near' x
              · rfl
              · have := q x hx e2
                simp [this] at m2
            simp [a1, a2]
        rw [hne] at hW
        have : b1 true = 1 := rfl
        omega
      · omega
    omega
  · next hm =>
    have : W ≤ V := by
      have hz : b1 (near x != near y) = 0 ∨ b1 (far x != far y) = 0 := by
        have sx := hsub x hx
        have sy := hsub y hy
        revert hm sx sy
        cases near x <;> cases near y <;> cases far x <;> cases far y <;> simp [b1]
      rcases hz with hz | hz <;> omega
    omega
end
/-- Edges told the other way round, each with one from a vertex to itself behind it. -/
def turnE (E : Edg) (N : Nat) : Nat → Edg
  | 0 => []
  | k + 1 => turnE E N k ++ [((eL E k).2, (eL E k).1), (k % N, k % N)]
theorem turnE_len (E : Edg) (N : Nat) : ∀ k, (turnE E N k).length = 2 * k
  | 0 => rfl
  | k + 1 => by rw [turnE, List.length_append, turnE_len E N k]; rfl
theorem turnE_in {N : Nat} {E : Edg} (h : EdgIn N E) (hN : 0 < N) : ∀ k, k ≤ E.length → EdgIn N (turnE E N k)
  | 0, _ => fun i hi => by simp [turnE] at hi
  | k + 1, hk => by
    refine edgIn_app (turnE_in h hN k (by omega)) ?_
    intro i hi
    have hi' : i < 2 := hi
    match i, hi' with
    | 0, _ => exact ⟨(h k (by omega)).2, (h k (by omega)).1⟩
    | 1, _ => exact ⟨Nat.mod_lt _ hN, Nat.mod_lt _ hN⟩
theorem turnE_cross (S : VSet) (E : Edg) (N : Nat) : ∀ k, crossS S (turnE E N k) = crossTo S E k
  | 0 => rfl
  | k + 1 => by
    rw [turnE, crossS_app, turnE_cross S E N k, crossTo_succ]
    congr 1
    rw [show [((eL E k).2, (eL E k).1), (k % N, k % N)] = [((eL E k).2, (eL E k).1)] ++ [(k % N, k % N)] from rfl, crossS_app, crossS_one, crossS_one]
    cases S (eL E k).1 <;> cases S (eL E k).2 <;> cases S (k % N) <;> rfl
theorem OkA.swap {n : Int} {l : List (Int × Int)} {src dst : List Int} (h : OkA n l src dst) : OkA n l dst src := ⟨h.n0, h.e, h.d, h.s⟩
theorem Twice.swap {src dst : List Int} (h : Twice dst src) : Twice src dst := by
  obtain ⟨x, h1, h2⟩ := h
  exact ⟨x, h2, h1⟩
theorem okA_of {N : Nat} {E : Edg} {S D : List Nat} (hE : EdgIn N E) (hS : ∀ x, x ∈ S → x < N) (hD : ∀ x, x ∈ D → x < N) : OkA (N : Int) (zE E) (zN S) (zN D) := by
  refine ⟨by omega, fun x hx => ?_, fun x hx => ?_, fun x hx => ?_⟩
  · obtain ⟨i, hi, e⟩ := List.mem_iff_getElem.1 hx
    rw [zE_at] at e
    have := hE i (by rwa [zE_len] at hi)
    rw [← e]
    simp only
    omega
  · obtain ⟨v, hv, rfl⟩ := zN_mem.1 hx
    have := hS v hv
    omega
  · obtain ⟨v, hv, rfl⟩ := zN_mem.1 hx
    have := hD v hv
    omega
end Go.Proofs.YthfljimgpcignaaGreatDoor

/-
  What the laws of cuts want of splits: plain mathematics, no program stands here.
-/
namespace Go.Proofs.YthfljimgpcignaaGreatDoor

theorem take_drop_apart {o : List Nat} (h : o.Nodup) {a b v : Nat} (hab : a ≤ b) (h1 : v ∈ o.take a) (h2 : v ∈ o.drop b) : False := by
  rw [← List.take_append_drop a o] at h
  have h3 : v ∈ o.drop a := by
    have : o.drop b = (o.drop a).drop (b - a) := by rw [List.drop_drop]; congr 1; omega
    rw [this] at h2
    exact List.mem_of_mem_drop h2
  exact (List.nodup_append.1 h).2.2 v h1 v h3 rfl
theorem cnt_perm {S : List Bool} {o : List Nat} {N : Nat} (hl : S.length = N) (ho : o.Perm (List.range N)) : cntT S = o.countP (fun v => setB S v) := by
  rw [ho.countP_eq]
  have e : S = (List.range N).map (setB S) := List.ext_getElem (by simp [hl]) fun i h1 h2 => by
    simp only [List.getElem_map, List.getElem_range]
    rw [setB_at h1]
  conv => lhs; rw [e]
  unfold cntT
  rw [List.countP_map]
  rfl
/-- The one end, the other one, the half. -/
def srcL (o : List Nat) : List Nat := o.take (endN o.length)
def dstL (o : List Nat) : List Nat := o.drop (o.length - endN o.length)
def hlfL (o : List Nat) : List Nat := o.take ((o.length + 1) / 2)
section
variable {l : List (Int × Int)} {d : Int} {o : List Nat} {N : Nat} {E : Edg} {V : Int} {near far : List Bool}
theorem OrdL.apart (h : OrdL l d o) {v : Nat} (h1 : v ∈ srcL o) (h2 : v ∈ dstL o) : False :=
  take_drop_apart h.nodup (by have := endN_le o.length; omega) h1 h2
theorem OrdL.src_lt (h : OrdL l d o) {v : Nat} (h1 : v ∈ srcL o) : v < l.length := h.mem (List.mem_of_mem_take h1)
theorem OrdL.dst_lt (h : OrdL l d o) {v : Nat} (h1 : v ∈ dstL o) : v < l.length := h.mem (List.mem_of_mem_drop h1)
theorem OrdL.once2 (h : OrdL l d o) : ¬ Twice (zN (srcL o)) (zN (dstL o)) := by
  rintro ⟨x, h1, h2⟩
  obtain ⟨y, hy, rfl⟩ := List.mem_map.1 h1
  obtain ⟨z, hz, e⟩ := List.mem_map.1 h2
  have : z = y := by exact_mod_cast e
  exact h.apart hy (this ▸ hz)
theorem fair_ord (h : OrdL l d o) {S : List Bool} (hl : S.length = l.length) (h2 : 2 ≤ l.length) (h1 : ∀ v, v ∈ srcL o → setB S v = true) (h3 : ∀ v, v ∈ dstL o → setB S v = false) : fairL S = true := by
  have hol := h.len
  have hk := endN_le o.length
  have hc := cnt_perm hl h.perm
  have a : endN o.length ≤ cntT S := by
    rw [hc, ← List.take_append_drop (endN o.length) o, List.countP_append, List.take_append_drop]
    have : (o.take (endN o.length)).countP (fun v => setB S v) = (o.take (endN o.length)).length := List.countP_eq_length.2 fun v hv => h1 v hv
    rw [this, List.length_take]
    omega
  have b : cntT S ≤ o.length - endN o.length := by
    rw [hc, ← List.take_append_drop (o.length - endN o.length) o, List.countP_append, List.take_append_drop]
    have e : (o.drop (o.length - endN o.length)).countP (fun v => setB S v) = 0 := List.countP_eq_zero.2 fun v hv => by rw [h3 v hv]; simp
    have e2 : (o.take (o.length - endN o.length)).countP (fun v => setB S v) ≤ (o.take (o.length - endN o.length)).length := List.countP_le_length
    rw [List.length_take] at e2
    omega
  have h0 : 0 < endN o.length := by unfold endN; split <;> omega
  unfold fairL
  rw [hl, ← hol]
  simp only [Bool.and_eq_true, decide_eq_true_eq]
  omega
theorem cut_iff (h : OrdL l d o) {S : VSet} : IsCut l.length (setB (markL l.length (srcL o))) (setB (markL l.length (dstL o))) S ↔ (∀ v, v ∈ srcL o → S v = true) ∧ ∀ v, v ∈ dstL o → S v = false := by
  constructor
  · intro k
    refine ⟨fun v hv => k.has v (h.src_lt hv) (by rw [markL_in (h.src_lt hv)]; simpa using hv), fun v hv => k.none v (h.dst_lt hv) (by rw [markL_in (h.dst_lt hv)]; simpa using hv)⟩
  · rintro ⟨h1, h2⟩
    refine ⟨fun v hv ha => h1 v ?_, fun v hv hb => h2 v ?_⟩
    · rw [markL_in hv] at ha
      simpa using ha
    · rw [markL_in hv] at hb
      simpa using hb
theorem near_fair (h : OrdL l d o) (h2 : 2 ≤ l.length) (k : MaxQ l.length E (setB (markL l.length (srcL o))) (setB (markL l.length (dstL o))) V (setB near) (setB far)) (hn : near.length = l.length) : fairL near = true :=
  have c := (cut_iff h).1 k.nearC
  fair_ord h hn h2 c.1 c.2
theorem far_fair (h : OrdL l d o) (h2 : 2 ≤ l.length) (k : MaxQ l.length E (setB (markL l.length (srcL o))) (setB (markL l.length (dstL o))) V (setB near) (setB far)) (hn : far.length = l.length) : fairL far = true :=
  have c := (cut_iff h).1 k.farC
  fair_ord h hn h2 c.1 c.2
/-- The half has the one end, and none of the other one. -/
theorem half_ends (h : OrdL l d o) : (∀ v, v ∈ srcL o → setB (markL l.length (hlfL o)) v = true) ∧ ∀ v, v ∈ dstL o → setB (markL l.length (hlfL o)) v = false := by
  have hk := endN_le o.length
  refine ⟨fun v hv => ?_, fun v hv => ?_⟩
  · rw [markL_in (h.src_lt hv)]
    have : v ∈ hlfL o := by
      unfold srcL at hv
      unfold hlfL
      have e : o.take (endN o.length) = (o.take ((o.length + 1) / 2)).take (endN o.length) := by rw [List.take_take]; congr 1; omega
      rw [e] at hv
      exact List.mem_of_mem_take hv
    simpa using this
  · rw [markL_in (h.dst_lt hv)]
    have : v ∉ hlfL o := fun hm => take_drop_apart h.nodup (a := (o.length + 1) / 2) (b := o.length - endN o.length) (by unfold endN at hk ⊢; split <;> split at hk <;> omega) hm hv
    simpa using this
theorem half_fair (h : OrdL l d o) (h2 : 2 ≤ l.length) : fairL (markL l.length (hlfL o)) = true :=
  fair_ord h markL_len h2 (half_ends h).1 (half_ends h).2
theorem half_cross (h : OrdL l d o) (k : MaxQ l.length E (setB (markL l.length (srcL o))) (setB (markL l.length (dstL o))) V (setB near) (setB far)) : V ≤ crossS (setB (markL l.length (hlfL o))) E :=
  k.least _ ((cut_iff h).2 (half_ends h))
/-- Any side, with the one end put to it, and the other one taken out. -/
theorem any_cross (h : OrdL l d o) (k : MaxQ l.length E (setB (markL l.length (srcL o))) (setB (markL l.length (dstL o))) V (setB near) (setB far)) {S : VSet} (h1 : ∀ v, v ∈ srcL o → S v = true) (h3 : ∀ v, v ∈ dstL o → S v = false) : V ≤ crossS S E :=
  k.least _ ((cut_iff h).2 ⟨h1, h3⟩)
/-- Two flows over edges that cross alike, between the same ends, have the same sides. -/
theorem same_sides {F : Edg} {W : Int} {near' far' : List Bool} {A B : VSet} (k : MaxQ N E A B V (setB near) (setB far)) (k' : MaxQ N F A B W (setB near') (setB far')) (hc : ∀ S, crossS S F = crossS S E) (h1 : near.length = N) (h2 : far.length = N) (h3 : near'.length = N) (h4 : far'.length = N) : V = W ∧ near = near' ∧ far = far' := by
  obtain ⟨e1, e2, e3⟩ := (k.cross hc).uniq k'
  refine ⟨e1, setB_ext (by rw [h1, h3]) fun v hv => ?_, setB_ext (by rw [h2, h4]) fun v hv => ?_⟩
  · rw [e2 v (by omega)]
  · rw [e3 v (by omega)]
end
end Go.Proofs.YthfljimgpcignaaGreatDoor

/-
  Two heaps of points with a few edges between: plain mathematics, no program stands here.
-/
namespace Go.Proofs.YthfljimgpcignaaGreatDoor

/-- The edges of a point to those ahead of it in its heap; all of them; those between; the points. -/
def brRow (m i : Nat) : Edg := (List.range (i % m)).map fun t => (i, i / m * m + t)
def brE (m : Nat) : Nat → Edg
  | 0 => []
  | i + 1 => brE m i ++ brRow m i
def brB (m : Nat) : Nat → Edg
  | 0 => []
  | i + 1 => brB m i ++ [(i, m + i)]
def brP (m : Nat) : Nat → List (Int × Int)
  | 0 => []
  | i + 1 => brP m i ++ [(((i / m * 100000 + i % m : Nat) : Int), ((i % m * 7 : Nat) : Int))]
theorem brP_len (m : Nat) : ∀ k, (brP m k).length = k
  | 0 => rfl
  | k + 1 => by rw [brP, List.length_append, brP_len m k]; rfl
theorem brP_at (m : Nat) : ∀ k i, i < k → (brP m k)[i]? = some (((i / m * 100000 + i % m : Nat) : Int), ((i % m * 7 : Nat) : Int))
  | k + 1, i, h => by
    rw [brP]
    by_cases hi : i < k
    · rw [List.getElem?_append_left (by rw [brP_len]; exact hi), brP_at m k i hi]
    · obtain rfl : i = k := by omega
      rw [List.getElem?_append_right (by rw [brP_len]; exact Nat.le_refl _), brP_len, Nat.sub_self]
      rfl
/-- How many of k from b on are in the set. -/
def cntS (S : VSet) (b k : Nat) : Int := sumN (fun t => b1 (S (b + t))) k
theorem cntS_succ (S : VSet) (b k : Nat) : cntS S b (k + 1) = cntS S b k + b1 (S (b + k)) := rfl
theorem cntS_bd (S : VSet) (b : Nat) : ∀ k : Nat, 0 ≤ cntS S b k ∧ cntS S b k ≤ k
  | 0 => ⟨Int.le_refl _, Int.le_refl _⟩
  | k + 1 => by
    have := cntS_bd S b k
    rw [cntS_succ]
    cases S (b + k) <;> simp [b1] <;> omega
theorem cntS_all {S : VSet} {b : Nat} : ∀ {k : Nat}, (∀ t, t < k → S (b + t) = true) → cntS S b k = k
  | 0, _ => rfl
  | k + 1, h => by
    rw [cntS_succ, cntS_all fun t ht => h t (by omega), h k (by omega)]
    simp [b1]
theorem cntS_none {S : VSet} {b : Nat} : ∀ {k : Nat}, (∀ t, t < k → S (b + t) = false) → cntS S b k = 0
  | 0, _ => rfl
  | k + 1, h => by
    rw [cntS_succ, cntS_none fun t ht => h t (by omega), h k (by omega)]
    simp [b1]
theorem cntS_pos {S : VSet} {b t : Nat} (hs : S (b + t) = true) : ∀ {k : Nat}, t < k → 1 ≤ cntS S b k
  | k + 1, h => by
    rw [cntS_succ]
    by_cases e : t = k
    · subst e
      rw [hs]
      have := cntS_bd S b t
      simp [b1]
      omega
    · have := cntS_pos hs (k := k) (by omega)
      cases S (b + k) <;> simp [b1] <;> omega
theorem cntS_lt {S : VSet} {b t : Nat} (hs : S (b + t) = false) : ∀ {k : Nat}, t < k → cntS S b k ≤ k - 1
  | k + 1, h => by
    rw [cntS_succ]
    by_cases e : t = k
    · subst e
      rw [hs]
      have := cntS_bd S b t
      simp [b1]
      omega
    · have := cntS_lt hs (k := k) (by omega)
      cases S (b + k) <;> simp [b1] <;> omega
theorem crossS_map (S : VSet) (i b : Nat) : ∀ k : Nat, crossS S ((List.range k).map fun t => (i, b + t)) = if S i = true then (k : Int) - cntS S b k else cntS S b k
  | 0 => by simp [crossS_nil, cntS, sumN]
  | k + 1 => by
    rw [List.range_succ, List.map_append, crossS_app, crossS_map S i b k]
    show _ + crossS S [(i, b + k)] = _
    rw [crossS_one, cntS_succ]
    cases h1 : S i <;> cases h2 : S (b + k) <;> simp [b1] <;> omega
/-- Within a heap: as many as are in the set, times as many as are not. -/
theorem cross_first (S : VSet) (m : Nat) : ∀ i, i ≤ m → crossS S (brE m i) = cntS S 0 i * ((i : Int) - cntS S 0 i)
  | 0, _ => by simp [brE, crossS_nil, cntS, sumN]
  | i + 1, h => by
    rw [brE, crossS_app, cross_first S m i (by omega)]
    unfold brRow
    rw [Nat.mod_eq_of_lt (show i < m by omega), Nat.div_eq_of_lt (show i < m by omega), Nat.zero_mul, crossS_map, cntS_succ, Nat.zero_add]
    generalize cntS S 0 i = c
    cases S i
    · simp only [b1, Bool.false_eq_true, if_false, Int.add_zero]
      rw [show ((i + 1 : Nat) : Int) - c = ((i : Int) - c) + 1 by omega, Int.mul_add, Int.mul_one]
    · simp only [b1, if_true]
      rw [show ((i + 1 : Nat) : Int) - (c + 1) = (i : Int) - c by omega, Int.add_mul, Int.one_mul]
theorem cross_second (S : VSet) (m : Nat) : ∀ j, j ≤ m → crossS S (brE m (m + j)) = cntS S 0 m * ((m : Int) - cntS S 0 m) + cntS S m j * ((j : Int) - cntS S m j)
  | 0, _ => by
    rw [Nat.add_zero, cross_first S m m (Nat.le_refl _)]
    simp [cntS, sumN]
  | j + 1, h => by
    rw [← Nat.add_assoc, brE, crossS_app, cross_second S m j (by omega)]
    unfold brRow
    have e1 : (m + j) % m = j := by rw [Nat.add_mod_left]; exact Nat.mod_eq_of_lt (by omega)
    have e2 : (m + j) / m * m = m := by
      have := Nat.div_add_mod (m + j) m
      rw [e1] at this
      rw [Nat.mul_comm] at this
      omega
    rw [e1, e2, crossS_map, cntS_succ]
    generalize cntS S m j = c
    generalize cntS S 0 m * ((m : Int) - cntS S 0 m) = q
    cases S (m + j)
    · simp only [b1, Bool.false_eq_true, if_false, Int.add_zero]
      rw [show ((j + 1 : Nat) : Int) - c = ((j : Int) - c) + 1 by omega, Int.mul_add, Int.mul_one]
      omega
    · simp only [b1, if_true]
      rw [show ((j + 1 : Nat) : Int) - (c + 1) = (j : Int) - c by omega, Int.add_mul, Int.one_mul]
      omega
theorem crossB (S : VSet) (m : Nat) : ∀ k, crossS S (brB m k) = sumN (fun i => b1 (S i != S (m + i))) k
  | 0 => rfl
  | k + 1 => by
    rw [brB, crossS_app, crossS_one, crossB S m k]
    rfl
theorem b1_bd (b : Bool) : 0 ≤ b1 b ∧ b1 b ≤ 1 := by cases b <;> decide
theorem crossB_bd (S : VSet) (m : Nat) : ∀ k : Nat, 0 ≤ crossS S (brB m k) ∧ crossS S (brB m k) ≤ k
  | 0 => ⟨Int.le_refl _, Int.le_refl _⟩
  | k + 1 => by
    have := crossB_bd S m k
    have := b1_bd (S k != S (m + k))
    rw [brB, crossS_app, crossS_one]
    omega
/-- The whole: within both heaps, and between. -/
theorem cross_all (S : VSet) (m k : Nat) : crossS S (brE m (m + m) ++ brB m k) = cntS S 0 m * ((m : Int) - cntS S 0 m) + cntS S m m * ((m : Int) - cntS S m m) + crossS S (brB m k) := by
  rw [crossS_app, cross_second S m m (Nat.le_refl _)]
theorem prod_ge {c m : Int} (h1 : 1 ≤ c) (h2 : c ≤ m - 1) : m - 1 ≤ c * (m - c) := by
  have := Int.mul_nonneg (show 0 ≤ c - 1 by omega) (show 0 ≤ m - c - 1 by omega)
  rw [Int.sub_mul, Int.one_mul, Int.mul_sub, Int.mul_one] at this
  omega
theorem prod_nn {c m : Int} (h1 : 0 ≤ c) (h2 : c ≤ m) : 0 ≤ c * (m - c) := Int.mul_nonneg h1 (by omega)
/-- A set that parts the points crosses all that are between, at least. -/
theorem bridge_lo {S : VSet} {m k : Nat} (hm : 3 ≤ m) (hk : k ≤ 2) (h1 : ∃ v, v < m + m ∧ S v = true) (h0 : ∃ v, v < m + m ∧ S v = false) : (k : Int) ≤ crossS S (brE m (m + m) ++ brB m k) := by
  rw [cross_all]
  have a := cntS_bd S 0 m
  have b := cntS_bd S m m
  have c := crossB_bd S m k
  have pa := prod_nn a.1 a.2
  have pb := prod_nn b.1 b.2
  by_cases ha : 1 ≤ cntS S 0 m ∧ cntS S 0 m ≤ (m : Int) - 1
  · have := prod_ge ha.1 ha.2
    omega
  by_cases hb : 1 ≤ cntS S m m ∧ cntS S m m ≤ (m : Int) - 1
  · have := prod_ge hb.1 hb.2
    omega
  -- each heap is all in, or all out
  have same : ∀ b', ¬ (1 ≤ cntS S b' m ∧ cntS S b' m ≤ (m : Int) - 1) → ∀ t u, t < m → u < m → S (b' + t) = S (b' + u) := by
    intro b' hb' t u ht hu
    cases e1 : S (b' + t) <;> cases e2 : S (b' + u)
    · rfl
    · exact absurd ⟨cntS_pos e2 hu, cntS_lt e1 ht⟩ hb'
    · exact absurd ⟨cntS_pos e1 ht, cntS_lt e2 hu⟩ hb'
    · rfl
  have sa := same 0 ha
  have sb := same m hb
  simp only [Nat.zero_add] at sa
  have hne : S 0 ≠ S m := by
    intro e
    have all : ∀ v, v < m + m → S v = S 0 := fun v hv => by
      by_cases hvm : v < m
      · exact sa v 0 hvm (by omega)
      · have := sb (v - m) 0 (by omega) (by omega)
        rw [show m + (v - m) = v by omega, Nat.add_zero] at this
        rw [this, e]
    obtain ⟨v, hv, e1⟩ := h1
    obtain ⟨u, hu, e0⟩ := h0
    rw [all v hv] at e1
    rw [all u hu, e1] at e0
    cases e0
  have hx : crossS S (brB m k) = k := by
    rw [crossB]
    have : ∀ i, i < k → b1 (S i != S (m + i)) = 1 := fun i hi => by
      have e1 := sa i 0 (by omega) (by omega)
      have e2 := sb i 0 (by omega) (by omega)
      rw [Nat.add_zero] at e2
      rw [e1, e2]
      cases h1 : S 0 <;> cases h2 : S m <;> simp_all [b1]
    rw [sumN_congr this]
    clear this c
    induction k with
    | zero => rfl
    | succ k ih =>
      show sumN (fun _ => 1) k + 1 = _
      rw [ih (by omega)]
      rfl
  omega
/-- The first heap. -/
def heapS (m : Nat) : VSet := fun v => decide (v < m)
theorem bridge_at {m k : Nat} (hk : k ≤ m) : crossS (heapS m) (brE m (m + m) ++ brB m k) = k := by
  rw [cross_all, cntS_all (S := heapS m) (b := 0) (k := m) (fun t ht => by simp [heapS, ht]), cntS_none (S := heapS m) (b := m) (k := m) (fun t ht => by simp [heapS]), crossB]
  have : ∀ i, i < k → b1 (heapS m i != heapS m (m + i)) = 1 := fun i hi => by simp [heapS, b1, show i < m by omega]
  rw [sumN_congr this]
  have e : ∀ k : Nat, sumN (fun _ => (1 : Int)) k = k := fun k => by
    induction k with
    | zero => rfl
    | succ k ih =>
      show sumN (fun _ => 1) k + 1 = _
      rw [ih]
      rfl
  rw [e]
  simp
/-- Between ends of which the first has two points at least the near side is the first heap. -/
theorem bridge_near {m k : Nat} {A B near far : VSet} {V : Int} (hm : 3 ≤ m) (hk : k ≤ 2) (hA : ∀ v, v < 2 → A v = true) (hA2 : ∀ v, A v = true → v < m) (hB : ∀ v, v < m + m → B v = true → m ≤ v) (hB2 : ∃ v, v < m + m ∧ B v = true)
    (h : MaxQ (m + m) (brE m (m + m) ++ brB m k) A B V near far) : V = k ∧ ∀ v, v < m + m → near v = heapS m v := by
  have hc : IsCut (m + m) A B (heapS m) := ⟨fun v hv ha => by simpa [heapS] using hA2 v ha, fun v hv hb => by have := hB v hv hb; simp [heapS]; omega⟩
  have hat := bridge_at (m := m) (k := k) (by omega)
  have hle := h.least _ hc
  rw [hat] at hle
  have n0 : near 0 = true := h.nearC.has 0 (by omega) (hA 0 (by decide))
  have hge : (k : Int) ≤ V := by
    rw [← h.nearV]
    obtain ⟨u, hu, hub⟩ := hB2
    exact bridge_lo hm hk ⟨0, by omega, n0⟩ ⟨u, hu, h.nearC.none u hu hub⟩
  have hV : V = k := by omega
  refine ⟨hV, ?_⟩
  have hsub := (h.both _ hc (by rw [hat, hV])).1
  have out : ∀ t, t < m → near (m + t) = false := fun t ht => by
    cases e : near (m + t) with
    | false => rfl
    | true =>
      have := hsub (m + t) (by omega) e
      simp [heapS] at this
      omega
  have hcr := h.nearV
  rw [cross_all, cntS_none (S := near) (b := m) (k := m) out, hV, crossB] at hcr
  have hx : ∀ i, i < k → b1 (near i != near (m + i)) = 1 := fun i hi => by
    rw [out i (by omega), h.nearC.has i (by omega) (hA i (by omega))]
    rfl
  rw [sumN_congr hx] at hcr
  have e : ∀ k : Nat, sumN (fun _ => (1 : Int)) k = k := fun k => by
    induction k with
    | zero => rfl
    | succ k ih =>
      show sumN (fun _ => 1) k + 1 = _
      rw [ih]
      rfl
  rw [e, Int.zero_mul, Int.add_zero] at hcr
  have hz : cntS near 0 m * ((m : Int) - cntS near 0 m) = 0 := by omega
  have hp : 1 ≤ cntS near 0 m := cntS_pos (t := 0) (by rw [Nat.add_zero]; exact n0) (by omega)
  intro v hv
  by_cases hvm : v < m
  · cases e : near v with
    | true => simp [heapS, hvm]
    | false =>
      have := prod_ge hp (cntS_lt (S := near) (b := 0) (t := v) (by rw [Nat.zero_add]; exact e) hvm)
      omega
  · have := out (v - m) (by omega)
    rw [show m + (v - m) = v by omega] at this
    rw [this]
    simp [heapS, hvm]
end Go.Proofs.YthfljimgpcignaaGreatDoor
