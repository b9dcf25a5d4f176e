/-
  What the laws of cuts ask of the program, said once; rows of points and edges that grow side by side.
-/
import Derived.Test.YthfljimgpcignaaGreatDoorCtBr
import Derived.Test.YthfljimgpcignaaGreatDoorG20
import Derived.Test.YthfljimgpcignaaGreatDoorG22
namespace Go.Proofs.YthfljimgpcignaaGreatDoor
open Go.RowKit Go.Sort

def BestC : Prop := ∀ (w : World) (pv ev : Value) (l : List (Int × Int)) (E : Edg), Prs w pv l → Prs w ev (zE E) → OkC l (zE E) → Calls Tryz.prog 13 #[pv, ev] w (BestPost w l E)
def AllC : Prop := ∀ (w : World) (pv ev : Value) (l : List (Int × Int)) (E : Edg), Prs w pv l → Prs w ev (zE E) → OkC l (zE E) → Calls Tryz.prog 7 #[pv, ev] w (AllPost w l E)
def CrossC : Prop := ∀ (w : World) (sv ev : Value) (S : List Bool) (E : Edg), Bools w sv S → Prs w ev (zE E) → E.length ≤ 16384 → Calls Tryz.prog 9 #[sv, ev] w fun e w' => e = .returned (.int .i64 (crossS (setB S) E)) ∧ Below w.heap.size w w'
theorem PT.shapeN {w0 w : World} {l1 l2 : List (Int × Int)} {v1 v2 : Value} (h : PT w0 l1 v1 l2 v2 w) {n : Nat} (hn : l1.length = n) : ∃ q c, v1 = .slice q n c := by
  obtain ⟨q, c, e⟩ := own_shape h.r1
  exact ⟨q, c, by rw [e, hn]⟩
theorem brRow_take {m i t : Nat} : zE (brE m i ++ (List.range (t + 1)).map fun u => (i, i / m * m + u)) = zE (brE m i ++ (List.range t).map fun u => (i, i / m * m + u)) ++ [((i : Int), ((i / m * m + t : Nat) : Int))] := by
  rw [List.range_succ, List.map_append, ← List.append_assoc, zE_app]
  rfl
theorem brE_len (m : Nat) (hm : 0 < m) : ∀ i, (brE m i).length ≤ i * m
  | 0 => by simp [brE]
  | i + 1 => by
    have := brE_len m hm i
    have h2 := Nat.mod_lt i hm
    rw [brE, List.length_append, Nat.succ_mul]
    unfold brRow
    rw [List.length_map, List.length_range]
    omega
theorem brB_len (m : Nat) : ∀ k, (brB m k).length = k
  | 0 => rfl
  | k + 1 => by rw [brB, List.length_append, brB_len m k]; rfl
theorem brE_in {m : Nat} (hm : 0 < m) : ∀ i, i ≤ m + m → EdgIn (m + m) (brE m i)
  | 0, _ => fun i hi => by simp [brE] at hi
  | i + 1, h => by
    refine edgIn_app (brE_in hm i (by omega)) fun t ht => ?_
    unfold brRow at ht ⊢
    rw [List.length_map, List.length_range] at ht
    have e : eL ((List.range (i % m)).map fun t => (i, i / m * m + t)) t = (i, i / m * m + t) := by
      simp [eL, ht]
    rw [e]
    have h1 := Nat.div_add_mod i m
    rw [Nat.mul_comm] at h1
    exact ⟨by show i < m + m; omega, by show i / m * m + t < m + m; omega⟩
theorem brB_in {m : Nat} : ∀ k, k ≤ m → EdgIn (m + m) (brB m k)
  | 0, _ => fun i hi => by simp [brB] at hi
  | k + 1, h => edgIn_app (brB_in k (by omega)) (edgIn_one (by omega) (by omega))
theorem zE_pair {N : Nat} {E : Edg} (h : EdgIn N E) : ∀ x, x ∈ zE E → zPair N x := by
  intro x hx
  obtain ⟨i, hi, rfl⟩ := List.getElem_of_mem hx
  rw [zE_len] at hi
  rw [zE_at]
  have := h i hi
  exact ⟨⟨by simp, by simp; omega⟩, by simp, by simp; omega⟩
theorem br_ok {m k : Nat} (hm : 3 ≤ m) (h8 : m ≤ 8) (hk : k ≤ 2) : OkC (brP m (m + m)) (zE (brE m (m + m) ++ brB m k)) := by
  have hl := brP_len m (m + m)
  have he := brE_len m (by omega) (m + m)
  have hq : (m + m) * m ≤ 16 * 8 := Nat.mul_le_mul (by omega) h8
  refine ⟨by omega, by omega, by rw [zE_len, List.length_append, brB_len]; omega, fun x hx => ?_, ?_⟩
  · obtain ⟨i, hi, rfl⟩ := List.getElem_of_mem hx
    rw [hl] at hi
    have e := brP_at m (m + m) i hi
    rw [List.getElem?_eq_getElem (by omega)] at e
    rw [Option.some.inj e]
    have h1 := Nat.mod_lt i (show 0 < m by omega)
    have h2 : i / m ≤ 1 := by
      have := Nat.div_lt_iff_lt_mul (x := i) (y := 2) (show 0 < m by omega)
      omega
    unfold coordB
    simp only [decide_eq_true_eq]
    omega
  · rw [hl]
    exact zE_pair (edgIn_app (brE_in (by omega) _ (Nat.le_refl _)) (brB_in k (by omega)))
/-- The loops' heads. -/
def BrRel (w : World) (M : Nat) (v7 v8 iv : Value) (wr : World) : Prop := ∃ i : Nat, i ≤ M + M ∧ iv = .int .i64 i ∧ PT w (brP M i) v7 (zE (brE M i)) v8 wr
def BrRow (w : World) (M i : Nat) (v7 v8 jv : Value) (wr : World) : Prop := ∃ t : Nat, t ≤ i % M ∧ jv = .int .i64 ((i / M * M + t : Nat) : Int) ∧ PT w (brP M (i + 1)) v7 (zE (brE M i ++ (List.range t).map fun u => (i, i / M * M + u))) v8 wr
def BrBet (w : World) (M B : Nat) (v7 v8 iv : Value) (wr : World) : Prop := ∃ i : Nat, i ≤ B ∧ iv = .int .i64 i ∧ PT w (brP M (M + M)) v7 (zE (brE M (M + M) ++ brB M i)) v8 wr
def BrCmp (w : World) (N : Nat) (iv : Value) (wr : World) : Prop := ∃ i : Nat, i ≤ N ∧ iv = .int .i64 i ∧ wr = w
end Go.Proofs.YthfljimgpcignaaGreatDoor

/-
  What the laws of cuts reckon for themselves: few, how far from half.
-/
namespace Go.Proofs.YthfljimgpcignaaGreatDoor
open Go.RowKit Go.Sort

set_option maxRecDepth 100000 in
theorem few_is {w : World} {pv ev : Value} {l e : List (Int × Int)} (hp : Prs w pv l) (he : Prs w ev e) :
    Calls Tryz.prog 5 #[pv, ev] w fun en w' => en = .returned (.bool (decide (l.length ≤ 24 ∧ e.length ≤ 80))) ∧ w' = w := by
  obtain ⟨q, c, rfl⟩ := hp.shape
  obtain ⟨r, d, rfl⟩ := he.shape
  go_enter Tryz.func5, Tryz.ntmps5
  by_cases h1 : l.length ≤ 24
  · have h1z : (l.length : Int) ≤ 24 := by omega
    by_cases h2 : e.length ≤ 80
    · have h2z : (e.length : Int) ≤ 80 := by omega
      rw [show decide (l.length ≤ 24 ∧ e.length ≤ 80) = true from by simp [h1, h2]]
      go_wp2_with fail
      go_ret
      exact ⟨rfl, rfl⟩
    · have h2z : ¬ (e.length : Int) ≤ 80 := by omega
      have h2y : (80 : Int) < (e.length : Int) := by omega
      rw [show decide (l.length ≤ 24 ∧ e.length ≤ 80) = false from by simp; omega]
      go_wp2_with fail
      go_ret
      exact ⟨rfl, rfl⟩
  · have h1z : ¬ (l.length : Int) ≤ 24 := by omega
    have h1y : (24 : Int) < (l.length : Int) := by omega
    rw [show decide (l.length ≤ 24 ∧ e.length ≤ 80) = false from by simp; omega]
    go_wp2_with fail
    go_ret
    exact ⟨rfl, rfl⟩
theorem Spls.at {w : World} {a o n c i : Nat} {L : List Spl} {x : Spl} (h : Spls w (.slice (some ⟨a, o, none⟩) n c) L) (hx : L[i]? = some x) : ∃ sv, w.cell? ⟨a, o + i * 4, none⟩ = some sv ∧ Bools w sv x.side ∧ w.cell? ⟨a, o + i * 4 + 1, none⟩ = some (.int .i64 x.cross) ∧ a < w.heap.size := by
  obtain ⟨b', o', c', e, hc⟩ := h
  injection e with e1 e2 e3
  injection e1 with e1
  injection e1 with e1 e4
  subst e1 e4
  obtain ⟨sv, c0, hb, c1, -⟩ := hc i x hx
  exact ⟨sv, c0, hb, c1, World.block_lt_of_cell? w _ c0⟩
def unX (l : List Bool) (k : Nat) : Int := 2 * (cntT (l.take k) : Int) - l.length
end Go.Proofs.YthfljimgpcignaaGreatDoor

/-
  Two pairs appended at once to one of two rows that grow apart.
-/
namespace Go.Proofs.YthfljimgpcignaaGreatDoor
open Go.RowKit Go.Sort

section
variable {w0 w w' : World} {l1 l2 : List (Int × Int)} {v1 v2 : Value}
theorem PT.app2 (h : PT w0 l1 v1 l2 v2 w) {x y z t : Int} {g : Nat} (hg : Blk w g #[.int .i64 x, .int .i64 y, .int .i64 z, .int .i64 t] 44) (hl : l1.length ≤ 100000) :
    ∃ q n c w', (Builtin.append_ #[22, 22] 22 #[v1, .slice (some ⟨g, 0, none⟩) 2 2]).run Tryz.prog w = .ok (.slice q n c) w' ∧ PT w0 (l1 ++ [(x, y), (z, t)]) (.slice q n c) l2 v2 w' ∧ w.heap.size ≤ w'.heap.size := by
  obtain ⟨i0, hi, hz0, hz1, hz2⟩ := info_parts infoPair
  have hz9 : w0.heap.size ≤ w.heap.size := h.b.size
  obtain ⟨v', w', hr, o1, o2, -, o4⟩ := run_append_own_at (P := Tryz.prog) w w0.heap.size 22 22 44 i0 (.agg #[.int .i64 0, .int .i64 0]) 2 16 Tryz.underlying22 hi hz0 hz1 hz2 rfl (by decide) v1 l1.length (flatP l1) h.r1 ⟨g, 0, none⟩ 2 2 (flatP [(x, y), (z, t)]) rfl
    (fun j u hj => by
      rw [add0', hg.cell j (by rw [List.getElem?_toArray]; exact hj)]) (by intro u hu; simp [flatP] at hu; rcases hu with rfl | rfl | rfl | rfl <;> rfl) (by unfold maxLen; omega) (by omega) hz9
  have hd : v'.ownBlock ≠ v2.ownBlock ∨ v2.ownBlock = none := by
    cases e2 : v2.ownBlock with
    | none => exact Or.inr rfl
    | some g2 =>
      refine Or.inl fun e => ?_
      rcases o4 with o4 | o4
      · rw [o4] at e
        exact h.dis _ e e2
      · rw [o4] at e
        injection e with e
        have := (h.r2.lt _ e2).2
        omega
  obtain ⟨q, c, rfl⟩ := own_shape o1
  refine ⟨q, _, c, w', hr, ⟨?_, h.r2.kept o2 ?_, fun g1 e1 e2 => ?_, h.b.trans ((Below.refl _ _).grown o2 hz9 (fun g' hg' => own_ge h.r1 g' (by simpa using hg')))⟩, o2.size⟩
  · rw [List.length_append, flatP_app]
    exact o1
  · cases e2 : v2.ownBlock with
    | none => exact Or.inl rfl
    | some g2 => exact Or.inr (fun e => h.dis g2 e.symm e2)
  · rcases hd with hd | hd
    · exact hd (e1.trans e2.symm)
    · rw [hd] at e2; cases e2
end
def GG.LitP2 (cs : Array Value) (v : Value) (s : Bool) (w : World) : Prop := s = false → ∃ g, v = .slice (some ⟨g, 0, none⟩) 2 2 ∧ Blk w g cs 44
theorem GG.LitP2.st (cs : Array Value) (v : Value) (s : Bool) (w : World) (s' : Bool) (w' : World) (h : GG.LitP2 cs v s w) (hr : GG.RlA s w s' w') : GG.LitP2 cs v s' w' := by
  intro e
  cases s with
  | true => rw [hr.1 rfl] at e; cases e
  | false =>
    obtain ⟨g, e1, e2⟩ := h rfl
    exact ⟨g, e1, e2.keep (hr.2 e.symm)⟩
end Go.Proofs.YthfljimgpcignaaGreatDoor

/-
  Edges told the other way round, each with one from a vertex to itself ahead of it; points moved all alike.
-/
namespace Go.Proofs.YthfljimgpcignaaGreatDoor
open Go.RowKit Go.Sort

def turnF (E : Edg) (N : Nat) : Nat → Edg
  | 0 => []
  | k + 1 => turnF E N k ++ [(k % N, k % N), ((eL E k).2, (eL E k).1)]
theorem turnF_len (E : Edg) (N : Nat) : ∀ k, (turnF E N k).length = 2 * k
  | 0 => rfl
  | k + 1 => by rw [turnF, List.length_append, turnF_len E N k]; rfl
theorem turnF_in {N : Nat} {E : Edg} (h : EdgIn N E) (hN : 0 < N) : ∀ k, k ≤ E.length → EdgIn N (turnF E N k)
  | 0, _ => fun i hi => by simp [turnF] at hi
  | k + 1, hk => by
    refine edgIn_app (turnF_in h hN k (by omega)) ?_
    intro i hi
    have hi' : i < 2 := hi
    match i, hi' with
    | 0, _ => exact ⟨Nat.mod_lt _ hN, Nat.mod_lt _ hN⟩
    | 1, _ => exact ⟨(h k (by omega)).2, (h k (by omega)).1⟩
theorem turnF_cross (S : VSet) (E : Edg) (N : Nat) : ∀ k, crossS S (turnF E N k) = crossTo S E k
  | 0 => rfl
  | k + 1 => by
    rw [turnF, crossS_app, turnF_cross S E N k, crossTo_succ]
    congr 1
    rw [show [(k % N, k % N), ((eL E k).2, (eL E k).1)] = [(k % N, k % N)] ++ [((eL E k).2, (eL E k).1)] from rfl, crossS_app, crossS_one, crossS_one]
    cases S (eL E k).1 <;> cases S (eL E k).2 <;> cases S (k % N) <;> rfl
theorem zE_turnF {E : Edg} {N k : Nat} : zE (turnF E N (k + 1)) = zE (turnF E N k) ++ [(((k % N : Nat) : Int), ((k % N : Nat) : Int)), ((((eL E k).2 : Nat) : Int), (((eL E k).1 : Nat) : Int))] := by
  rw [turnF, zE_app]
  rfl
def movD (dx dy : Int) (l : List (Int × Int)) : List (Int × Int) := l.map fun x => (x.1 + dx, x.2 + dy)
theorem movD_len (dx dy : Int) (l : List (Int × Int)) : (movD dx dy l).length = l.length := by simp [movD]
theorem movD_snoc {dx dy x y : Int} {l : List (Int × Int)} {k : Nat} (h : k < l.length) (e : l[k] = (x, y)) : movD dx dy (l.take (k + 1)) = movD dx dy (l.take k) ++ [(x + dx, y + dy)] := by
  rw [List.take_succ_eq_append_getElem h, e]
  simp [movD]
theorem splits_moved {l : List (Int × Int)} {E : Edg} {L M : List Spl} {dx dy : Int} (h : SplitsQ l E L) (k : SplitsQ (movD dx dy l) (turnF E l.length E.length) M) : L = M :=
  h.same k (movD_len dx dy l).symm (fun _ _ _ _ h1 h2 => ord_moved h1 h2 rfl) fun S => turnF_cross S E l.length E.length
end Go.Proofs.YthfljimgpcignaaGreatDoor
