/-
  What the laws of cuts ask of the program, said once; rows of points and edges that grow side by side.
-/
import Derived.Test.YthfljimgpcignaaDoorCtBr
import Derived.Test.YthfljimgpcignaaDoorG20
import Derived.Test.YthfljimgpcignaaDoorG22
namespace Go.Proofs.YthfljimgpcignaaDoor
open Go.RowKit Go.Sort

def BestC : Prop := ∀ (w : World) (pv ev : Value) (l : List (Int × Int)) (E : Edg), Prs w pv l → Prs w ev (zE E) → OkC l (zE E) → Calls Tryd.prog 10 #[pv, ev] w (BestPost w l E)
def AllC : Prop := ∀ (w : World) (pv ev : Value) (l : List (Int × Int)) (E : Edg), Prs w pv l → Prs w ev (zE E) → OkC l (zE E) → Calls Tryd.prog 9 #[pv, ev] w (AllPost w l E)
def CrossC : Prop := ∀ (w : World) (sv ev : Value) (S : List Bool) (E : Edg), Bools w sv S → Prs w ev (zE E) → E.length ≤ 16384 → Calls Tryd.prog 16 #[sv, ev] w fun e w' => e = .returned (.int .i64 (crossS (setB S) E)) ∧ Below w.heap.size w w'
theorem PT.shapeN {w0 w : World} {l1 l2 : List (Int × Int)} {v1 v2 : Value} (h : PT w0 l1 v1 l2 v2 w) {n : Nat} (hn : l1.length = n) : ∃ q c, v1 = .slice q n c := by
  obtain ⟨q, c, e⟩ := own_shape h.r1
  exact ⟨q, c, by rw [e, hn]⟩
theorem brRow_take {m i t : Nat} : zE (brE m i ++ (List.range (t + 1)).map fun u => (i, i / m * m + u)) = zE (brE m i ++ (List.range t).map fun u => (i, i / m * m + u)) ++ [((i : Int), ((i / m * m + t : Nat) : Int))] := by
  rw [List.range_succ, List.map_append, ← List.append_assoc, zE_app]
  rfl
theorem brE_len (m : Nat) (hm : 0 < m) : ∀ i, (brE m i).length ≤ i * m
  | 0 => by simp [brE]
  | i + 1 => by
    have := brE_len m hm i
    have h2 := Nat.mod_lt i hm
    rw [brE, List.length_append, Nat.succ_mul]
    unfold brRow
    rw [List.length_map, List.length_range]
    omega
theorem brB_len (m : Nat) : ∀ k, (brB m k).length = k
  | 0 => rfl
  | k + 1 => by rw [brB, List.length_append, brB_len m k]; rfl
theorem brE_in {m : Nat} (hm : 0 < m) : ∀ i, i ≤ m + m → EdgIn (m + m) (brE m i)
  | 0, _ => fun i hi => by simp [brE] at hi
  | i + 1, h => by
    refine edgIn_app (brE_in hm i (by omega)) fun t ht => ?_
    unfold brRow at ht ⊢
    rw [List.length_map, List.length_range] at ht
    have e : eL ((List.range (i % m)).map fun t => (i, i / m * m + t)) t = (i, i / m * m + t) := by
      simp [eL, ht]
    rw [e]
    have h1 := Nat.div_add_mod i m
    rw [Nat.mul_comm] at h1
    exact ⟨by show i < m + m; omega, by show i / m * m + t < m + m; omega⟩
theorem brB_in {m : Nat} : ∀ k, k ≤ m → EdgIn (m + m) (brB m k)
  | 0, _ => fun i hi => by simp [brB] at hi
  | k + 1, h => edgIn_app (brB_in k (by omega)) (edgIn_one (by omega) (by omega))
theorem zE_pair {N : Nat} {E : Edg} (h : EdgIn N E) : ∀ x, x ∈ zE E → zPair N x := by
  intro x hx
  obtain ⟨i, hi, rfl⟩ := List.getElem_of_mem hx
  rw [zE_len] at hi
  rw [zE_at]
  have := h i hi
  exact ⟨⟨by simp, by simp; omega⟩, by simp, by simp; omega⟩
theorem br_ok {m k : Nat} (hm : 3 ≤ m) (h8 : m ≤ 8) (hk : k ≤ 2) : OkC (brP m (m + m)) (zE (brE m (m + m) ++ brB m k)) := by
  have hl := brP_len m (m + m)
  have he := brE_len m (by omega) (m + m)
  have hq : (m + m) * m ≤ 16 * 8 := Nat.mul_le_mul (by omega) h8
  refine ⟨by omega, by omega, by rw [zE_len, List.length_append, brB_len]; omega, fun x hx => ?_, ?_⟩
  · obtain ⟨i, hi, rfl⟩ := List.getElem_of_mem hx
    rw [hl] at hi
    have e := brP_at m (m + m) i hi
    rw [List.getElem?_eq_getElem (by omega)] at e
    rw [Option.some.inj e]
    have h1 := Nat.mod_lt i (show 0 < m by omega)
    have h2 : i / m ≤ 1 := by
      have := Nat.div_lt_iff_lt_mul (x := i) (y := 2) (show 0 < m by omega)
      omega
    unfold coordB
    simp only [decide_eq_true_eq]
    omega
  · rw [hl]
    exact zE_pair (edgIn_app (brE_in (by omega) _ (Nat.le_refl _)) (brB_in k (by omega)))
/-- The loops' heads. -/
def BrRel (w : World) (M : Nat) (v7 v8 iv : Value) (wr : World) : Prop := ∃ i : Nat, i ≤ M + M ∧ iv = .int .i64 i ∧ PT w (brP M i) v7 (zE (brE M i)) v8 wr
def BrRow (w : World) (M i : Nat) (v7 v8 jv : Value) (wr : World) : Prop := ∃ t : Nat, t ≤ i % M ∧ jv = .int .i64 ((i / M * M + t : Nat) : Int) ∧ PT w (brP M (i + 1)) v7 (zE (brE M i ++ (List.range t).map fun u => (i, i / M * M + u))) v8 wr
def BrBet (w : World) (M B : Nat) (v7 v8 iv : Value) (wr : World) : Prop := ∃ i : Nat, i ≤ B ∧ iv = .int .i64 i ∧ PT w (brP M (M + M)) v7 (zE (brE M (M + M) ++ brB M i)) v8 wr
def BrCmp (w : World) (N : Nat) (iv : Value) (wr : World) : Prop := ∃ i : Nat, i ≤ N ∧ iv = .int .i64 i ∧ wr = w
end Go.Proofs.YthfljimgpcignaaDoor

/-
  What the laws of cuts reckon for themselves: few, how far from half.
-/
namespace Go.Proofs.YthfljimgpcignaaDoor
open Go.RowKit Go.Sort

set_option maxRecDepth 100000 in
theorem few_is {w : World} {pv ev : Value} {l e : List (Int × Int)} (hp : Prs w pv l) (he : Prs w ev e) :
    Calls Tryd.prog 7 #[pv, ev] w fun en w' => en = .returned (.bool (decide (l.length ≤ 24 ∧ e.length ≤ 80))) ∧ w' = w := by
  obtain ⟨q, c, rfl⟩ := hp.shape
  obtain ⟨r, d, rfl⟩ := he.shape
  go_enter Tryd.func7, Tryd.ntmps7
  by_cases h1 : l.length ≤ 24
  · have h1z : (l.length : Int) ≤ 24 := by omega
    by_cases h2 : e.length ≤ 80
    · have h2z : (e.length : Int) ≤ 80 := by omega
      rw [show decide (l.length ≤ 24 ∧ e.length ≤ 80) = true from by simp [h1, h2]]
      go_wp2_with fail
      go_ret
      exact ⟨rfl, rfl⟩
    · have h2z : ¬ (e.length : Int) ≤ 80 := by omega
      have h2y : (80 : Int) < (e.length : Int) := by omega
      rw [show decide (l.length ≤ 24 ∧ e.length ≤ 80) = false from by simp; omega]
      go_wp2_with fail
      go_ret
      exact ⟨rfl, rfl⟩
  · have h1z : ¬ (l.length : Int) ≤ 24 := by omega
    have h1y : (24 : Int) < (l.length : Int) := by omega
    rw [show decide (l.length ≤ 24 ∧ e.length ≤ 80) = false from by simp; omega]
    go_wp2_with fail
    go_ret
    exact ⟨rfl, rfl⟩
theorem Spls.at {w : World} {a o n c i : Nat} {L : List Spl} {x : Spl} (h : Spls w (.slice (some ⟨a, o, none⟩) n c) L) (hx : L[i]? = some x) : ∃ sv, w.cell? ⟨a, o + i * 4, none⟩ = some sv ∧ Bools w sv x.side ∧ w.cell? ⟨a, o + i * 4 + 1, none⟩ = some (.int .i64 x.cross) ∧ a < w.heap.size := by
  obtain ⟨b', o', c', e, hc⟩ := h
  injection e with e1 e2 e3
  injection e1 with e1
  injection e1 with e1 e4
  subst e1 e4
  obtain ⟨sv, c0, hb, c1, -⟩ := hc i x hx
  exact ⟨sv, c0, hb, c1, World.block_lt_of_cell? w _ c0⟩
def unX (l : List Bool) (k : Nat) : Int := 2 * (cntT (l.take k) : Int) - l.length
set_option maxHeartbeats 4000000 in
set_option maxRecDepth 100000 in
theorem uneven_is {w : World} {v : Value} {l : List Bool} (h : Bools w v l) (hl : l.length ≤ 100000) :
    Calls Tryd.prog 11 #[v] w fun e w' => e = .returned (.int .i64 (unevL l)) ∧ w' = w := by
  obtain ⟨q, c, rfl⟩ := h.shape
  have HV := Lib.hid h
  clear h
  have hw0 : IntKind.i64.wrap (0 - (l.length : Int)) = 0 - (l.length : Int) := IntWalk.i64_in _ (by omega)
  obtain ⟨Z0, hZ0⟩ : ∃ Z0 : Int, 0 - (l.length : Int) = Z0 := ⟨_, rfl⟩
  have HZ : Hid (Z0 = unX l 0) := Lib.hid (by rw [← hZ0]; simp [unX, cntT])
  have hw1 : IntKind.i64.wrap (-(l.length : Int)) = Z0 := by rw [← hZ0]; exact (by rw [show -(l.length : Int) = 0 - (l.length : Int) from by omega]; exact hw0)
  rw [hZ0] at hw0
  rw [← hZ0] at hw0
  go_enter Tryd.func11, Tryd.ntmps11
  rw [hZ0] at hw0
  go_wp2_with fail
  go_loop [3, 4] (fun mv iv => ∃ k : Nat, k ≤ l.length ∧ iv = .int .i64 k ∧ mv = .int .i64 (unX l k)) (fun _ iv => l.length - (intOf iv).toNat)
  case atStart => exact ⟨0, Nat.zero_le _, rfl, by first | rw [← HZ.out] | (rw [← HZ.out, ← hZ0]; simp)⟩
  case round =>
    obtain ⟨k, hk, rfl, rfl⟩ := hrel
    have hcl : cntT (l.take k) ≤ k := by have := cntT_le (l.take k); rw [List.length_take] at this; omega
    have hX : unX l k = 2 * (cntT (l.take k) : Int) - l.length := rfl
    clear hw0 hw1 hZ0
    by_cases hlt : k < l.length
    · have hki : (k : Int) < (l.length : Int) := by omega
      have hwk : IntKind.i64.wrap ((k : Int) + 1) = (k : Int) + 1 := IntWalk.i64_in _ (by omega)
      obtain ⟨bb, bo, rfl, bc⟩ := HV.out.at (k := k) hlt
      have bl := World.block_lt_of_cell? w _ bc
      have HT : l.take (k + 1) = l.take k ++ [l[k]] := List.take_succ_eq_append_getElem hlt
      cases hx : l[k] with
      | true =>
        have HC : Hid (unX l k + 2 = unX l (k + 1)) := Lib.hid (by unfold unX; rw [HT, hx, cntT_snoc]; simp; omega)
        obtain ⟨X, hX2⟩ : ∃ X, unX l k = X := ⟨_, rfl⟩
        rw [hX2] at HC hX ⊢
        rw [hx] at bc
        have hw2 : IntKind.i64.wrap (X + 2) = X + 2 := IntWalk.i64_in _ (by omega)
        clear HT hX hX2 hcl hx
        go_wp2_with fail
        go_round
        case rel => exact ⟨k + 1, hlt, by go_num, by rw [HC.out]⟩
        case measure => simp [intOf]; omega
      | false =>
        have HC : Hid (unX l k = unX l (k + 1)) := Lib.hid (by unfold unX; rw [HT, hx, cntT_snoc]; simp)
        obtain ⟨X, hX2⟩ : ∃ X, unX l k = X := ⟨_, rfl⟩
        rw [hX2] at HC ⊢
        rw [hx] at bc
        clear HT hX hX2 hcl hx
        go_wp2_with fail
        go_round
        case rel => exact ⟨k + 1, hlt, by go_num, by rw [HC.out]⟩
        case measure => simp [intOf]; omega
    · obtain rfl : k = l.length := by omega
      have hu : unevL l = if unX l l.length < 0 then 0 - unX l l.length else unX l l.length := by unfold unX; rw [List.take_length]; rfl
      obtain ⟨X, hX2⟩ : ∃ X, unX l l.length = X := ⟨_, rfl⟩
      rw [hX2] at hX hu ⊢
      have HU := Lib.hid hu
      rw [List.take_length] at hcl hX
      have hw2 : IntKind.i64.wrap (0 - X) = 0 - X := IntWalk.i64_in _ (by omega)
      have hw3 : IntKind.i64.wrap (-X) = -X := IntWalk.i64_in _ (by omega)
      have hm : max X (-X) = if X < 0 then 0 - X else X := by split <;> omega
      have HMX := Lib.hid hm
      have hX9 : -100000 ≤ X ∧ X ≤ 100000 := by omega
      obtain ⟨hX7, hX8⟩ := hX9
      clear hu hX2 hcl hk hlt hX hm
      go_wp2_with fail
      go_ret
      exact ⟨by rw [HU.out, HMX.out]; rfl, rfl⟩
end Go.Proofs.YthfljimgpcignaaDoor

/-
  Two pairs appended at once to one of two rows that grow apart.
-/
namespace Go.Proofs.YthfljimgpcignaaDoor
open Go.RowKit Go.Sort

section
variable {w0 w w' : World} {l1 l2 : List (Int × Int)} {v1 v2 : Value}
theorem PT.app2 (h : PT w0 l1 v1 l2 v2 w) {x y z t : Int} {g : Nat} (hg : Blk w g #[.int .i64 x, .int .i64 y, .int .i64 z, .int .i64 t] 42) (hl : l1.length ≤ 100000) :
    ∃ q n c w', (Builtin.append_ #[22, 22] 22 #[v1, .slice (some ⟨g, 0, none⟩) 2 2]).run Tryd.prog w = .ok (.slice q n c) w' ∧ PT w0 (l1 ++ [(x, y), (z, t)]) (.slice q n c) l2 v2 w' ∧ w.heap.size ≤ w'.heap.size := by
  obtain ⟨i0, hi, hz0, hz1, hz2⟩ := info_parts infoPair
  have hz9 : w0.heap.size ≤ w.heap.size := h.b.size
  obtain ⟨v', w', hr, o1, o2, -, o4⟩ := run_append_own_at (P := Tryd.prog) w w0.heap.size 22 22 42 i0 (.agg #[.int .i64 0, .int .i64 0]) 2 16 Tryd.underlying22 hi hz0 hz1 hz2 rfl (by decide) v1 l1.length (flatP l1) h.r1 ⟨g, 0, none⟩ 2 2 (flatP [(x, y), (z, t)]) rfl
    (fun j u hj => by
      rw [add0', hg.cell j (by rw [List.getElem?_toArray]; exact hj)]) (by intro u hu; simp [flatP] at hu; rcases hu with rfl | rfl | rfl | rfl <;> rfl) (by unfold maxLen; omega) (by omega) hz9
  have hd : v'.ownBlock ≠ v2.ownBlock ∨ v2.ownBlock = none := by
    cases e2 : v2.ownBlock with
    | none => exact Or.inr rfl
    | some g2 =>
      refine Or.inl fun e => ?_
      rcases o4 with o4 | o4
      · rw [o4] at e
        exact h.dis _ e e2
      · rw [o4] at e
        injection e with e
        have := (h.r2.lt _ e2).2
        omega
  obtain ⟨q, c, rfl⟩ := own_shape o1
  refine ⟨q, _, c, w', hr, ⟨?_, h.r2.kept o2 ?_, fun g1 e1 e2 => ?_, h.b.trans ((Below.refl _ _).grown o2 hz9 (fun g' hg' => own_ge h.r1 g' (by simpa using hg')))⟩, o2.size⟩
  · rw [List.length_append, flatP_app]
    exact o1
  · cases e2 : v2.ownBlock with
    | none => exact Or.inl rfl
    | some g2 => exact Or.inr (fun e => h.dis g2 e.symm e2)
  · rcases hd with hd | hd
    · exact hd (e1.trans e2.symm)
    · rw [hd] at e2; cases e2
end
def GG.LitP2 (cs : Array Value) (v : Value) (s : Bool) (w : World) : Prop := s = false → ∃ g, v = .slice (some ⟨g, 0, none⟩) 2 2 ∧ Blk w g cs 42
theorem GG.LitP2.st (cs : Array Value) (v : Value) (s : Bool) (w : World) (s' : Bool) (w' : World) (h : GG.LitP2 cs v s w) (hr : GG.RlA s w s' w') : GG.LitP2 cs v s' w' := by
  intro e
  cases s with
  | true => rw [hr.1 rfl] at e; cases e
  | false =>
    obtain ⟨g, e1, e2⟩ := h rfl
    exact ⟨g, e1, e2.keep (hr.2 e.symm)⟩
end Go.Proofs.YthfljimgpcignaaDoor

/-
  Edges told the other way round, each with one from a vertex to itself ahead of it; points moved all alike.
-/
namespace Go.Proofs.YthfljimgpcignaaDoor
open Go.RowKit Go.Sort

def turnF (E : Edg) (N : Nat) : Nat → Edg
  | 0 => []
  | k + 1 => turnF E N k ++ [(k % N, k % N), ((eL E k).2, (eL E k).1)]
theorem turnF_len (E : Edg) (N : Nat) : ∀ k, (turnF E N k).length = 2 * k
  | 0 => rfl
  | k + 1 => by rw [turnF, List.length_append, turnF_len E N k]; rfl
theorem turnF_in {N : Nat} {E : Edg} (h : EdgIn N E) (hN : 0 < N) : ∀ k, k ≤ E.length → EdgIn N (turnF E N k)
  | 0, _ => fun i hi => by simp [turnF] at hi
  | k + 1, hk => by
    refine edgIn_app (turnF_in h hN k (by omega)) ?_
    intro i hi
    have hi' : i < 2 := hi
    match i, hi' with
    | 0, _ => exact ⟨Nat.mod_lt _ hN, Nat.mod_lt _ hN⟩
    | 1, _ => exact ⟨(h k (by omega)).2, (h k (by omega)).1⟩
theorem turnF_cross (S : VSet) (E : Edg) (N : Nat) : ∀ k, crossS S (turnF E N k) = crossTo S E k
  | 0 => rfl
  | k + 1 => by
    rw [turnF, crossS_app, turnF_cross S E N k, crossTo_succ]
    congr 1
    rw [show [(k % N, k % N), ((eL E k).2, (eL E k).1)] = [(k % N, k % N)] ++ [((eL E k).2, (eL E k).1)] from rfl, crossS_app, crossS_one, crossS_one]
    cases S (eL E k).1 <;> cases S (eL E k).2 <;> cases S (k % N) <;> rfl
theorem zE_turnF {E : Edg} {N k : Nat} : zE (turnF E N (k + 1)) = zE (turnF E N k) ++ [(((k % N : Nat) : Int), ((k % N : Nat) : Int)), ((((eL E k).2 : Nat) : Int), (((eL E k).1 : Nat) : Int))] := by
  rw [turnF, zE_app]
  rfl
def movD (dx dy : Int) (l : List (Int × Int)) : List (Int × Int) := l.map fun x => (x.1 + dx, x.2 + dy)
theorem movD_len (dx dy : Int) (l : List (Int × Int)) : (movD dx dy l).length = l.length := by simp [movD]
theorem movD_snoc {dx dy x y : Int} {l : List (Int × Int)} {k : Nat} (h : k < l.length) (e : l[k] = (x, y)) : movD dx dy (l.take (k + 1)) = movD dx dy (l.take k) ++ [(x + dx, y + dy)] := by
  rw [List.take_succ_eq_append_getElem h, e]
  simp [movD]
theorem splits_moved {l : List (Int × Int)} {E : Edg} {L M : List Spl} {dx dy : Int} (h : SplitsQ l E L) (k : SplitsQ (movD dx dy l) (turnF E l.length E.length) M) : L = M :=
  h.same k (movD_len dx dy l).symm (fun _ _ _ _ h1 h2 => ord_moved h1 h2 rfl) fun S => turnF_cross S E l.length E.length
end Go.Proofs.YthfljimgpcignaaDoor
