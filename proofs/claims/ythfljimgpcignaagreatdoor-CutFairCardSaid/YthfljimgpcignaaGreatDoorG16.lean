/-
  The document's small things: the place in a row; are two rows of marks the same; how many edges leave a set.
-/
import Derived.Test.YthfljimgpcignaaGreatDoorG14
import Derived.Test.YthfljimgpcignaaGreatDoorG15
import Derived.Test.YthfljimgpcignaaGreatDoorG11
import Derived.ArgAppend
import Derived.Test.YthfljimgpcignaaGreatDoorG10
namespace Go.Proofs.YthfljimgpcignaaGreatDoor
open Go.RowKit

theorem ret_intD {a b : Int} (h : a = b) : Ending.returned (.int .i64 a) = .returned (.int .i64 b) := by rw [h]
theorem placeL_mem (l : List Int) (a : Int) : 0 ≤ placeL l a ↔ a ∈ l := by
  constructor
  · intro h
    refine Classical.byContradiction fun hn => ?_
    have := placeFrom_none 0 l a (fun y hy e => hn (e ▸ hy))
    unfold placeL at h
    omega
  · intro h
    unfold placeL
    have key : ∀ (l : List Int) (k : Int), 0 ≤ k → a ∈ l → 0 ≤ placeFrom k l a := by
      intro l
      induction l with
      | nil => intro k _ h; cases h
      | cons y s ih =>
        intro k hk h
        unfold placeFrom
        split
        · exact hk
        · next hne =>
          rcases List.mem_cons.1 h with h | h
          · exact absurd h.symm hne
          · exact ih (k + 1) (by omega) h
    exact key l 0 (Int.le_refl _) h
set_option maxHeartbeats 2000000 in
set_option maxRecDepth 100000 in
theorem sameB_is {w : World} {u v : Value} {L M : List Bool} (hu : Bools w u L) (hv : Bools w v M) {b : Bool} (hb : decide (L = M) = b) :
    Calls Tryz.prog 14 #[u, v] w fun e w' => e = .returned (.bool b) ∧ Below w.heap.size w w' := by
  subst hb
  obtain ⟨uq, uc, rfl⟩ := hu.shape
  obtain ⟨vq, vc, rfl⟩ := hv.shape
  have HU := Lib.hid hu
  have HV := Lib.hid hv
  have hul := hu.le
  clear hu hv
  by_cases hl : L.length = M.length
  case neg =>
    have hd : decide (L = M) = false := by simp; intro e; exact hl (by rw [e])
    rw [hd]
    have hne : ((L.length : Int) != (M.length : Int)) = true := by simp; omega
    go_enter Tryz.func14, Tryz.ntmps14
    go_wp2_with fail
    go_ret
    exact ⟨rfl, Below.refl _ _⟩
  have hne : ((L.length : Int) != (M.length : Int)) = false := by simp; omega
  have HL := Lib.hid hl
  obtain ⟨R, hR⟩ : ∃ R, decide (L = M) = R := ⟨_, rfl⟩
  rw [hR]
  have HR := Lib.hid hR
  clear hl hR
  go_enter Tryz.func14, Tryz.ntmps14
  go_wp2_with fail
  go_loopw [5] (fun iv wr => ∃ k : Nat, k ≤ L.length ∧ iv = .int .i64 k ∧ Hid (L.take k = M.take k) ∧ Hid (Below w.heap.size w wr)) (fun iv _ => L.length - (intOf iv).toNat)
  case atStart => exact ⟨0, Nat.zero_le _, rfl, Lib.hid (by simp), Lib.hid (Below.refl _ _)⟩
  case round =>
    obtain ⟨k, hk, rfl, HK, HB⟩ := hrel
    by_cases hlt : k < L.length
    · have hki : (k : Int) < (L.length : Int) := by omega
      have hlm : k < M.length := by rw [← HL.out]; exact hlt
      have hkm : (k : Int) < (M.length : Int) := by omega
      obtain ⟨ub, uo, rfl, uc1⟩ := (HU.out.below HB.out).at hlt
      obtain ⟨vb, vo, rfl, vc1⟩ := (HV.out.below HB.out).at hlm
      have h1 := World.block_lt_of_cell? wr _ uc1
      have h2 := World.block_lt_of_cell? wr _ vc1
      have HT1 : Hid (L.take (k + 1) = L.take k ++ [L[k]]) := Lib.hid (List.take_succ_eq_append_getElem hlt)
      have HT2 : Hid (M.take (k + 1) = M.take k ++ [M[k]]) := Lib.hid (List.take_succ_eq_append_getElem hlm)
      have HNE : Hid (L[k] ≠ M[k] → R = false) := Lib.hid fun h => by
        rw [← HR.out]
        simp
        intro e
        subst e
        exact h rfl
      generalize L[k] = x at uc1 HT1 HNE
      generalize M[k] = y at vc1 HT2 HNE
      by_cases hxy : x = y
      · subst hxy
        have hb : (x != x) = false := by simp
        have HN : Hid (L.take (k + 1) = M.take (k + 1)) := Lib.hid (by rw [HT1.out, HT2.out, HK.out])
        clear HNE HT1 HT2
        go_wp2_with fail
        go_quiet (fail)
        have HBN : Hid (Below w.heap.size w (wr.drewN nq)) := Lib.hid (below_drewN HB.out nq)
        go_wp2_with fail
        go_roundw
        case rel => exact ⟨k + 1, hlt, by go_num, HN, HBN⟩
        case measure => simp [intOf]; omega
      · have hb : (x == y) = false := by simpa using hxy
        have hRf := HNE.out hxy
        subst hRf
        clear hxy HNE
        go_wp2_with fail
        go_quiet (fail)
        have HBN : Hid (Below w.heap.size w (wr.drewN nq)) := Lib.hid (below_drewN HB.out nq)
        go_wp2_with fail
        go_ret
        exact ⟨rfl, HBN.out⟩
    · obtain rfl : k = L.length := by omega
      have hRt : R = true := by
        rw [← HR.out]
        have := HK.out
        rw [List.take_length, HL.out, List.take_length] at this
        simpa using this
      subst hRt
      go_wp2_with fail
      go_ret
      exact ⟨rfl, HB.out⟩
theorem marked_is {w : World} {v : Value} {M : List Bool} (h : Bools w v M) {x : Nat} {b : Bool} (hb : setB M x = b) :
    Calls Tryz.prog 24 #[v, .int .i64 x] w fun e w' => e = .returned (.bool b) ∧ w' = w := by
  obtain ⟨q, c, rfl⟩ := h.shape
  subst hb
  by_cases hx : x < M.length
  · obtain ⟨g, o, rfl, hc⟩ := h.at hx
    rw [← setB_at hx] at hc
    have hl := World.block_lt_of_cell? w _ hc
    have hxi : (x : Int) < (M.length : Int) := by omega
    clear h
    generalize setB M x = B at hc
    go_enter Tryz.func24, Tryz.ntmps24
    go_wp2_with fail
    go_ret
    exact ⟨rfl, rfl⟩
  · have hxi : decide ((x : Int) < (M.length : Int)) = false := by simpa using hx
    have hB : setB M x = false := by
      cases e : setB M x
      · rfl
      · exact absurd (setB_lt e) hx
    rw [hB]
    clear h hB
    go_enter Tryz.func24, Tryz.ntmps24
    go_wp2_with fail
    go_ret
    exact ⟨rfl, rfl⟩
/-- .. of the first k edges. -/
def crossTo (S : VSet) (E : Edg) (k : Nat) : Int := sumN (fun i => b1 (S (eL E i).1 != S (eL E i).2)) k
theorem crossTo_succ (S : VSet) (E : Edg) (k : Nat) : crossTo S E (k + 1) = crossTo S E k + b1 (S (eL E k).1 != S (eL E k).2) := rfl
theorem crossTo_bd (S : VSet) (E : Edg) : ∀ k : Nat, 0 ≤ crossTo S E k ∧ crossTo S E k ≤ k
  | 0 => ⟨Int.le_refl _, Int.le_refl _⟩
  | k + 1 => by
    have := crossTo_bd S E k
    rw [crossTo_succ]
    unfold b1
    split <;> omega
set_option maxHeartbeats 2000000 in
set_option maxRecDepth 100000 in
theorem cross_is {w : World} {mv ev : Value} {M : List Bool} {E : Edg} (hm : Bools w mv M) (he : Prs w ev (zE E)) (hl : E.length ≤ 1000000) {V : Int} (hV : crossS (setB M) E = V) :
    Calls Tryz.prog 12 #[mv, ev] w fun e w' => e = .returned (.int .i64 V) ∧ Below w.heap.size w w' := by
  obtain ⟨eq0, ec0, rfl⟩ := he.shape
  rw [zE_len] at he
  rw [zE_len]
  have HM := Lib.hid hm
  have HE := Lib.hid he
  have HV : Hid (crossTo (setB M) E E.length = V) := Lib.hid hV
  clear hm he hV
  go_enter Tryz.func12, Tryz.ntmps12
  go_wp2_with fail
  go_loopw [5, 6] (fun sv iv wr => ∃ k : Nat, k ≤ E.length ∧ iv = .int .i64 k ∧ sv = .int .i64 (crossTo (setB M) E k) ∧ Hid (Below w.heap.size w wr)) (fun _ iv _ => E.length - (intOf iv).toNat)
  case atStart => exact ⟨0, Nat.zero_le _, rfl, rfl, Lib.hid (Below.refl _ _)⟩
  case round =>
    obtain ⟨k, hk, rfl, rfl, HB⟩ := hrel
    by_cases hlt : k < E.length
    · have hki : (k : Int) < (E.length : Int) := by omega
      obtain ⟨⟨a, c⟩, hac⟩ : ∃ e, eL E k = e := ⟨_, rfl⟩
      obtain ⟨eb, eo, rfl, e0, e1⟩ := (HE.out.below HB.out).at (k := k) (by rw [zE_len]; exact hlt)
      rw [zE_at, hac] at e0 e1
      simp only at e0 e1
      have hel := World.block_lt_of_cell? wr _ e0
      have hs := crossTo_succ (setB M) E k
      rw [hac] at hs
      simp only at hs
      have hbd := crossTo_bd (setB M) E k
      obtain ⟨x, hx⟩ : ∃ x, setB M a = x := ⟨_, rfl⟩
      obtain ⟨y, hy⟩ : ∃ y, setB M c = y := ⟨_, rfl⟩
      rw [hx, hy] at hs
      have HX := Lib.hid hx
      have HY := Lib.hid hy
      have HMM := Lib.hid (HM.out.below HB.out)
      have HS := Lib.hid hs
      generalize crossTo (setB M) E k = C at *
      have hwc : IntKind.i64.wrap (C + 1) = C + 1 := IntWalk.i64_in _ (by omega)
      clear hac hx hy hs
      cases x <;> cases y
      all_goals
        go_wp2_with fail
        go_quiet ((go_at_call 24; first | exact Calls.quiet_of_same (marked_is (HMM.out.below (below_drewN (Below.refl _ _) _)) HX.out) | exact Calls.quiet_of_same (marked_is (HMM.out.below (below_drewN (Below.refl _ _) _)) HY.out) | exact Calls.quiet_of_same (marked_is HMM.out HX.out) | exact Calls.quiet_of_same (marked_is HMM.out HY.out)))
        have HBN : Hid (Below w.heap.size w (wr.drewN nq)) := Lib.hid (below_drewN HB.out nq)
        go_wp2_with fail
        go_roundw
        case rel => exact ⟨k + 1, hlt, by go_num, by rw [HS.out]; simp [b1], HBN⟩
        case measure => simp [intOf]; omega
    · obtain rfl : k = E.length := by omega
      go_wp2_with fail
      go_ret
      exact ⟨ret_intD HV.out, HB.out⟩
end Go.Proofs.YthfljimgpcignaaGreatDoor

/-
  The document's word of what may be handed in: CheckFlow.
-/
namespace Go.Proofs.YthfljimgpcignaaGreatDoor
open Go.RowKit

/-- What CheckFlow answers: 0 just where Q holds. -/
def WrPost (w : World) (Q : Prop) (e : Ending) (w' : World) : Prop := ∃ q n c m, e = .returned (.agg #[.slice q n c, .int .i64 m]) ∧ (m = 0 ↔ Q) ∧ Below w.heap.size w w'
/-- The box that the answer is put to. -/
structure WrB (w : World) (qb : Nat) (wr : World) : Prop where
  k : Blk wr qb #[.slice none 0 0, .int .i64 0] 28
  b : Below w.heap.size w wr
  lo : w.heap.size ≤ qb
theorem WrB.old {w wr wr' : World} {qb : Nat} (h : WrB w qb wr) (hb : Below wr.heap.size wr wr') : WrB w qb wr' := ⟨h.k.keep hb, bOn6 h.b hb, h.lo⟩
theorem atW {w : World} {qb : Nat} (p : ByteArray) (n m : Int) {wr : World} (h : WrB w qb wr) :
    Calls Tryz.prog 16 #[.string p, .int .i64 n, .int .i64 m] wr fun e w' => ∃ g, e = .returned (.agg #[.slice (some ⟨g, 0, none⟩) 1 1, .int .i64 m]) ∧ WrB w qb w' :=
  (at_any p n m wr).mono fun e w' h' => ⟨_, h'.1, h.old (by rw [h'.2]; exact ((Below.refl _ _).alloc (Nat.le_refl _) _).alloc (by simp) _)⟩
theorem WrB.put {w : World} {qb : Nat} {wr : World} (h : WrB w qb wr) (x y : Value) : ((wr.setCell ⟨qb, 0, none⟩ x).setCell ⟨qb, 1, none⟩ y).cell? ⟨qb, 0, none⟩ = some x ∧ ((wr.setCell ⟨qb, 0, none⟩ x).setCell ⟨qb, 1, none⟩ y).cell? ⟨qb, 1, none⟩ = some y ∧ Below w.heap.size w ((wr.setCell ⟨qb, 0, none⟩ x).setCell ⟨qb, 1, none⟩ y) := by
  have hk := (h.k.set 0 x).set 1 y
  have hk' : Blk ((wr.setCell ⟨qb, 0, none⟩ x).setCell ⟨qb, 1, none⟩ y) qb #[x, y] 28 := by simpa using hk
  exact ⟨hk'.o2.1, hk'.o2.2.1, (h.b.setCell h.lo _).setCell h.lo _⟩

section
variable {w : World} {n : Int} {l : List (Int × Int)} {src dst : List Int} {ev sv dv : Value}
end
end Go.Proofs.YthfljimgpcignaaGreatDoor

/-
  Rows copied behind an empty literal: edges, numbers, marks; the law's copies and To.
-/
namespace Go.Proofs.YthfljimgpcignaaGreatDoor
open Go.RowKit

theorem infoPair : (Tryz.prog.info? 44).map (fun i => (i.zero, i.size, i.bytes)) = some (some (.agg #[.int .i64 0, .int .i64 0]), 2, 16) := by kernel_rfl
/-- Pairs as cells. -/
def flatP : List (Int × Int) → List Value
  | [] => []
  | x :: r => .int .i64 x.1 :: .int .i64 x.2 :: flatP r
theorem flatP_len : ∀ l, (flatP l).length = l.length * 2
  | [] => rfl
  | x :: r => by rw [flatP, List.length_cons, List.length_cons, flatP_len r, List.length_cons]; omega
theorem flatP_at : ∀ (l : List (Int × Int)) (i : Nat) (h : i < l.length), (flatP l)[i * 2]? = some (.int .i64 l[i].1) ∧ (flatP l)[i * 2 + 1]? = some (.int .i64 l[i].2)
  | x :: r, 0, h => by simp [flatP]
  | x :: r, i + 1, h => by
    have := flatP_at r i (by simpa using h)
    rw [flatP, show (i + 1) * 2 = i * 2 + 1 + 1 by omega]
    simpa using this
theorem flatP_app : ∀ (l m : List (Int × Int)), flatP (l ++ m) = flatP l ++ flatP m
  | [], m => rfl
  | x :: r, m => by rw [List.cons_append, flatP, flatP, flatP_app r m]; rfl
theorem prs_of_owns {w : World} {base : Nat} {e : TypeId} {v : Value} {n : Nat} {l : List (Int × Int)} (h : w.ownsRow base e 2 v n (flatP l)) (hl : l.length ≤ 9223372036854775807) : Prs w v l := by
  have hn : n = l.length := by have := h.1; rw [flatP_len] at this; omega
  subst hn
  rcases h.2 with ⟨rfl, e⟩ | ⟨g, cap, cur, rfl, _, _, hnc, hcm, _, _⟩
  · have : l = [] := List.length_eq_zero_iff.1 e
    subst this
    exact Or.inl ⟨rfl, none, 0, rfl, fun _ => rfl⟩
  · refine Or.inr ⟨hl, g, 0, cap, hnc, by unfold maxLen at hcm; omega, rfl, fun i hi => ?_⟩
    obtain ⟨a, b⟩ := flatP_at l i hi
    rw [Nat.zero_add]
    exact ⟨(h.cellAt _ (by omega)).trans a, (h.cellAt _ (by omega)).trans b⟩
theorem copyI (W : World) (v : Value) (l : List Int) (hv : I64s W v l) (hs : l.length ≤ 100000) (g : Nat) :
    ∃ v' w', (Builtin.append_ #[39, 39] 39 #[.slice (some ⟨g, 0, none⟩) 0 0, v]).run Tryz.prog W = .ok v' w' ∧ I64s w' v' l ∧ Below W.heap.size W w' := by
  obtain ⟨i0, hi, hz0, hz1, hz2⟩ := info_parts infoInt
  have ht : Tryz.prog.underlying 39 = some (.slice 3) := Tryz.underlying39
  rcases hv with ⟨rfl, p, c, rfl, hpc⟩ | ⟨hl, b, o, c, -, -, rfl, hc⟩
  · refine ⟨.slice (some ⟨g, 0, none⟩) 0 0, W, ?_, Or.inl ⟨rfl, _, _, rfl, fun h => by cases h⟩, Below.refl _ _⟩
    cases p with
    | none =>
      simp [Builtin.append_, run_underlying ht, sizeOf, typeInfo, hi, Builtin.lenOf, Builtin.firstCells, storeCells]
    | some ad =>
      have := run_append_room_cells (P := Tryz.prog) (w := W) 39 39 3 i0 ht hi g 0 0 0 ad 0 c [] (by simp) (by intro j u h; simp at h) (by intro u h; cases h) (by omega) (by intro j h; simp at h) (by intro j h; simp at h)
      simpa [World.setCells] using this
  · by_cases h0 : l.length = 0
    · obtain rfl : l = [] := List.length_eq_zero_iff.1 h0
      refine ⟨.slice (some ⟨g, 0, none⟩) 0 0, W, ?_, Or.inl ⟨rfl, _, _, rfl, fun h => by cases h⟩, Below.refl _ _⟩
      have := run_append_room_cells (P := Tryz.prog) (w := W) 39 39 3 i0 ht hi g 0 0 0 ⟨b, o, none⟩ 0 c [] (by simp) (by intro j u h; simp at h) (by intro u h; cases h) (by omega) (by intro j h; simp at h) (by intro j h; simp at h)
      simpa [World.setCells] using this
    · obtain ⟨v', w', hr, h1, h2⟩ := run_append_arg_grows (P := Tryz.prog) (w := W) 39 39 3 i0 (.int .i64 0) 1 8 ht hi hz0 hz1 hz2 rfl (by decide) ⟨g, 0, none⟩ 0 0 [] (by simp) (by intro j u h; simp at h) ⟨b, o, none⟩ l.length c (l.map (Value.int .i64)) (by simp)
        (fun j u hu => by
          have e : (⟨b, o, none⟩ : Addr).add j = ⟨b, o + j, none⟩ := by unfold Addr.add; split <;> simp_all
          rw [e]
          obtain ⟨hj, hu⟩ := List.getElem?_eq_some_iff.1 hu
          have hj' : j < l.length := by simpa using hj
          rw [hc j hj', ← hu, List.getElem_map]) (by omega) (by simp [maxLen]; omega) (by omega)
      rw [List.nil_append, Nat.zero_add] at h1
      exact ⟨v', w', hr, ints_of_owns h1 hl, (Below.refl _ _).grown h2 (Nat.le_refl _) (by intro k hk; cases hk)⟩
theorem copyB (W : World) (v : Value) (l : List Bool) (hv : Bools W v l) (hs : l.length ≤ 100000) (g : Nat) :
    ∃ v' w', (Builtin.append_ #[23, 23] 23 #[.slice (some ⟨g, 0, none⟩) 0 0, v]).run Tryz.prog W = .ok v' w' ∧ Bools w' v' l ∧ Below W.heap.size W w' := by
  obtain ⟨i0, hi, hz0, hz1, hz2⟩ := info_parts infoBool
  have ht : Tryz.prog.underlying 23 = some (.slice 4) := Tryz.underlying23
  rcases hv with ⟨rfl, p, c, rfl, hpc⟩ | ⟨hl, b, o, c, -, -, rfl, hc⟩
  · refine ⟨.slice (some ⟨g, 0, none⟩) 0 0, W, ?_, Or.inl ⟨rfl, _, _, rfl, fun h => by cases h⟩, Below.refl _ _⟩
    cases p with
    | none =>
      simp [Builtin.append_, run_underlying ht, sizeOf, typeInfo, hi, Builtin.lenOf, Builtin.firstCells, storeCells]
    | some ad =>
      have := run_append_room_cells (P := Tryz.prog) (w := W) 23 23 4 i0 ht hi g 0 0 0 ad 0 c [] (by simp) (by intro j u h; simp at h) (by intro u h; cases h) (by omega) (by intro j h; simp at h) (by intro j h; simp at h)
      simpa [World.setCells] using this
  · by_cases h0 : l.length = 0
    · obtain rfl : l = [] := List.length_eq_zero_iff.1 h0
      refine ⟨.slice (some ⟨g, 0, none⟩) 0 0, W, ?_, Or.inl ⟨rfl, _, _, rfl, fun h => by cases h⟩, Below.refl _ _⟩
      have := run_append_room_cells (P := Tryz.prog) (w := W) 23 23 4 i0 ht hi g 0 0 0 ⟨b, o, none⟩ 0 c [] (by simp) (by intro j u h; simp at h) (by intro u h; cases h) (by omega) (by intro j h; simp at h) (by intro j h; simp at h)
      simpa [World.setCells] using this
    · obtain ⟨v', w', hr, h1, h2⟩ := run_append_arg_grows (P := Tryz.prog) (w := W) 23 23 4 i0 (.bool false) 1 1 ht hi hz0 hz1 hz2 rfl (by decide) ⟨g, 0, none⟩ 0 0 [] (by simp) (by intro j u h; simp at h) ⟨b, o, none⟩ l.length c (l.map Value.bool) (by simp)
        (fun j u hu => by
          have e : (⟨b, o, none⟩ : Addr).add j = ⟨b, o + j, none⟩ := by unfold Addr.add; split <;> simp_all
          rw [e]
          obtain ⟨hj, hu⟩ := List.getElem?_eq_some_iff.1 hu
          have hj' : j < l.length := by simpa using hj
          rw [hc j hj', ← hu, List.getElem_map]) (by omega) (by simp [maxLen]; omega) (by omega)
      rw [List.nil_append, Nat.zero_add] at h1
      exact ⟨v', w', hr, bools_of_owns h1 hl, (Below.refl _ _).grown h2 (Nat.le_refl _) (by intro k hk; cases hk)⟩
theorem copyP (W : World) (v : Value) (l : List (Int × Int)) (hv : Prs W v l) (hs : l.length ≤ 100000) (g : Nat) :
    ∃ v' w', (Builtin.append_ #[22, 22] 22 #[.slice (some ⟨g, 0, none⟩) 0 0, v]).run Tryz.prog W = .ok v' w' ∧ Prs w' v' l ∧ Below W.heap.size W w' := by
  obtain ⟨i0, hi, hz0, hz1, hz2⟩ := info_parts infoPair
  have ht : Tryz.prog.underlying 22 = some (.slice 44) := Tryz.underlying22
  rcases hv with ⟨rfl, p, c, rfl, hpc⟩ | ⟨hl, b, o, c, -, -, rfl, hc⟩
  · refine ⟨.slice (some ⟨g, 0, none⟩) 0 0, W, ?_, Or.inl ⟨rfl, _, _, rfl, fun h => by cases h⟩, Below.refl _ _⟩
    cases p with
    | none =>
      simp [Builtin.append_, run_underlying ht, sizeOf, typeInfo, hi, Builtin.lenOf, Builtin.firstCells, storeCells]
    | some ad =>
      have := run_append_room_cells (P := Tryz.prog) (w := W) 22 22 44 i0 ht hi g 0 0 0 ad 0 c [] (by simp) (by intro j u h; simp at h) (by intro u h; cases h) (by omega) (by intro j h; simp at h) (by intro j h; simp at h)
      simpa [World.setCells] using this
  · by_cases h0 : l.length = 0
    · obtain rfl : l = [] := List.length_eq_zero_iff.1 h0
      refine ⟨.slice (some ⟨g, 0, none⟩) 0 0, W, ?_, Or.inl ⟨rfl, _, _, rfl, fun h => by cases h⟩, Below.refl _ _⟩
      have := run_append_room_cells (P := Tryz.prog) (w := W) 22 22 44 i0 ht hi g 0 0 0 ⟨b, o, none⟩ 0 c [] (by simp) (by intro j u h; simp at h) (by intro u h; cases h) (by omega) (by intro j h; simp at h) (by intro j h; simp at h)
      simpa [World.setCells] using this
    · obtain ⟨v', w', hr, h1, h2⟩ := run_append_arg_grows (P := Tryz.prog) (w := W) 22 22 44 i0 (.agg #[.int .i64 0, .int .i64 0]) 2 16 ht hi hz0 hz1 hz2 rfl (by decide) ⟨g, 0, none⟩ 0 0 [] (by simp) (by intro j u h; simp at h) ⟨b, o, none⟩ l.length c (flatP l) (by rw [flatP_len])
        (fun j u hu => by
          have e : (⟨b, o, none⟩ : Addr).add j = ⟨b, o + j, none⟩ := by unfold Addr.add; split <;> simp_all
          rw [e]
          have hj : j < l.length * 2 := by have := (List.getElem?_eq_some_iff.1 hu).1; rwa [flatP_len] at this
          obtain ⟨k, r, hk, hr⟩ : ∃ k r, j = k * 2 + r ∧ r < 2 := ⟨j / 2, j % 2, by omega, Nat.mod_lt _ (by decide)⟩
          have hkl : k < l.length := by omega
          obtain ⟨c0, c1⟩ := hc k hkl
          obtain ⟨f0, f1⟩ := flatP_at l k hkl
          subst hk
          match r, hr with
          | 0, _ =>
            rw [Nat.add_zero] at hu
            rw [Nat.add_zero, c0, ← hu, f0]
          | 1, _ => rw [← Nat.add_assoc, c1, ← hu, f1]) (by omega) (by simp [maxLen]; omega) (by omega)
      rw [List.nil_append, Nat.zero_add] at h1
      exact ⟨v', w', hr, prs_of_owns h1 hl, (Below.refl _ _).grown h2 (Nat.le_refl _) (by intro k hk; cases hk)⟩
end Go.Proofs.YthfljimgpcignaaGreatDoor

/-
  Rows of edges of one's own: copied, and with more of them at the end.
-/
namespace Go.Proofs.YthfljimgpcignaaGreatDoor
open Go.RowKit

theorem owns_base {w : World} {base base' : Nat} {e : TypeId} {size : Nat} {v : Value} {n : Nat} {xs : List Value} (h : w.ownsRow base e size v n xs) (hb : base' ≤ base) : w.ownsRow base' e size v n xs := by
  refine ⟨h.1, ?_⟩
  rcases h.2 with h0 | ⟨g, cap, cur, h1, h2, h3⟩
  · exact Or.inl h0
  · exact Or.inr ⟨g, cap, cur, h1, Nat.le_trans hb h2, h3⟩
theorem add0' (xb j : Nat) : (⟨xb, 0, none⟩ : Addr).add j = ⟨xb, j, none⟩ := by unfold Addr.add; split <;> simp_all
theorem copyO (W : World) (v : Value) (l : List (Int × Int)) (hv : Prs W v l) (hs : l.length ≤ 100000) (g base : Nat) (hg : Blk W g #[] 44) (hb : base ≤ g) :
    ∃ v' w', (Builtin.append_ #[22, 22] 22 #[.slice (some ⟨g, 0, none⟩) 0 0, v]).run Tryz.prog W = .ok v' w' ∧ w'.ownsRow base 44 2 v' l.length (flatP l) ∧ Below W.heap.size W w' := by
  obtain ⟨i0, hi, hz0, hz1, hz2⟩ := info_parts infoPair
  have ht : Tryz.prog.underlying 22 = some (.slice 44) := Tryz.underlying22
  have hnil : W.ownsRow base 44 2 (.slice (some ⟨g, 0, none⟩) 0 0) 0 (flatP []) := ⟨rfl, Or.inr ⟨g, 0, #[], rfl, hb, hg, Nat.le_refl _, by simp [maxLen], rfl, rfl⟩⟩
  have hgl := hg.lt
  rcases hv with ⟨rfl, p, c, rfl, hpc⟩ | ⟨hl, b, o, c, -, -, rfl, hc⟩
  · refine ⟨.slice (some ⟨g, 0, none⟩) 0 0, W, ?_, hnil, Below.refl _ _⟩
    cases p with
    | none =>
      simp [Builtin.append_, run_underlying ht, sizeOf, typeInfo, hi, Builtin.lenOf, Builtin.firstCells, storeCells]
    | some ad =>
      have := run_append_room_cells (P := Tryz.prog) (w := W) 22 22 44 i0 ht hi g 0 0 0 ad 0 c [] (by simp) (by intro j u h; simp at h) (by intro u h; cases h) (by omega) (by intro j h; simp at h) (by intro j h; simp at h)
      simpa [World.setCells] using this
  · by_cases h0 : l.length = 0
    · obtain rfl : l = [] := List.length_eq_zero_iff.1 h0
      refine ⟨.slice (some ⟨g, 0, none⟩) 0 0, W, ?_, hnil, Below.refl _ _⟩
      have := run_append_room_cells (P := Tryz.prog) (w := W) 22 22 44 i0 ht hi g 0 0 0 ⟨b, o, none⟩ 0 c [] (by simp) (by intro j u h; simp at h) (by intro u h; cases h) (by omega) (by intro j h; simp at h) (by intro j h; simp at h)
      simpa [World.setCells] using this
    · obtain ⟨v', w', hr, h1, h2⟩ := run_append_arg_grows (P := Tryz.prog) (w := W) 22 22 44 i0 (.agg #[.int .i64 0, .int .i64 0]) 2 16 ht hi hz0 hz1 hz2 rfl (by decide) ⟨g, 0, none⟩ 0 0 [] (by simp) (by intro j u h; simp at h) ⟨b, o, none⟩ l.length c (flatP l) (by rw [flatP_len])
        (fun j u hu => by
          have e : (⟨b, o, none⟩ : Addr).add j = ⟨b, o + j, none⟩ := by unfold Addr.add; split <;> simp_all
          rw [e]
          have hj : j < l.length * 2 := by have := (List.getElem?_eq_some_iff.1 hu).1; rwa [flatP_len] at this
          obtain ⟨k, r, hk, hr⟩ : ∃ k r, j = k * 2 + r ∧ r < 2 := ⟨j / 2, j % 2, by omega, Nat.mod_lt _ (by decide)⟩
          have hkl : k < l.length := by omega
          obtain ⟨c0, c1⟩ := hc k hkl
          obtain ⟨f0, f1⟩ := flatP_at l k hkl
          subst hk
          match r, hr with
          | 0, _ =>
            rw [Nat.add_zero] at hu
            rw [Nat.add_zero, c0, ← hu, f0]
          | 1, _ => rw [← Nat.add_assoc, c1, ← hu, f1]) (by omega) (by simp [maxLen]; omega) (by omega)
      rw [List.nil_append, Nat.zero_add] at h1
      exact ⟨v', w', hr, owns_base h1 (by omega), (Below.refl _ _).grown h2 (Nat.le_refl _) (by intro k hk; cases hk)⟩
/-- More edges behind a row of one's own. -/
theorem appP {W : World} {base : Nat} {v : Value} {l news : List (Int × Int)} (h : W.ownsRow base 44 2 v l.length (flatP l)) {g : Nat} (hk : Blk W g (flatP news).toArray 44) (hl : l.length ≤ 100000) (hn : news.length ≤ 100) (hb : base ≤ W.heap.size) :
    ∃ q c w', (Builtin.append_ #[22, 22] 22 #[v, .slice (some ⟨g, 0, none⟩) news.length news.length]).run Tryz.prog W = .ok (.slice q (l.length + news.length) c) w' ∧ w'.ownsRow base 44 2 (.slice q (l.length + news.length) c) (l ++ news).length (flatP (l ++ news)) ∧ Below base W w' := by
  obtain ⟨i0, hi, hz0, hz1, hz2⟩ := info_parts infoPair
  obtain ⟨v', w', hr, h1, h2, -⟩ := run_append_own (P := Tryz.prog) W base 22 22 44 i0 (.agg #[.int .i64 0, .int .i64 0]) 2 16 Tryz.underlying22 hi hz0 hz1 hz2 rfl (by decide) v l.length (flatP l) h ⟨g, 0, none⟩ news.length news.length (flatP news) (flatP_len news)
    (fun j u hj => by
      rw [add0', hk.cell j (by rw [List.getElem?_toArray]; exact hj)]) (by
      intro u hu
      have key : ∀ (l : List (Int × Int)) (u : Value), u ∈ flatP l → u.oneCell' = true := by
        intro l
        induction l with
        | nil => intro u h; cases h
        | cons x r ih =>
          intro u h
          rw [flatP] at h
          rcases List.mem_cons.1 h with rfl | h
          · rfl
          · rcases List.mem_cons.1 h with rfl | h
            · rfl
            · exact ih u h
      exact key news u hu) (by simp [maxLen]; omega) (by omega) hb
  obtain ⟨q, c, rfl⟩ := own_shape h1
  refine ⟨q, c, w', hr, ?_, (Below.refl _ _).grown h2 hb (fun g hg => own_ge h g (by simpa using hg))⟩
  rw [List.length_append, flatP_app]
  exact h1
end Go.Proofs.YthfljimgpcignaaGreatDoor

/-
  What the line's texts want of rows: where a seat has the flow's texts, these have it.
-/
namespace Go.Proofs.YthfljimgpcignaaGreatDoor
end Go.Proofs.YthfljimgpcignaaGreatDoor
