/-
  The document's small things: the place in a row; are two rows of marks the same; how many edges leave a set.
-/
import Derived.Test.YtleheaffipokfaaDoorFlQ
import Derived.Test.YtleheaffipokfaaDoorNetM
namespace Go.Proofs.YtleheaffipokfaaDoor
open Go.RowKit

theorem ret_intD {a b : Int} (h : a = b) : Ending.returned (.int .i64 a) = .returned (.int .i64 b) := by rw [h]
set_option maxHeartbeats 1000000 in
set_option maxRecDepth 100000 in
theorem rplace_any (u : Value) (l : List Int) (a : Int) (w : World) (h : I64s w u l) :
    Calls Tryd.prog 21 #[u, .int .i64 a] w fun e w' => e = .returned (.int .i64 (placeL l a)) ∧ w = w' := by
  unfold placeL
  rcases h with ⟨rfl, p, c, rfl, -⟩ | ⟨hl, b, o, c, -, -, rfl, hc⟩
  · go_enter Tryd.func21, Tryd.ntmps21
    go_wp2
    refine wp_loop_rounds 1 ?_
    rw [rounds_succ]
    go_wp2
    go_ret
    exact ⟨rfl, rfl⟩
  have HC := Lib.hid hc
  clear hc
  go_enter Tryd.func21, Tryd.ntmps21
  go_wp2
  go_loop [5] (fun i => ∃ k : Nat, k ≤ l.length ∧ i = .int .i64 k ∧ Hid (∀ y ∈ l.take k, y ≠ a)) (fun i => l.length - (intOf i).toNat)
  case atStart => exact ⟨0, Nat.zero_le _, rfl, Lib.hid (by simp)⟩
  case round =>
    obtain ⟨k, hk, rfl, HN⟩ := hrel
    by_cases hlt : k < l.length
    · have g := HC.out k hlt
      have hb := World.block_lt_of_cell? w _ g
      obtain ⟨A, eA⟩ : ∃ A, l[k] = A := ⟨_, rfl⟩
      have HT := Lib.hid (List.take_succ_eq_append_getElem hlt)
      have HD : Hid (l = l.take k ++ A :: l.drop (k + 1)) := Lib.hid (by rw [← eA, List.getElem_cons_drop, List.take_append_drop])
      rw [eA] at g HT
      clear eA
      by_cases hv : A = a
      · have hv' : (A == a) = true := by simpa using hv
        have HR : Hid (placeFrom 0 l a = (k : Int)) := Lib.hid (by
          conv => lhs; rw [HD.out]
          rw [placeFrom_at _ _ _ _ _ HN.out hv, List.length_take, Nat.min_eq_left (by omega), Int.zero_add])
        go_wp2
        go_ret
        exact ⟨ret_intD HR.out.symm, rfl⟩
      · have hv' : (A == a) = false := by simpa using hv
        have HN' : Hid (∀ y ∈ l.take (k + 1), y ≠ a) := Lib.hid (by
          rw [HT.out]
          intro y hy
          rcases List.mem_append.1 hy with h | h
          · exact HN.out y h
          · rw [List.mem_singleton.1 h]; exact hv)
        clear HN HT HD
        go_wp2
        go_round
        case rel => exact ⟨k + 1, by omega, by go_num, HN'⟩
        case measure => simp [intOf]; omega
    · have HR : Hid (placeFrom 0 l a = -1) := Lib.hid (placeFrom_none _ _ _ (by have := HN.out; rwa [List.take_of_length_le (by omega)] at this))
      go_wp2
      go_ret
      exact ⟨ret_intD HR.out.symm, rfl⟩

theorem placeL_mem (l : List Int) (a : Int) : 0 ≤ placeL l a ↔ a ∈ l := by
  constructor
  · intro h
    refine Classical.byContradiction fun hn => ?_
    have := placeFrom_none 0 l a (fun y hy e => hn (e ▸ hy))
    unfold placeL at h
    omega
  · intro h
    unfold placeL
    have key : ∀ (l : List Int) (k : Int), 0 ≤ k → a ∈ l → 0 ≤ placeFrom k l a := by
      intro l
      induction l with
      | nil => intro k _ h; cases h
      | cons y s ih =>
        intro k hk h
        unfold placeFrom
        split
        · exact hk
        · next hne =>
          rcases List.mem_cons.1 h with h | h
          · exact absurd h.symm hne
          · exact ih (k + 1) (by omega) h
    exact key l 0 (Int.le_refl _) h
set_option maxHeartbeats 2000000 in
set_option maxRecDepth 100000 in
theorem sameB_is {w : World} {u v : Value} {L M : List Bool} (hu : Bools w u L) (hv : Bools w v M) {b : Bool} (hb : decide (L = M) = b) :
    Calls Tryd.prog 10 #[u, v] w fun e w' => e = .returned (.bool b) ∧ Below w.heap.size w w' := by
  subst hb
  obtain ⟨uq, uc, rfl⟩ := hu.shape
  obtain ⟨vq, vc, rfl⟩ := hv.shape
  have HU := Lib.hid hu
  have HV := Lib.hid hv
  have hul := hu.le
  clear hu hv
  by_cases hl : L.length = M.length
  case neg =>
    have hd : decide (L = M) = false := by simp; intro e; exact hl (by rw [e])
    rw [hd]
    have hne : ((L.length : Int) != (M.length : Int)) = true := by simp; omega
    go_enter Tryd.func10, Tryd.ntmps10
    go_wp2_with fail
    go_ret
    exact ⟨rfl, Below.refl _ _⟩
  have hne : ((L.length : Int) != (M.length : Int)) = false := by simp; omega
  have HL := Lib.hid hl
  obtain ⟨R, hR⟩ : ∃ R, decide (L = M) = R := ⟨_, rfl⟩
  rw [hR]
  have HR := Lib.hid hR
  clear hl hR
  go_enter Tryd.func10, Tryd.ntmps10
  go_wp2_with fail
  go_loopw [5] (fun iv wr => ∃ k : Nat, k ≤ L.length ∧ iv = .int .i64 k ∧ Hid (L.take k = M.take k) ∧ Hid (Below w.heap.size w wr)) (fun iv _ => L.length - (intOf iv).toNat)
  case atStart => exact ⟨0, Nat.zero_le _, rfl, Lib.hid (by simp), Lib.hid (Below.refl _ _)⟩
  case round =>
    obtain ⟨k, hk, rfl, HK, HB⟩ := hrel
    by_cases hlt : k < L.length
    · have hki : (k : Int) < (L.length : Int) := by omega
      have hlm : k < M.length := by rw [← HL.out]; exact hlt
      have hkm : (k : Int) < (M.length : Int) := by omega
      obtain ⟨ub, uo, rfl, uc1⟩ := (HU.out.below HB.out).at hlt
      obtain ⟨vb, vo, rfl, vc1⟩ := (HV.out.below HB.out).at hlm
      have h1 := World.block_lt_of_cell? wr _ uc1
      have h2 := World.block_lt_of_cell? wr _ vc1
      have HT1 : Hid (L.take (k + 1) = L.take k ++ [L[k]]) := Lib.hid (List.take_succ_eq_append_getElem hlt)
      have HT2 : Hid (M.take (k + 1) = M.take k ++ [M[k]]) := Lib.hid (List.take_succ_eq_append_getElem hlm)
      have HNE : Hid (L[k] ≠ M[k] → R = false) := Lib.hid fun h => by
        rw [← HR.out]
        simp
        intro e
        subst e
        exact h rfl
      generalize L[k] = x at uc1 HT1 HNE
      generalize M[k] = y at vc1 HT2 HNE
      by_cases hxy : x = y
      · subst hxy
        have hb : (x != x) = false := by simp
        have HN : Hid (L.take (k + 1) = M.take (k + 1)) := Lib.hid (by rw [HT1.out, HT2.out, HK.out])
        clear HNE HT1 HT2
        go_wp2_with fail
        go_quiet (fail)
        have HBN : Hid (Below w.heap.size w (wr.drewN nq)) := Lib.hid (below_drewN HB.out nq)
        go_wp2_with fail
        go_roundw
        case rel => exact ⟨k + 1, hlt, by go_num, HN, HBN⟩
        case measure => simp [intOf]; omega
      · have hb : (x == y) = false := by simpa using hxy
        have hRf := HNE.out hxy
        subst hRf
        clear hxy HNE
        go_wp2_with fail
        go_quiet (fail)
        have HBN : Hid (Below w.heap.size w (wr.drewN nq)) := Lib.hid (below_drewN HB.out nq)
        go_wp2_with fail
        go_ret
        exact ⟨rfl, HBN.out⟩
    · obtain rfl : k = L.length := by omega
      have hRt : R = true := by
        rw [← HR.out]
        have := HK.out
        rw [List.take_length, HL.out, List.take_length] at this
        simpa using this
      subst hRt
      go_wp2_with fail
      go_ret
      exact ⟨rfl, HB.out⟩
/-- .. of the first k edges. -/
def crossTo (S : VSet) (E : Edg) (k : Nat) : Int := sumN (fun i => b1 (S (eL E i).1 != S (eL E i).2)) k
theorem crossTo_succ (S : VSet) (E : Edg) (k : Nat) : crossTo S E (k + 1) = crossTo S E k + b1 (S (eL E k).1 != S (eL E k).2) := rfl
theorem crossTo_bd (S : VSet) (E : Edg) : ∀ k : Nat, 0 ≤ crossTo S E k ∧ crossTo S E k ≤ k
  | 0 => ⟨Int.le_refl _, Int.le_refl _⟩
  | k + 1 => by
    have := crossTo_bd S E k
    rw [crossTo_succ]
    unfold b1
    split <;> omega
end Go.Proofs.YtleheaffipokfaaDoor
