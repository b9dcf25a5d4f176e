/-
  Shares of a row that falls: its ends, its half; sides that mark them.
-/
import Derived.Test.YtleheaffipokfaaLnG
namespace Go.Proofs.Ytleheaffipokfaa
open Go.RowKit Go.Sort

/-- N - 1, N - 2 .. -/
def dn (N k : Nat) : List Nat := (List.range k).map fun i => N - 1 - i
theorem dn_len (N k : Nat) : (dn N k).length = k := by simp [dn]
theorem dn_snoc (N k : Nat) : dn N (k + 1) = dn N k ++ [N - 1 - k] := by simp [dn, List.range_succ]
theorem dn_at {N k i : Nat} (h : i < k) : (dn N k)[i]? = some (N - 1 - i) := by simp [dn, h]
/-- The row so far, of one's own. -/
structure DnM (w : World) (N k : Nat) (v : Value) (wr : World) : Prop where
  r : wr.ownsRow w.heap.size 3 1 v k ((zN (dn N k)).map (Value.int .i64))
  b : Below w.heap.size w wr
theorem DnM.app {w wr wr' : World} {N k : Nat} {v : Value} (h : DnM w N k v wr) {J g : Nat} (hJ : N - 1 - k = J) (hb : Below wr.heap.size wr wr') (hg : Blk wr' g #[.int .i64 (J : Int)] 3) (hk : k ≤ 1000) :
    ∃ q c w', (Builtin.append_ #[26, 26] 26 #[v, .slice (some ⟨g, 0, none⟩) 1 1]).run Try.prog wr' = .ok (.slice q (k + 1) c) w' ∧ DnM w N (k + 1) (.slice q (k + 1) c) w' := by
  subst hJ
  have hs := h.b.size
  have h1 := own_below h.r hb
  obtain ⟨q, c, w', hr, h2, h3⟩ := app1 Try.underlying26 infoInt rfl rfl (by decide) h1 hg (by omega) (Nat.le_trans hs hb.size)
  refine ⟨q, c, w', hr, ?_, (bOn6 h.b hb).trans ((Below.refl _ _).grown h3 (Nat.le_trans hs hb.size) (fun g hg => own_ge h1 g (by simpa using hg)))⟩
  rw [dn_snoc]
  have e : (zN (dn N k ++ [N - 1 - k])).map (Value.int .i64) = (zN (dn N k)).map (Value.int .i64) ++ [.int .i64 ((N - 1 - k : Nat) : Int)] := by simp [zN]
  rw [e]
  exact h2
def DnRel (w : World) (N : Nat) (v iv : Value) (wr : World) : Prop := ∃ k : Nat, k ≤ N ∧ iv = .int .i64 k ∧ DnM w N k v wr

/-! ### the ends and the half -/
theorem zN_dn_take {N k : Nat} (h : k ≤ N) : (zN (dn N N)).take k = zN (dn N k) := by
  simp [zN, dn, ← List.map_take, List.take_range, Nat.min_eq_left h]
theorem dn_drop {N E : Nat} (h : E ≤ N) : (dn N N).drop (N - E) = (List.range E).map fun i => E - 1 - i := by
  refine List.ext_getElem (by simp [dn]; omega) fun i h1 h2 => ?_
  have hi : i < E := by simpa using h2
  simp [dn]
  omega
theorem zN_dn_drop {N E : Nat} (h : E ≤ N) : (zN (dn N N)).drop (N - E) = zN (dn E E) := by
  unfold zN
  rw [← List.map_drop, dn_drop h]
  rfl
theorem dn_mem {N k x : Nat} (h : x ∈ dn N k) : ∃ i, i < k ∧ x = N - 1 - i := by
  obtain ⟨i, hi, rfl⟩ := List.mem_map.1 h
  exact ⟨i, by simpa using hi, rfl⟩
theorem ends_apart {N E i : Nat} (h : 2 * E ≤ N) (hi : i < E) : placeL (zN (dn E E)) ((N - 1 - i : Nat) : Int) < 0 := by
  refine Int.not_le.1 fun hn => ?_
  have := (placeL_mem _ _).1 hn
  obtain ⟨y, hy, e⟩ := List.mem_map.1 this
  have e' : y = N - 1 - i := by exact_mod_cast e
  obtain ⟨j, hj, e2⟩ := dn_mem hy
  omega
/-! ### how many are marked -/
theorem setB_cnt_lo {S : List Bool} {N E : Nat} (hl : S.length = N) (hE : E ≤ N) (h : ∀ j, N - E ≤ j → j < N → S[j]? = some true) : E ≤ cntT S := by
  have e : S.drop (N - E) = List.replicate E true := List.ext_getElem? fun i => by
    rw [List.getElem?_drop, List.getElem?_replicate]
    by_cases hi : i < E
    · rw [if_pos hi]
      exact h _ (by omega) (by omega)
    · rw [if_neg hi, List.getElem?_eq_none (by omega)]
  rw [← List.take_append_drop (N - E) S]
  unfold cntT
  rw [List.countP_append, e, List.countP_replicate]
  simp
theorem setB_cnt_hi {S : List Bool} {N E : Nat} (hl : S.length = N) (_ : E ≤ N) (h : ∀ j, j < E → S[j]? = some false) : cntT S ≤ N - E := by
  have e : S.take E = List.replicate E false := List.ext_getElem? fun i => by
    rw [List.getElem?_take, List.getElem?_replicate]
    by_cases hi : i < E
    · rw [if_pos hi, if_pos hi]
      exact h _ hi
    · rw [if_neg hi, if_neg hi]
  have h1 : cntT (S.drop E) ≤ N - E := by
    have := cntT_le (S.drop E)
    rwa [List.length_drop, hl] at this
  have h2 : cntT S = cntT (S.take E) + cntT (S.drop E) := by
    rw [← List.take_append_drop E S]
    unfold cntT
    rw [List.countP_append, List.take_append_drop]
  rw [h2, e]
  unfold cntT at h1 ⊢
  rw [List.countP_replicate]
  simpa using h1
theorem fair_of {S : List Bool} {N X Y : Nat} (hN : 2 ≤ N) (hl : S.length = N) (hX : endN N ≤ X) (hY : endN N ≤ Y) (hXN : X ≤ N) (hYN : Y ≤ N) (h1 : ∀ j, N - X ≤ j → j < N → S[j]? = some true) (h2 : ∀ j, j < Y → S[j]? = some false) : fairL S = true := by
  have a := setB_cnt_lo hl hXN h1
  have b := setB_cnt_hi hl hYN h2
  unfold fairL
  rw [hl]
  have h0 : 0 < endN N := by unfold endN; split <;> omega
  simp only [Bool.and_eq_true, decide_eq_true_eq]
  omega
theorem unfair_small {S : List Bool} {N : Nat} (hN : N < 2) (hl : S.length = N) : fairL S = false := by
  unfold fairL
  rw [hl, show endN N = 0 from by unfold endN; rw [if_pos hN]]
  rfl
/-- The last k are marked. -/
structure HalfL (N k : Nat) (S : List Bool) : Prop where
  len : S.length = N
  hi : ∀ j, N - k ≤ j → j < N → S[j]? = some true
  lo : ∀ j, j < N - k → S[j]? = some false
theorem HalfL.start (N : Nat) : HalfL N 0 (List.replicate N false) := ⟨by simp, fun j h1 h2 => by omega, fun j h => by rw [List.getElem?_replicate, if_pos (by omega)]⟩
theorem HalfL.step {N k : Nat} {S : List Bool} (h : HalfL N k S) (hk : k < N) : HalfL N (k + 1) (S.set (N - 1 - k) true) := by
  have hl := h.len
  refine ⟨by rw [List.length_set]; exact h.len, fun j h1 h2 => ?_, fun j h1 => ?_⟩
  · by_cases e : N - 1 - k = j
    · rw [e, List.getElem?_set_self (by omega)]
    · rw [List.getElem?_set_ne e]
      exact h.hi j (by omega) h2
  · rw [List.getElem?_set_ne (by omega)]
    exact h.lo j (by omega)
/-- The last k are marked, and k below E are not. -/
structure SideL (N E k : Nat) (S : List Bool) : Prop where
  len : S.length = N
  hi : ∀ j, N - k ≤ j → j < N → S[j]? = some true
  lo : ∀ j, E - k ≤ j → j < E → S[j]? = some false
theorem SideL.start {N E : Nat} {S : List Bool} (h : S.length = N) : SideL N E 0 S := ⟨h, fun j h1 h2 => by omega, fun j h1 h2 => by omega⟩
theorem SideL.step {N E k : Nat} {S : List Bool} (h : SideL N E k S) (hk : k < E) (hE : 2 * E ≤ N) : SideL N E (k + 1) ((S.set (N - 1 - k) true).set (E - 1 - k) false) := by
  have hl := h.len
  refine ⟨by rw [List.length_set, List.length_set]; exact h.len, fun j h1 h2 => ?_, fun j h1 h2 => ?_⟩
  · rw [List.getElem?_set_ne (by omega)]
    by_cases e : N - 1 - k = j
    · rw [e, List.getElem?_set_self (by omega)]
    · rw [List.getElem?_set_ne e]
      exact h.hi j (by omega) h2
  · by_cases e : E - 1 - k = j
    · rw [e, List.getElem?_set_self (by rw [List.length_set]; omega)]
    · rw [List.getElem?_set_ne e, List.getElem?_set_ne (by omega)]
      exact h.lo j (by omega) h2
theorem HalfL.fair {N H : Nat} {S : List Bool} (h : HalfL N H S) (hN : 2 ≤ N) (hH : (N + 1) / 2 = H) : fairL S = true :=
  fair_of hN h.len (X := H) (Y := N - H) (by unfold endN; split <;> omega) (by unfold endN; split <;> omega) (by omega) (by omega) h.hi (fun j hj => h.lo j hj)
theorem SideL.fair {N E : Nat} {S : List Bool} (h : SideL N E E S) (hN : 2 ≤ N) (hE : endN N = E) : fairL S = true :=
  have h2 := (endN_le N).1
  fair_of hN h.len (X := E) (Y := E) (by omega) (by omega) (by omega) (by omega) h.hi (fun j hj => h.lo j (by omega) hj)
/-! ### both sides in memory -/
/-- Both sides' blocks; what lay ahead of them is as it was. -/
structure TwoB (W : World) (gs gh : Nat) (S H : List Bool) (wr : World) : Prop where
  s : Blk wr gs (bolB S) 4
  h : Blk wr gh (bolB H) 4
  ne : gs ≠ gh
  k : Keep (fun b => b < gs) W wr
  gh : gs ≤ gh
section
variable {W wr wr' : World} {gs gh : Nat} {S H : List Bool}
theorem TwoB.setS (h : TwoB W gs gh S H wr) (i : Nat) (x : Bool) : TwoB W gs gh (S.set i x) H (wr.setCell ⟨gs, i, none⟩ (.bool x)) := by
  refine ⟨?_, h.h.other _ _ h.ne.symm, h.ne, h.k.setCell (fun hb => by omega) _ _, h.gh⟩
  have := h.s.set i (.bool x)
  rwa [bolB_set] at this
theorem TwoB.setH (h : TwoB W gs gh S H wr) (i : Nat) (x : Bool) : TwoB W gs gh S (H.set i x) (wr.setCell ⟨gh, i, none⟩ (.bool x)) := by
  refine ⟨h.s.other _ _ h.ne, ?_, h.ne, h.k.setCell (fun hb => by have := h.gh; omega) _ _, h.gh⟩
  have := h.h.set i (.bool x)
  rwa [bolB_set] at this
theorem TwoB.old (h : TwoB W gs gh S H wr) (hb : Below wr.heap.size wr wr') : TwoB W gs gh S H wr' := ⟨h.s.keep hb, h.h.keep hb, h.ne, h.k.trans (Keep.of hb), h.gh⟩
theorem TwoB.cellS (h : TwoB W gs gh S H wr) {i : Nat} (hi : i < S.length) : (∃ u, wr.cell? ⟨gs, i, none⟩ = some u) ∧ wr.frozen? ⟨gs, i, none⟩ = false ∧ gs < wr.heap.size := ⟨⟨_, h.s.cell i (bolB_at hi)⟩, h.s.free i, h.s.lt⟩
theorem TwoB.cellH (h : TwoB W gs gh S H wr) {i : Nat} (hi : i < H.length) : (∃ u, wr.cell? ⟨gh, i, none⟩ = some u) ∧ wr.frozen? ⟨gh, i, none⟩ = false ∧ gh < wr.heap.size := ⟨⟨_, h.h.cell i (bolB_at hi)⟩, h.h.free i, h.h.lt⟩
end
def Rel2 (W : World) (gs gh N : Nat) (iv : Value) (wr : World) : Prop := ∃ (k : Nat) (S : List Bool), k ≤ N ∧ iv = .int .i64 k ∧ S.length = N ∧ TwoB W gs gh S (List.replicate N false) wr
def Rel3 (W : World) (gs gh N M : Nat) (S : List Bool) (iv : Value) (wr : World) : Prop := ∃ (k : Nat) (H : List Bool), k ≤ M ∧ iv = .int .i64 k ∧ HalfL N k H ∧ TwoB W gs gh S H wr
def Rel4 (W : World) (gs gh N E : Nat) (H : List Bool) (iv : Value) (wr : World) : Prop := ∃ (k : Nat) (S : List Bool), k ≤ E ∧ iv = .int .i64 k ∧ SideL N E k S ∧ TwoB W gs gh S H wr
end Go.Proofs.Ytleheaffipokfaa
