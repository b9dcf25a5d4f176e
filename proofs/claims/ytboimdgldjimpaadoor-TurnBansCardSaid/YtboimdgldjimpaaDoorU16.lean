/-
  Rows of 16-bit numbers that came in; tables without a forbidden turn, and with one more.
-/
import Derived.Test.YtboimdgldjimpaaDoorOwnT
import Derived.Test.YtboimdgldjimpaaDoorLaid2
namespace Go.Proofs.YtboimdgldjimpaaDoor
open Go.ChangeShapes Go.WideShapes Go.ChangeAt Go.RowKit Go.Joins

/-- The value v is a row of 16-bit numbers, read in world w. -/
def U16s (w : World) (v : Value) (l : List Int) : Prop :=
  (l = [] ∧ ∃ p c, v = .slice p 0 c) ∨ (l.length ≤ 9223372036854775807 ∧ ∃ b o c, v = .slice (some ⟨b, o, none⟩) l.length c ∧ ∀ i (h : i < l.length), w.cell? ⟨b, o + i, none⟩ = some (.int .u16 l[i]))
def InU16 (l : List Int) : Prop := ∀ x ∈ l, 0 ≤ x ∧ x ≤ 65535
theorem wfu16 {a : Int} (h : (Lit.int .u16 a).wf = true) : 0 ≤ a ∧ a ≤ 65535 := by
  simpa [Lit.wf, IntKind.min, IntKind.max, IntKind.signed, IntKind.bits] using h
theorem U16s.shape {w : World} {v : Value} {l : List Int} (h : U16s w v l) : ∃ q c, v = .slice q l.length c := by
  rcases h with ⟨rfl, p, c, rfl⟩ | ⟨_, b, o, c, rfl, _⟩
  · exact ⟨p, c, rfl⟩
  · exact ⟨_, c, rfl⟩
theorem U16s.below {w w' : World} {v : Value} {l : List Int} (h : U16s w v l) (hb : Below w.heap.size w w') : U16s w' v l := by
  rcases h with h | ⟨hl, b, o, c, rfl, hc⟩
  · exact Or.inl h
  · exact Or.inr ⟨hl, b, o, c, rfl, fun i hi => (hb.cell (World.block_lt_of_cell? w _ (hc i hi))).trans (hc i hi)⟩

set_option maxRecDepth 100000 in
theorem open_u16s {H : Type} {enc : TypeId × Value → H} {W : World} {base : Nat} {v : Value} {d : DataW H} {p : List MemPlace} (hok : Value.okWide Tryd.prog W .any base 55 v) (h : DataW.Trod enc Tryd.prog W 0 (fun _ => true) true 55 v d p) :
    ∃ l, U16s W v l ∧ InU16 l := by
  obtain ⟨a, len, cap, rfl⟩ := okWide_slice Tryd.underlying55 hok
  obtain ⟨fuel, hf⟩ := h
  rcases open_ints Tryd.underlying55 Tryd.underlying56 (by kernel_rfl) hf with ⟨hcs, _⟩ | ⟨x, l, c, zs, hcs, _, hl, hm, hz, _, hcell, hwz⟩
  · simp [Value.cells] at hcs
    obtain ⟨rfl, rfl, rfl⟩ := hcs
    exact ⟨[], Or.inl ⟨rfl, _, _, rfl⟩, by intro x hx; cases hx⟩
  · simp [Value.cells] at hcs
    obtain ⟨rfl, rfl, rfl⟩ := hcs
    have hz' : zs.length = cap := by simpa using hz
    unfold maxLen at hm
    have hin : InU16 (zs.take len) := fun y hy => wfu16 (hwz y (List.mem_of_mem_take hy))
    have hlen : (zs.take len).length = len := by rw [List.length_take]; omega
    rcases Nat.eq_zero_or_pos len with h0 | h0
    · subst h0
      exact ⟨[], Or.inl ⟨rfl, _, _, rfl⟩, by intro x hx; cases hx⟩
    · have hs : x.spot = none := World.cell?_spot (hcell 0 (by omega))
      obtain ⟨xb, xo, xs⟩ := x
      have hs' : xs = none := hs
      subst hs'
      refine ⟨zs.take len, Or.inr ⟨by omega, xb, xo, cap, by rw [hlen], fun i hi => ?_⟩, hin⟩
      have := hcell i (by omega)
      rw [List.getElem_take]
      rw [List.getD_eq_getElem?_getD, List.getElem?_eq_getElem (by omega)] at this
      rcases Nat.eq_zero_or_pos i with rfl | h1
      · simpa [Addr.add] using this
      · have h2 : ¬ i = 0 := by omega
        simpa [Addr.add, h2] using this

/-- A table that may be has costs that a machine's number holds. -/
theorem in64_chk {I O : Int} {l : List Int} (h : chkT I O l = (0, 0)) : In64 l := by
  obtain ⟨-, -, -, -, -, hall⟩ := chkT_ok (I := I) (O := O) (l := l) (by rw [h])
  intro x hx
  have := wgt_in (List.all_eq_true.1 hall x hx)
  omega
/-- Free, where there is one. -/
theorem tfree_is (I O : Int) (m : List Int) (w : World) (h0 : 0 ≤ I ∧ I ≤ 16) (h1 : 0 ≤ O ∧ O ≤ 16) (hm : List.replicate (I * O).toNat 0 = m) :
    Calls Tryd.prog 22 #[.int .i64 I, .int .i64 O] w fun e w' => ∃ tv, e = .returned (.tuple #[tv, .nilIface]) ∧ TabV w' tv I O m ∧ Below w.heap.size w w' := by
  subst hm
  refine (tfree_any I O w).mono ?_
  have e : freeS I O = ((I, O, List.replicate (I * O).toNat 0), (0, 0)) := by
    unfold freeS
    rw [if_neg (by omega), if_neg (by omega)]
  rw [e]
  rintro ev w' ⟨tv, v, rfl, hT, hF, hb⟩
  obtain rfl := FaultV.none (show FaultV w' v [] 0 from hF)
  exact ⟨tv, rfl, hT, hb⟩
/-- One more is forbidden. -/
theorem bans_more {I O : Int} {l : List Int} {x y : Int} (hn : (l.length : Int) = I * O) (hx : 0 ≤ x ∧ x < I ∧ 0 ≤ y ∧ y < O) :
    bansC (l.set (x * O + y).toNat 1152921504606846976) = if turnAt I O l x y = 1152921504606846976 then bansC l else bansC l + 1 := by
  obtain ⟨p0, p1⟩ := place_lt hn hx
  have ht : turnAt I O l x y = l.getD (x * O + y).toNat 0 := by unfold turnAt; rw [if_neg (by omega)]
  rw [bansC_set _ _ (by omega), ht, if_pos rfl]
  split <;> omega
/-- A place, as an in and an out. -/
theorem place_of {N M Z : Int} (hM : 0 < M) (hZ : 0 ≤ Z ∧ Z < N * M) : 0 ≤ Z / M ∧ Z / M < N ∧ 0 ≤ Z % M ∧ Z % M < M :=
  ⟨Int.ediv_nonneg hZ.1 (by omega), Int.ediv_lt_of_lt_mul hM hZ.2, Int.emod_nonneg _ (by omega), Int.emod_lt_of_pos _ hM⟩

end Go.Proofs.YtboimdgldjimpaaDoor
