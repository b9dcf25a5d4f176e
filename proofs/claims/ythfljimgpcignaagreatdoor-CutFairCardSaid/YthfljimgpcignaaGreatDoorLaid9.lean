/-
  The listed variable: what a walk is told of it; a world in which it holds what is listed. Edges, numbers, marks, results that come in.
-/
import Derived.Test.YthfljimgpcignaaGreatDoorLift
import Derived.Test.YthfljimgpcignaaGreatDoorRows
import Derived.Test.YthfljimgpcignaaGreatDoorG30
import Derived.Test.YthfljimgpcignaaGreatDoorFlV
import Derived.Lib.SmallJoins
import Derived.Deep.Slices
import Derived.Deep.Grids
import Derived.OpenShut
namespace Go.Proofs.YthfljimgpcignaaGreatDoor
open Go.ChangeShapes Go.WideShapes Go.ChangeAt Go.RowKit Go.Joins Go.Deep

theorem et : Tryz.prog.globalNamed "errors.errorType" = some 0 := by kernel_rfl
theorem rt : (Tryz.prog.cutTypes.find? (·.1 == "internal/reflectlite.rtype")).map (·.2) = some 103 := by kernel_rfl
theorem oneRow : ((List.range 187).filter fun t => Tryz.prog.rowNamed t [101, 114, 114, 111, 114]) = [32] := by kernel_rfl
theorem typesSize : Tryz.prog.types.size = 187 := by kernel_rfl

/-- What is listed. -/
def laidAll : List (String × DataW Unit) := [("errors.errorType", Rows.laid_errors_errorType)]
/-- Of which make it is. -/
abbrev laidKindsAll : List LaidKind := [.handle]

theorem laid_parts {W : World} (h : laidMetH Tryz.prog laidAll W) : handlesMet Tryz.prog [("errors.errorType", Rows.laid_errors_errorType)] W := h.2

theorem errT_of_laid {W : World} (h : laidMetH Tryz.prog laidAll W) : ErrT W := by
  obtain ⟨name, u, ty, e1, e2, e3, e4, e5⟩ := (laid_parts h) _ (List.mem_singleton.2 rfl)
  have en : name = [101, 114, 114, 111, 114] := (Option.some.inj e1).symm
  subst en
  obtain rfl := Option.some.inj (rt.symm.trans e2)
  have hm : ty ∈ (List.range 187).filter fun t => Tryz.prog.rowNamed t [101, 114, 114, 111, 114] := List.mem_filter.2 ⟨List.mem_range.2 (by rw [← typesSize]; exact e3), e4⟩
  rw [oneRow] at hm
  obtain rfl := List.mem_singleton.1 hm
  have hh : typeHandle Tryz.prog 32 = .pointer (some ⟨1, 32, none⟩) := by kernel_rfl
  rw [hh] at e5
  unfold ErrT
  simpa using World.var?_cell et e5 0

/-- A world that meets the list: the settled one, the variable's cells laid. -/
noncomputable def laidWorld (os : Os) : World :=
  let w0 := World.holding Tryz.prog os ⟨#[], #[], []⟩
  { w0 with heap := w0.heap.modify 0 fun
      | .cells _ t frozen => .cells #[.iface 103 (.agg #[.pointer (some ⟨1, 32, none⟩)])] t frozen
      | o => o }
theorem laidWorld_met (os : Os) (args : Array Value) : laidMetH Tryz.prog laidAll ((laidWorld os).forCall (fun _ _ => 0) ⟨#[], args, []⟩).memory :=
  laidMetH_of_parts (laidMet_of_run' 8 (by kernel_rfl) (by kernel_rfl)) (by kernel_rfl)

set_option maxRecDepth 100000 in
/-- A row of numbers that came in. -/
theorem open_intsIn {H : Type} {enc : TypeId × Value → H} {W : World} {base : Nat} {v : Value} {d : DataW H} {p : List MemPlace} (hok : Value.okWide Tryz.prog W .any base 39 v) (h : DataW.Trod enc Tryz.prog W 0 (fun _ => true) true 39 v d p) :
    ∃ l, I64s W v l ∧ In64 l := by
  obtain ⟨a, len, cap, rfl⟩ := okWide_slice Tryz.underlying39 hok
  obtain ⟨fuel, hf⟩ := h
  rcases open_ints Tryz.underlying39 Tryz.underlying3 (by kernel_rfl) hf with ⟨hcs, _⟩ | ⟨x, l, c, zs, hcs, _, hl, hm, hz, _, hcell, hwz⟩
  · simp [Value.cells] at hcs
    obtain ⟨rfl, rfl, rfl⟩ := hcs
    exact ⟨[], Or.inl ⟨rfl, _, _, rfl, fun _ => rfl⟩, by intro x hx; cases hx⟩
  · simp [Value.cells] at hcs
    obtain ⟨rfl, rfl, rfl⟩ := hcs
    have hz' : zs.length = cap := by simpa using hz
    unfold maxLen at hm
    have hin : In64 (zs.take len) := fun y hy => wf64 (hwz y (List.mem_of_mem_take hy))
    have hlen : (zs.take len).length = len := by rw [List.length_take]; omega
    rcases Nat.eq_zero_or_pos len with h0 | h0
    · subst h0
      exact ⟨[], Or.inl ⟨rfl, _, _, rfl, fun h => by cases h⟩, by intro x hx; cases hx⟩
    · have hs : x.spot = none := World.cell?_spot (hcell 0 (by omega))
      obtain ⟨xb, xo, xs⟩ := x
      have hs' : xs = none := hs
      subst hs'
      refine ⟨zs.take len, Or.inr ⟨by omega, xb, xo, cap, by omega, by omega, by rw [hlen], fun i hi => ?_⟩, hin⟩
      have := hcell i (by omega)
      rw [List.getElem_take]
      rw [List.getD_eq_getElem?_getD, List.getElem?_eq_getElem (by omega)] at this
      rcases Nat.eq_zero_or_pos i with rfl | h1
      · simpa [Addr.add] using this
      · have h2 : ¬ i = 0 := by omega
        simpa [Addr.add, h2] using this

theorem add0 (xb xo j : Nat) : (⟨xb, xo, none⟩ : Addr).add j = ⟨xb, xo + j, none⟩ := by unfold Addr.add; split <;> simp_all
theorem pairCells : Tryz.prog.cellsOf 44 = 2 := by kernel_rfl
theorem intCells : Tryz.prog.cellsOf 3 = 1 := by kernel_rfl
section
variable {H : Type} {enc : TypeId × Value → H} {W : World}
set_option maxRecDepth 100000 in
/-- Edges. -/
theorem open_edges0 {a : Option Addr} {len cap fuel : Nat} {y : DataW H × List MemPlace} (h : DataW.trod enc Tryz.prog W 0 (fun _ => true) true fuel 22 [.slice a len cap] = some y) :
    ∃ l, Prs W (.slice a len cap) l ∧ InPrs l := by
  rcases open_slice Tryz.underlying22 h with ⟨hcs, _⟩ | ⟨ad, len', cap', m, n, D, Pl, hcs, _, hl, hm, hmm, _, hi⟩
  · simp at hcs
    obtain ⟨rfl, rfl, rfl⟩ := hcs
    exact ⟨[], Or.inl ⟨rfl, _, _, rfl, fun _ => rfl⟩, by intro x hx; cases hx⟩
  · simp at hcs
    obtain ⟨rfl, rfl, rfl⟩ := hcs
    have key : ∀ i, i < len → ∃ x : Int × Int, (W.cell? (ad.add (i * 2)) = some (.int .i64 x.1) ∧ W.cell? (ad.add (i * 2 + 1)) = some (.int .i64 x.2)) ∧
        (-9223372036854775808 ≤ x.1 ∧ x.1 ≤ 9223372036854775807) ∧ (-9223372036854775808 ≤ x.2 ∧ x.2 ≤ 9223372036854775807) := by
      intro i hlt
      obtain ⟨cs', hc, ht'⟩ := hi i (by simp at hmm; omega)
      rw [pairCells] at hc
      obtain ⟨_, hcl, hat⟩ := World.cells?_some hc
      obtain ⟨xs, n', _, _, _, hxl, hf⟩ := DataW.trod_array Tryz.underlying44 ht'
      match cs', hcl, xs, hxl with
      | [c0, c1], _, [y0, y1], _ =>
        have g0 := hf 0 (by decide)
        have g1 := hf 1 (by decide)
        rw [intCells] at g0 g1
        simp at g0 g1
        obtain ⟨x0, e0, -, w0⟩ := DataW.trod_int Tryz.underlying3 g0
        obtain ⟨x1, e1, -, w1⟩ := DataW.trod_int Tryz.underlying3 g1
        simp at e0 e1
        subst e0
        subst e1
        have h0 := hat 0 (by omega)
        have h1 := hat 1 (by omega)
        rw [add_add] at h0 h1
        exact ⟨(x0, x1), ⟨h0, h1⟩, wf64 w0, wf64 w1⟩
    have hall : ∃ g : Nat → Int × Int, ∀ i, i < len → (W.cell? (ad.add (i * 2)) = some (.int .i64 (g i).1) ∧ W.cell? (ad.add (i * 2 + 1)) = some (.int .i64 (g i).2)) ∧
        (-9223372036854775808 ≤ (g i).1 ∧ (g i).1 ≤ 9223372036854775807) ∧ (-9223372036854775808 ≤ (g i).2 ∧ (g i).2 ≤ 9223372036854775807) :=
      ⟨fun i => if h : i < len then (key i h).choose else (0, 0), fun i hlt => by simp only [hlt, dif_pos]; exact (key i hlt).choose_spec⟩
    obtain ⟨g, hg⟩ := hall
    have hlen : ((List.range len).map g).length = len := by simp
    refine ⟨(List.range len).map g, ?_, fun x hx => ?_⟩
    · rcases Nat.eq_zero_or_pos len with h0 | h0
      · subst h0
        obtain ⟨xb, xo, xs⟩ := ad
        exact Or.inl ⟨rfl, _, _, rfl, fun h => by cases h⟩
      · have hs : ad.spot = none := by
          have := World.cell?_spot (hg 0 h0).1.1
          simpa [Addr.add] using this
        obtain ⟨xb, xo, xs⟩ := ad
        have hs' : xs = none := hs
        subst hs'
        unfold maxLen at hm
        refine Or.inr ⟨by omega, xb, xo, cap, by omega, by omega, by rw [hlen], fun i hi' => ?_⟩
        have hi2 : i < len := by omega
        have hgi : ((List.range len).map g)[i] = g i := by simp
        rw [hgi]
        have := (hg i hi2).1
        rw [add0, add0] at this
        simpa [Nat.add_assoc] using this
    · obtain ⟨i, hi', rfl⟩ := List.mem_map.1 hx
      exact (hg i (List.mem_range.1 hi')).2
set_option maxRecDepth 100000 in
theorem open_edges {base : Nat} {v : Value} {d : DataW H} {p : List MemPlace} (hok : Value.okWide Tryz.prog W .any base 22 v) (h : DataW.Trod enc Tryz.prog W 0 (fun _ => true) true 22 v d p) : ∃ l, Prs W v l ∧ InPrs l := by
  obtain ⟨a, len, cap, rfl⟩ := okWide_slice Tryz.underlying22 hok
  obtain ⟨fuel, hf⟩ := h
  exact open_edges0 (by simpa [Value.cells] using hf)
set_option maxRecDepth 100000 in
/-- Marks. -/
theorem open_marks0 {a : Option Addr} {len cap fuel : Nat} {y : DataW H × List MemPlace} (h : DataW.trod enc Tryz.prog W 0 (fun _ => true) true fuel 23 [.slice a len cap] = some y) :
    ∃ l, Bools W (.slice a len cap) l := by
  rcases Go.Deep.open_bools Tryz.underlying23 Tryz.underlying4 (by kernel_rfl) h with ⟨hcs, _⟩ | ⟨ad, len', cap', B, hcs, _, hl, hm, _, hi⟩
  · simp at hcs
    obtain ⟨rfl, rfl, rfl⟩ := hcs
    exact ⟨[], Or.inl ⟨rfl, _, _, rfl, fun _ => rfl⟩⟩
  · simp at hcs
    obtain ⟨rfl, rfl, rfl⟩ := hcs
    have hlen : ((List.range len).map B).length = len := by simp
    refine ⟨(List.range len).map B, ?_⟩
    rcases Nat.eq_zero_or_pos len with h0 | h0
    · subst h0
      exact Or.inl ⟨rfl, _, _, rfl, fun h => by cases h⟩
    · have hs : ad.spot = none := by
        have := World.cell?_spot (hi 0 (by omega))
        simpa [Addr.add] using this
      obtain ⟨xb, xo, xs⟩ := ad
      have hs' : xs = none := hs
      subst hs'
      unfold maxLen at hm
      refine Or.inr ⟨by omega, xb, xo, cap, by omega, by omega, by rw [hlen], fun i hi' => ?_⟩
      have hi2 : i < len := by omega
      have := hi i (by omega)
      rw [add0] at this
      simpa using this
set_option maxRecDepth 100000 in
theorem open_marks {base : Nat} {v : Value} {d : DataW H} {p : List MemPlace} (hok : Value.okWide Tryz.prog W .any base 23 v) (h : DataW.Trod enc Tryz.prog W 0 (fun _ => true) true 23 v d p) : ∃ l, Bools W v l := by
  obtain ⟨a, len, cap, rfl⟩ := okWide_slice Tryz.underlying23 hok
  obtain ⟨fuel, hf⟩ := h
  exact open_marks0 (by simpa [Value.cells] using hf)
end
set_option maxRecDepth 100000 in
theorem open_row0 {H : Type} {enc : TypeId × Value → H} {W : World} {a : Option Addr} {len cap fuel : Nat} {y : DataW H × List MemPlace} (hf : DataW.trod enc Tryz.prog W 0 (fun _ => true) true fuel 39 [.slice a len cap] = some y) :
    ∃ l, I64s W (.slice a len cap) l ∧ In64 l := by
  rcases open_ints Tryz.underlying39 Tryz.underlying3 (by kernel_rfl) hf with ⟨hcs, _⟩ | ⟨x, l, c, zs, hcs, _, hl, hm, hz, _, hcell, hwz⟩
  · simp at hcs
    obtain ⟨rfl, rfl, rfl⟩ := hcs
    exact ⟨[], Or.inl ⟨rfl, _, _, rfl, fun _ => rfl⟩, by intro x hx; cases hx⟩
  · simp at hcs
    obtain ⟨rfl, rfl, rfl⟩ := hcs
    have hz' : zs.length = cap := by simpa using hz
    unfold maxLen at hm
    have hin : In64 (zs.take len) := fun y hy => wf64 (hwz y (List.mem_of_mem_take hy))
    have hlen : (zs.take len).length = len := by rw [List.length_take]; omega
    rcases Nat.eq_zero_or_pos len with h0 | h0
    · subst h0
      exact ⟨[], Or.inl ⟨rfl, _, _, rfl, fun h => by cases h⟩, by intro x hx; cases hx⟩
    · have hs : x.spot = none := World.cell?_spot (hcell 0 (by omega))
      obtain ⟨xb, xo, xs⟩ := x
      have hs' : xs = none := hs
      subst hs'
      refine ⟨zs.take len, Or.inr ⟨by omega, xb, xo, cap, by omega, by omega, by rw [hlen], fun i hi => ?_⟩, hin⟩
      have := hcell i (by omega)
      rw [List.getElem_take]
      rw [List.getD_eq_getElem?_getD, List.getElem?_eq_getElem (by omega)] at this
      rcases Nat.eq_zero_or_pos i with rfl | h1
      · simpa [Addr.add] using this
      · have h2 : ¬ i = 0 := by omega
        simpa [Addr.add, h2] using this

end Go.Proofs.YthfljimgpcignaaGreatDoor
