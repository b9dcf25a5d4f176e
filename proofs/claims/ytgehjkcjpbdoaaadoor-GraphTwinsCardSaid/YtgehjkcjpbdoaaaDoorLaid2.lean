/-
  The listed variable: what a walk is told of it; a world in which it holds what is listed. Tables that come in.
-/
import Derived.Test.YtgehjkcjpbdoaaaDoorLift
import Derived.Test.YtgehjkcjpbdoaaaDoorRows
import Derived.Test.YtgehjkcjpbdoaaaDoorTells
import Derived.Test.YtgehjkcjpbdoaaaDoorA2
import Derived.Lib.SmallJoins
namespace Go.Proofs.YtgehjkcjpbdoaaaDoor
open Go.ChangeShapes Go.WideShapes Go.ChangeAt Go.RowKit Go.Joins

theorem et : Tryd.prog.globalNamed "errors.errorType" = some 0 := by kernel_rfl
theorem rt : (Tryd.prog.cutTypes.find? (·.1 == "internal/reflectlite.rtype")).map (·.2) = some 147 := by kernel_rfl
theorem oneRow : ((List.range 192).filter fun t => Tryd.prog.rowNamed t [101, 114, 114, 111, 114]) = [38] := by kernel_rfl
theorem typesSize : Tryd.prog.types.size = 192 := by kernel_rfl

/-- What is listed. -/
def laidAll : List (String × DataW Unit) := [("errors.errorType", Rows.laid_errors_errorType)]
/-- Of which make it is. -/
abbrev laidKindsAll : List LaidKind := [.handle]

theorem laid_parts {W : World} (h : laidMetH Tryd.prog laidAll W) : handlesMet Tryd.prog [("errors.errorType", Rows.laid_errors_errorType)] W := h.2

theorem errT_of_laid {W : World} (h : laidMetH Tryd.prog laidAll W) : ErrT W := by
  obtain ⟨name, u, ty, e1, e2, e3, e4, e5⟩ := (laid_parts h) _ (List.mem_singleton.2 rfl)
  have en : name = [101, 114, 114, 111, 114] := (Option.some.inj e1).symm
  subst en
  obtain rfl := Option.some.inj (rt.symm.trans e2)
  have hm : ty ∈ (List.range 192).filter fun t => Tryd.prog.rowNamed t [101, 114, 114, 111, 114] := List.mem_filter.2 ⟨List.mem_range.2 (by rw [← typesSize]; exact e3), e4⟩
  rw [oneRow] at hm
  obtain rfl := List.mem_singleton.1 hm
  have hh : typeHandle Tryd.prog 38 = .pointer (some ⟨1, 38, none⟩) := by kernel_rfl
  rw [hh] at e5
  unfold ErrT
  simpa using World.var?_cell et e5 0

/-- A world that meets the list: the settled one, the variable's cells laid. -/
noncomputable def laidWorld (os : Os) : World :=
  let w0 := World.holding Tryd.prog os ⟨#[], #[], []⟩
  { w0 with heap := w0.heap.modify 0 fun
      | .cells _ t frozen => .cells #[.iface 147 (.agg #[.pointer (some ⟨1, 38, none⟩)])] t frozen
      | o => o }
theorem laidWorld_met (os : Os) (args : Array Value) : laidMetH Tryd.prog laidAll ((laidWorld os).forCall (fun _ _ => 0) ⟨#[], args, []⟩).memory :=
  laidMetH_of_parts (laidMet_of_run' 8 (by kernel_rfl) (by kernel_rfl)) (by kernel_rfl)

set_option maxRecDepth 100000 in
theorem open_row64 {H : Type} {enc : TypeId × Value → H} {W : World} {a : Option Addr} {len cap fuel : Nat} {y : DataW H × List MemPlace} (hf : DataW.trod enc Tryd.prog W 0 (fun _ => true) true fuel 75 [.slice a len cap] = some y) :
    ∃ l, I64s W (.slice a len cap) l ∧ In64 l := by
  rcases open_ints Tryd.underlying75 Tryd.underlying2 (by kernel_rfl) hf with ⟨hcs, _⟩ | ⟨x, l, c, zs, hcs, _, hl, hm, hz, _, hcell, hwz⟩
  · simp at hcs
    obtain ⟨rfl, rfl, rfl⟩ := hcs
    exact ⟨[], Or.inl ⟨rfl, _, _, rfl, fun _ => rfl⟩, by intro x hx; cases hx⟩
  · simp at hcs
    obtain ⟨rfl, rfl, rfl⟩ := hcs
    have hz' : zs.length = cap := by simpa using hz
    unfold maxLen at hm
    have hin : In64 (zs.take len) := fun y hy => wf64 (hwz y (List.mem_of_mem_take hy))
    have hlen : (zs.take len).length = len := by rw [List.length_take]; omega
    rcases Nat.eq_zero_or_pos len with h0 | h0
    · subst h0
      exact ⟨[], Or.inl ⟨rfl, _, _, rfl, fun h => by cases h⟩, by intro x hx; cases hx⟩
    · have hs : x.spot = none := World.cell?_spot (hcell 0 (by omega))
      obtain ⟨xb, xo, xs⟩ := x
      have hs' : xs = none := hs
      subst hs'
      refine ⟨zs.take len, Or.inr ⟨by omega, xb, xo, cap, by omega, by omega, by rw [hlen], fun i hi => ?_⟩, hin⟩
      have := hcell i (by omega)
      rw [List.getElem_take]
      rw [List.getD_eq_getElem?_getD, List.getElem?_eq_getElem (by omega)] at this
      rcases Nat.eq_zero_or_pos i with rfl | h1
      · simpa [Addr.add] using this
      · have h2 : ¬ i = 0 := by omega
        simpa [Addr.add, h2] using this

/-- What is wrong, out of a Wrong that lies in no memory. -/
theorem field_err (q : Option Addr) (n c : Nat) (e : Int) (w : World) : (Instr.field 65 (.agg #[.slice q n c, .int .i64 e]) 1).run Tryd.prog w = .ok (.int .i64 e) w := by kernel_rfl

/-- A table that came in. -/
def TabIn (W : World) (v : Value) (I O : Int) (u : Value) (l : List Int) : Prop :=
  v = .agg #[.int .i64 I, .int .i64 O, u] ∧ I64s W u l ∧ In64 l ∧ (-9223372036854775808 ≤ I ∧ I ≤ 9223372036854775807) ∧ (-9223372036854775808 ≤ O ∧ O ≤ 9223372036854775807)
theorem tabCells : Tryd.prog.cellsOf 79 = 3 := by kernel_rfl
set_option maxRecDepth 100000 in
theorem open_tab {H : Type} {enc : TypeId × Value → H} {W : World} {base : Nat} {v : Value} {d : DataW H} {p : List MemPlace} (hok : Value.okWide Tryd.prog W .any base 79 v) (h : DataW.Trod enc Tryd.prog W 0 (fun _ => true) true 79 v d p) :
    ∃ I O u l, TabIn W v I O u l := by
  obtain ⟨v0, v1, v2, y0, y1, y2, n, rfl, rfl, rfl, h0, h1, h2⟩ := open_agg3 Tryd.underlying79 (by kernel_rfl) tabCells hok h
  obtain ⟨I, e0, -, wI⟩ := DataW.trod_int Tryd.underlying3 h0
  obtain ⟨O, e1, -, wO⟩ := DataW.trod_int Tryd.underlying3 h1
  simp at e0 e1
  subst e0
  subst e1
  obtain ⟨a, len, cap, e2⟩ := slice_form Tryd.underlying75 h2
  simp at e2
  subst e2
  obtain ⟨l, hl, hin⟩ := open_row64 h2
  exact ⟨I, O, _, l, rfl, hl, hin, wf64 wI, wf64 wO⟩

end Go.Proofs.YtgehjkcjpbdoaaaDoor
