/-
  From a law's walk to its row, where no variable is listed; edges, marks that come in.
-/
import Derived.Test.YtleheaffipokfaaRows
import Derived.Test.YtleheaffipokfaaLift
import Derived.Test.YtleheaffipokfaaFlV
import Derived.Deep.Slices
import Derived.Deep.Fields
import Derived.Deep.Grids
import Derived.Lib.SmallJoins
import Derived.OpenShut
namespace Go.Proofs.Ytleheaffipokfaa
open Go.ChangeShapes Go.WideShapes Go.ChangeAt Go.RowKit Go.Joins Go.Deep

/-- What a law's walk is told of its arguments, where nothing is listed. -/
structure GivenP {H : Type} (enc : TypeId × Value → H) (fn : Func) (W : World) (args : Array Value) (ds : List (DataW H)) : Prop where
  reads : ∃ ps, DataW.TrodAll enc Try.prog W 0 (fun _ => true) true fn.params.toList args.toList ds ps
  okay : ∃ base, ∀ (j : Nat) t v, fn.params[j]? = some t → args[j]? = some v → Value.okWide Try.prog W .any base t v
def WalksP (F : FuncId) (fn : Func) : Prop :=
  ∀ (H : Type) (enc : TypeId × Value → H) (W : World) (args : Array Value) (ds : List (DataW H)), GivenP enc fn W args ds →
    Calls Try.prog F args W fun e W' => e = .returned (.bool true) ∧ Below W.heap.size W W'

set_option maxRecDepth 100000 in
theorem law_plain {F : FuncId} {fn : Func} {s : ChangeSpec} (hfn : Try.checked.prog.funcs[F]? = some fn) (noInit : Try.checked.prog.inits.idxOf? F = none)
    (hv : s.vars = []) (hres : fn.resultTypes = #[4])
    (hspec : ∀ (H : Type) (ds : List (DataW H)), ds.length = fn.params.toList.length → (s.fn H ds).results = [.lit (.bool true)] ∧ (s.fn H ds).args = ds ∧ (s.fn H ds).vars = [])
    (hread : (fn.params.toList.all fun t => Try.prog.readableRec t && decide (t < Try.prog.types.size)) = true)
    (os : Os) (started : os.Started) (H : Type) (enc : TypeId × Value → H)
    (wit : ∃ (w : World) (tape : Tape) (i : Input), w.os = os ∧ (w.forCall tape i).Shaped Try.checked.prog ∧ i.vars = [] ∧ Input.okWide Try.checked.prog (w.forCall tape i) .any w.heap.size F i ∧
      s.pre6 enc Try.checked.prog fn [] false (w.forCall tape i).memory i.args ∧ ({} : Assume).holds Try.checked.prog (lone (Frame.enter Try.checked.prog F i.args .normal) [] (w.forCall tape i)))
    (walk : WalksP F fn) :
    ReturnsInHanded {} Try.checked os F .any (s.pre6 enc Try.prog fn [] false) (s.post enc Try.prog fn false true false false) := by
  refine returnsInHanded_of_change (C := Try.checked) own started noInit hfn wit ?_
  intro W base args ds gs before hval hW _ _
  have hW' := hW
  obtain ⟨p, q, hA, hV, hbef, hfz, hnd⟩ := hW
  rw [hv] at hV
  obtain ⟨rfl, rfl⟩ : gs = [] ∧ q = [] := by
    cases gs with
    | nil => exact ⟨rfl, hV⟩
    | cons g r => exact absurd hV (by intro h; cases h)
  obtain ⟨e1, e2, e3⟩ := hspec H ds (trodAll_length hA)
  refine (walk H enc W args ds ⟨⟨p, hA⟩, ⟨base, hval⟩⟩).mono fun e W' ⟨he, bel⟩ => ?_
  subst he
  refine ⟨_, rfl, _, _, _, [], p, [], hW', ?_, ?_, ?_, bel.frame _, fun h => by cases h⟩
  · rw [List.append_nil, e1, hres]; exact trodAll_mk1 (shut_bool Try.underlying4 true)
  · rw [List.append_nil, e2]; exact trodAll_below laidOut bel hread hA
  · rw [List.append_nil, e3, hv]; rfl

theorem add0 (xb xo j : Nat) : (⟨xb, xo, none⟩ : Addr).add j = ⟨xb, xo + j, none⟩ := by unfold Addr.add; split <;> simp_all
theorem pairCells : Try.prog.cellsOf 30 = 2 := by kernel_rfl
theorem intCells : Try.prog.cellsOf 3 = 1 := by kernel_rfl
section
variable {H : Type} {enc : TypeId × Value → H} {W : World}
set_option maxRecDepth 100000 in
/-- Edges. -/
theorem open_edges0 {a : Option Addr} {len cap fuel : Nat} {y : DataW H × List MemPlace} (h : DataW.trod enc Try.prog W 0 (fun _ => true) true fuel 22 [.slice a len cap] = some y) :
    ∃ l, Prs W (.slice a len cap) l ∧ InPrs l := by
  rcases open_slice Try.underlying22 h with ⟨hcs, _⟩ | ⟨ad, len', cap', m, n, D, Pl, hcs, _, hl, hm, hmm, _, hi⟩
  · simp at hcs
    obtain ⟨rfl, rfl, rfl⟩ := hcs
    exact ⟨[], Or.inl ⟨rfl, _, _, rfl, fun _ => rfl⟩, by intro x hx; cases hx⟩
  · simp at hcs
    obtain ⟨rfl, rfl, rfl⟩ := hcs
    have key : ∀ i, i < len → ∃ x : Int × Int, (W.cell? (ad.add (i * 2)) = some (.int .i64 x.1) ∧ W.cell? (ad.add (i * 2 + 1)) = some (.int .i64 x.2)) ∧
        (-9223372036854775808 ≤ x.1 ∧ x.1 ≤ 9223372036854775807) ∧ (-9223372036854775808 ≤ x.2 ∧ x.2 ≤ 9223372036854775807) := by
      intro i hlt
      obtain ⟨cs', hc, ht'⟩ := hi i (by simp at hmm; omega)
      rw [pairCells] at hc
      obtain ⟨_, hcl, hat⟩ := World.cells?_some hc
      obtain ⟨xs, n', _, _, _, hxl, hf⟩ := DataW.trod_array Try.underlying30 ht'
      match cs', hcl, xs, hxl with
      | [c0, c1], _, [y0, y1], _ =>
        have g0 := hf 0 (by decide)
        have g1 := hf 1 (by decide)
        rw [intCells] at g0 g1
        simp at g0 g1
        obtain ⟨x0, e0, -, w0⟩ := DataW.trod_int Try.underlying3 g0
        obtain ⟨x1, e1, -, w1⟩ := DataW.trod_int Try.underlying3 g1
        simp at e0 e1
        subst e0
        subst e1
        have h0 := hat 0 (by omega)
        have h1 := hat 1 (by omega)
        rw [add_add] at h0 h1
        exact ⟨(x0, x1), ⟨h0, h1⟩, wf64 w0, wf64 w1⟩
    have hall : ∃ g : Nat → Int × Int, ∀ i, i < len → (W.cell? (ad.add (i * 2)) = some (.int .i64 (g i).1) ∧ W.cell? (ad.add (i * 2 + 1)) = some (.int .i64 (g i).2)) ∧
        (-9223372036854775808 ≤ (g i).1 ∧ (g i).1 ≤ 9223372036854775807) ∧ (-9223372036854775808 ≤ (g i).2 ∧ (g i).2 ≤ 9223372036854775807) :=
      ⟨fun i => if h : i < len then (key i h).choose else (0, 0), fun i hlt => by simp only [hlt, dif_pos]; exact (key i hlt).choose_spec⟩
    obtain ⟨g, hg⟩ := hall
    have hlen : ((List.range len).map g).length = len := by simp
    refine ⟨(List.range len).map g, ?_, fun x hx => ?_⟩
    · rcases Nat.eq_zero_or_pos len with h0 | h0
      · subst h0
        obtain ⟨xb, xo, xs⟩ := ad
        exact Or.inl ⟨rfl, _, _, rfl, fun h => by cases h⟩
      · have hs : ad.spot = none := by
          have := World.cell?_spot (hg 0 h0).1.1
          simpa [Addr.add] using this
        obtain ⟨xb, xo, xs⟩ := ad
        have hs' : xs = none := hs
        subst hs'
        unfold maxLen at hm
        refine Or.inr ⟨by omega, xb, xo, cap, by omega, by omega, by rw [hlen], fun i hi' => ?_⟩
        have hi2 : i < len := by omega
        have hgi : ((List.range len).map g)[i] = g i := by simp
        rw [hgi]
        have := (hg i hi2).1
        rw [add0, add0] at this
        simpa [Nat.add_assoc] using this
    · obtain ⟨i, hi', rfl⟩ := List.mem_map.1 hx
      exact (hg i (List.mem_range.1 hi')).2
set_option maxRecDepth 100000 in
theorem open_edges {base : Nat} {v : Value} {d : DataW H} {p : List MemPlace} (hok : Value.okWide Try.prog W .any base 22 v) (h : DataW.Trod enc Try.prog W 0 (fun _ => true) true 22 v d p) : ∃ l, Prs W v l ∧ InPrs l := by
  obtain ⟨a, len, cap, rfl⟩ := okWide_slice Try.underlying22 hok
  obtain ⟨fuel, hf⟩ := h
  exact open_edges0 (by simpa [Value.cells] using hf)
set_option maxRecDepth 100000 in
/-- Marks. -/
theorem open_marks0 {a : Option Addr} {len cap fuel : Nat} {y : DataW H × List MemPlace} (h : DataW.trod enc Try.prog W 0 (fun _ => true) true fuel 33 [.slice a len cap] = some y) :
    ∃ l, Bools W (.slice a len cap) l := by
  rcases Go.Deep.open_bools Try.underlying33 Try.underlying4 (by kernel_rfl) h with ⟨hcs, _⟩ | ⟨ad, len', cap', B, hcs, _, hl, hm, _, hi⟩
  · simp at hcs
    obtain ⟨rfl, rfl, rfl⟩ := hcs
    exact ⟨[], Or.inl ⟨rfl, _, _, rfl, fun _ => rfl⟩⟩
  · simp at hcs
    obtain ⟨rfl, rfl, rfl⟩ := hcs
    have hlen : ((List.range len).map B).length = len := by simp
    refine ⟨(List.range len).map B, ?_⟩
    rcases Nat.eq_zero_or_pos len with h0 | h0
    · subst h0
      exact Or.inl ⟨rfl, _, _, rfl, fun h => by cases h⟩
    · have hs : ad.spot = none := by
        have := World.cell?_spot (hi 0 (by omega))
        simpa [Addr.add] using this
      obtain ⟨xb, xo, xs⟩ := ad
      have hs' : xs = none := hs
      subst hs'
      unfold maxLen at hm
      refine Or.inr ⟨by omega, xb, xo, cap, by omega, by omega, by rw [hlen], fun i hi' => ?_⟩
      have hi2 : i < len := by omega
      have := hi i (by omega)
      rw [add0] at this
      simpa using this
set_option maxRecDepth 100000 in
theorem open_marks {base : Nat} {v : Value} {d : DataW H} {p : List MemPlace} (hok : Value.okWide Try.prog W .any base 33 v) (h : DataW.Trod enc Try.prog W 0 (fun _ => true) true 33 v d p) : ∃ l, Bools W v l := by
  obtain ⟨a, len, cap, rfl⟩ := okWide_slice Try.underlying33 hok
  obtain ⟨fuel, hf⟩ := h
  exact open_marks0 (by simpa [Value.cells] using hf)
end
end Go.Proofs.Ytleheaffipokfaa
