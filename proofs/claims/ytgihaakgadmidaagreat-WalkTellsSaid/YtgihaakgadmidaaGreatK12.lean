/-
  From a law's walk to its row, where no variable is listed.
-/
import Derived.Test.YtgihaakgadmidaaGreatRows
import Derived.Test.YtgihaakgadmidaaGreatLift
import Derived.Test.YtgihaakgadmidaaGreatD1
import Derived.Test.YtgihaakgadmidaaGreatIntsIn
import Derived.Deep.Slices
import Derived.Deep.Fields
import Derived.Lib.SmallJoins
import Derived.Test.YtgihaakgadmidaaGreatK7
import Derived.IntWalk
import Derived.Test.YtgihaakgadmidaaGreatD2
namespace Go.Proofs.YtgihaakgadmidaaGreat
open Go.ChangeShapes Go.WideShapes Go.ChangeAt Go.RowKit Go.Joins Go.Deep

/-- What a law's walk is told of its arguments, where nothing is listed. -/
structure GivenP {H : Type} (enc : TypeId × Value → H) (fn : Func) (W : World) (args : Array Value) (ds : List (DataW H)) : Prop where
  reads : ∃ ps, DataW.TrodAll enc Tryz.prog W 0 (fun _ => true) true fn.params.toList args.toList ds ps
  okay : ∃ base, ∀ (j : Nat) t v, fn.params[j]? = some t → args[j]? = some v → Value.okWide Tryz.prog W .any base t v
def WalksP (F : FuncId) (fn : Func) : Prop :=
  ∀ (H : Type) (enc : TypeId × Value → H) (W : World) (args : Array Value) (ds : List (DataW H)), GivenP enc fn W args ds →
    Calls Tryz.prog F args W fun e W' => e = .returned (.bool true) ∧ Below W.heap.size W W'

set_option maxRecDepth 100000 in
theorem law_plain {F : FuncId} {fn : Func} {s : ChangeSpec} (hfn : Tryz.checked.prog.funcs[F]? = some fn) (noInit : Tryz.checked.prog.inits.idxOf? F = none)
    (hv : s.vars = []) (hres : fn.resultTypes = #[4])
    (hspec : ∀ (H : Type) (ds : List (DataW H)), ds.length = fn.params.toList.length → (s.fn H ds).results = [.lit (.bool true)] ∧ (s.fn H ds).args = ds ∧ (s.fn H ds).vars = [])
    (hread : (fn.params.toList.all fun t => Tryz.prog.readableRec t && decide (t < Tryz.prog.types.size)) = true)
    (os : Os) (started : os.Started) (H : Type) (enc : TypeId × Value → H)
    (wit : ∃ (w : World) (tape : Tape) (i : Input), w.os = os ∧ (w.forCall tape i).Shaped Tryz.checked.prog ∧ i.vars = [] ∧ Input.okWide Tryz.checked.prog (w.forCall tape i) .any w.heap.size F i ∧
      s.pre6 enc Tryz.checked.prog fn [] false (w.forCall tape i).memory i.args ∧ ({} : Assume).holds Tryz.checked.prog (lone (Frame.enter Tryz.checked.prog F i.args .normal) [] (w.forCall tape i)))
    (walk : WalksP F fn) :
    ReturnsInHanded {} Tryz.checked os F .any (s.pre6 enc Tryz.prog fn [] false) (s.post enc Tryz.prog fn false true false false) := by
  refine returnsInHanded_of_change (C := Tryz.checked) own started noInit hfn wit ?_
  intro W base args ds gs before hval hW _ _
  have hW' := hW
  obtain ⟨p, q, hA, hV, hbef, hfz, hnd⟩ := hW
  rw [hv] at hV
  obtain ⟨rfl, rfl⟩ : gs = [] ∧ q = [] := by
    cases gs with
    | nil => exact ⟨rfl, hV⟩
    | cons g r => exact absurd hV (by intro h; cases h)
  obtain ⟨e1, e2, e3⟩ := hspec H ds (trodAll_length hA)
  refine (walk H enc W args ds ⟨⟨p, hA⟩, ⟨base, hval⟩⟩).mono fun e W' ⟨he, bel⟩ => ?_
  subst he
  refine ⟨_, rfl, _, _, _, [], p, [], hW', ?_, ?_, ?_, bel.frame _, fun h => by cases h⟩
  · rw [List.append_nil, e1, hres]; exact trodAll_mk1 (shut_bool Tryz.underlying4 true)
  · rw [List.append_nil, e2]; exact trodAll_below laidOut bel hread hA
  · rw [List.append_nil, e3, hv]; rfl

end Go.Proofs.YtgihaakgadmidaaGreat

/-
  What the laws of the least walks have in common.
-/
namespace Go.Proofs.YtgihaakgadmidaaGreat
open HP Go.RowKit

theorem I64s.cellsAt {w : World} {q : Option Addr} {n c : Nat} {l : List Int} (h : I64s w (.slice q n c) l) (h0 : 0 < l.length) : ∃ b o, q = some ⟨b, o, none⟩ ∧ b < w.heap.size ∧ ∀ i, i < l.length → w.cell? ⟨b, o + i, none⟩ = some (.int .i64 (ctL l i)) := by
  rcases h with ⟨rfl, _⟩ | ⟨_, b, o, c', _, _, e, hc⟩
  · simp at h0
  · injection e with e1
    exact ⟨b, o, e1, World.block_lt_of_cell? w _ (hc 0 h0), fun i hi => by rw [ctL_at hi]; exact hc i hi⟩
/-- A region that only makes memory. -/
structure GG.BelS9 (W : World) (_ : Nat → Bool) (_ : Unit) (w : World) : Prop where
  b : Below W.heap.size W w
def GG.RlB9 (_ : Unit) (w : World) (_ : Unit) (w' : World) : Prop := Below w.heap.size w w'
theorem GG.BelS9.still {W : World} {i : Nat} : GG.Still (GG.BelS9 W) GG.RlB9 i := ⟨fun _ _ _ h => ⟨h.b⟩, fun _ _ => Below.refl _ _⟩
end Go.Proofs.YtgihaakgadmidaaGreat
