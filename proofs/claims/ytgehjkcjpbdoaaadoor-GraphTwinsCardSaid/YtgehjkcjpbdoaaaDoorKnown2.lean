/-
  The law's own sample of known answers, of tables of turns.
-/
import Derived.Test.YtgehjkcjpbdoaaaDoorA2
import Derived.Test.YtgehjkcjpbdoaaaDoorTells
import Derived.Test.YtgehjkcjpbdoaaaDoorGrow
import Derived.Deep.DeepCutAuto
namespace Go.Proofs.YtgehjkcjpbdoaaaDoor
open Go.RowKit

/-- The document's At, whatever the world: a Wrong of one part. -/
theorem at_post (p : ByteArray) (n e : Int) (w : World) : Calls Tryd.prog 25 #[.string p, .int .i64 n, .int .i64 e] w (WPost [(p, n)] e w) := by
  refine (at_any p n e w).mono ?_
  rintro ev w' ⟨rfl, rfl⟩
  exact ⟨_, rfl, wrong_last _ _ (by simp) _ _ _, below_alloc2 _ _⟩

theorem ErrT.keep {w w' : World} (hb : Below w.heap.size w w') (h : ErrT w) : ErrT w' := (hb.cell h.lt).trans h
theorem turnW_or (p : Int × Int) : turnW p = [] ∧ p.2 = 0 ∨ 1 ≤ (turnW p).length ∧ (turnW p).length ≤ 2 ∧ ¬ p.2 = 0 := by
  unfold turnW
  by_cases h : p.2 = 0
  · exact Or.inl ⟨by rw [if_pos h], h⟩
  · exact Or.inr ⟨by rw [if_neg h]; simp, by rw [if_neg h]; simp, h⟩

/-- The law's Tells, of what the program and the document tell alike. -/
theorem tells_post (v wv : Value) (ps : List (ByteArray × Int)) (a : Int) (w : World) (hg : ErrT w) (hF : FaultV w v ps a) (hW : WrongV w wv ps a) (h : ps = [] ∧ a = 0 ∨ 1 ≤ ps.length ∧ ps.length ≤ 2 ∧ ¬ a = 0) :
    Calls Tryd.prog 24 #[v, wv] w fun e w' => e = .returned (.bool true) ∧ Below w.heap.size w w' := by
  rcases h with ⟨rfl, rfl⟩ | ⟨h1, h2, h3⟩
  · obtain rfl := hF.none
    obtain ⟨sv, rfl, _⟩ := hW
    exact tells_nil sv w
  · rcases hF with ⟨rfl, _⟩ | ⟨_, hE⟩
    · simp at h1
    · exact tells_any v wv ps a w hg hE hW h1 h2 h3

theorem TabV.below {w w' : World} {v : Value} {I O : Int} {l : List Int} (h : TabV w v I O l) (hb : Below w.heap.size w w') : TabV w' v I O l := by
  obtain ⟨u, e, h⟩ := h
  exact ⟨u, e, h.below hb⟩

def sixL : List Int := [0, 0, 0, 0, 0, 0]
def sixU : List Int := [0, 0, 0, 0, 0, 1152921504606846976]
def twoB : List Int := [1152921504606846976, 0, 0, 1152921504606846976]

theorem with12 (u : Value) (w : World) (hu : I64s w u sixL) : Calls Tryd.prog 44 #[.agg #[.int .i64 2, .int .i64 3, u], .int .i64 1, .int .i64 2, .int .i64 1152921504606846976] w (TEPost 2 3 sixU [] 0 w) := by
  have h := twith_any 2 3 u sixL 1 2 1152921504606846976 w (by decide) hu (by intro x hx; simp [sixL] at hx; omega) (by omega) (by omega)
  unfold WithPost at h
  have e : withT 2 3 sixL 1 2 1152921504606846976 = (2, 3, sixU) := by decide
  have e2 : withW 2 3 1 2 1152921504606846976 = (0, 0) := by decide
  rw [e, e2] at h
  exact h
theorem with20 (u : Value) (w : World) (hu : I64s w u sixL) : Calls Tryd.prog 44 #[.agg #[.int .i64 2, .int .i64 3, u], .int .i64 2, .int .i64 0, .int .i64 1] w (TEPost 0 0 [] [(turnB, 0)] 5 w) := by
  have h := twith_any 2 3 u sixL 2 0 1 w (by decide) hu (by intro x hx; simp [sixL] at hx; omega) (by omega) (by omega)
  unfold WithPost at h
  have e : withT 2 3 sixL 2 0 1 = (0, 0, []) := by decide
  have e2 : withW 2 3 2 0 1 = (0, 5) := by decide
  rw [e, e2] at h
  exact h

end Go.Proofs.YtgehjkcjpbdoaaaDoor
