/-
  A row copied behind an empty literal, wherever that stands.
-/
import Derived.Test.YtlfihaajnjeaeaaRNetA
import Derived.Test.YtlfihaajnjeaeaaGrow
import Derived.ArgAppend
namespace Go.Proofs.Ytlfihaajnjeaeaa
open Go.RowKit

theorem copy0 (W : World) (v : Value) (l : List Int) (hv : I64s W v l) (hs : l.length ≤ 100000) (g : Nat) :
    ∃ v' w', (Builtin.append_ #[49, 49] 49 #[.slice (some ⟨g, 0, none⟩) 0 0, v]).run Try.prog W = .ok v' w' ∧ I64s w' v' l ∧ Below W.heap.size W w' := by
  obtain ⟨i0, hi, hz0, hz1, hz2⟩ := info_parts infoInt
  have ht : Try.prog.underlying 49 = some (.slice 3) := Try.underlying49
  rcases hv with ⟨rfl, p, c, rfl, hpc⟩ | ⟨hl, b, o, c, -, -, rfl, hc⟩
  · refine ⟨.slice (some ⟨g, 0, none⟩) 0 0, W, ?_, Or.inl ⟨rfl, _, _, rfl, fun h => by cases h⟩, Below.refl _ _⟩
    cases p with
    | none =>
      simp [Builtin.append_, run_underlying ht, sizeOf, typeInfo, hi, Builtin.lenOf, Builtin.firstCells, storeCells]
    | some ad =>
      have := run_append_room_cells (P := Try.prog) (w := W) 49 49 3 i0 ht hi g 0 0 0 ad 0 c [] (by simp) (by intro j u h; simp at h) (by intro u h; cases h) (by omega) (by intro j h; simp at h) (by intro j h; simp at h)
      simpa [World.setCells] using this
  · by_cases h0 : l.length = 0
    · obtain rfl : l = [] := List.length_eq_zero_iff.1 h0
      refine ⟨.slice (some ⟨g, 0, none⟩) 0 0, W, ?_, Or.inl ⟨rfl, _, _, rfl, fun h => by cases h⟩, Below.refl _ _⟩
      have := run_append_room_cells (P := Try.prog) (w := W) 49 49 3 i0 ht hi g 0 0 0 ⟨b, o, none⟩ 0 c [] (by simp) (by intro j u h; simp at h) (by intro u h; cases h) (by omega) (by intro j h; simp at h) (by intro j h; simp at h)
      simpa [World.setCells] using this
    · obtain ⟨v', w', hr, h1, h2⟩ := run_append_arg_grows (P := Try.prog) (w := W) 49 49 3 i0 (.int .i64 0) 1 8 ht hi hz0 hz1 hz2 rfl (by decide) ⟨g, 0, none⟩ 0 0 [] (by simp) (by intro j u h; simp at h) ⟨b, o, none⟩ l.length c (l.map (Value.int .i64)) (by simp)
        (fun j u hu => by
          obtain ⟨hj, hu⟩ := List.getElem?_eq_some_iff.1 hu
          have hj' : j < l.length := by simpa using hj
          have e : (⟨b, o, none⟩ : Addr).add j = ⟨b, o + j, none⟩ := by unfold Addr.add; split <;> simp_all
          rw [e, hc j hj', ← hu, List.getElem_map]) (by omega) (by simp [maxLen]; omega) (by omega)
      rw [List.nil_append, Nat.zero_add] at h1
      exact ⟨v', w', hr, ints_of_owns h1 hl, (Below.refl _ _).grown h2 (Nat.le_refl _) (by intro k hk; cases hk)⟩
/-- An empty literal. -/
def EmptyLit (v : Value) : Prop := ∃ g, v = .slice (some ⟨g, 0, none⟩) 0 0

section
variable {P : Program} {ops : Array Oper} {n : Nat} {A : List (List Nat)} {S : World → Prop} {Ds : List Fact} {fin : Act → Prop} {i : Nat} {o : Oper} {r : List Oper} {c : Act}
/-- An append that makes memory. -/
theorem grow_append {p : Value → World → Prop} {hp : ∀ v w w', p v w → Below w.heap.size w w' → p v w'} (s x : Operand) (t : TypeId) (ho : o.op = .call { callee := .builtin .append, args := #[s, x], argTypes := #[t, t] })
    (hS : Grows S) (hf : factAt Ds i = .prop p hp) (hw : Region.wanted o (yielded ops c.tmps) = true)
    (hrun : ∀ w, S w → (∀ k ∈ A.getD i [], holdsAt ops Ds n k c w) → ∃ u w', (Builtin.append_ #[t, t] o.type #[c.eval s, c.eval x]).run P w = .ok u w' ∧ p u w' ∧ Below w.heap.size w w')
    {c' : Value → Act} (hc : ∀ v, c.put o.dst v = c' v) (h : ∀ v, GrowSeq P ops n A S Ds fin (i + 1) r (c' v)) : GrowSeq P ops n A S Ds fin i (o :: r) c :=
  grow_make hS hf hw (fun w hs H => by
    obtain ⟨u, w', hr, h1, h2⟩ := hrun w hs H
    refine ⟨u, w', ?_, h1, h2⟩
    unfold execOp
    simp only [ho, resolve, invoke, builtin, Sem.run_bind, Sem.run_pure, Result.andThen_ok, List.map_toArray, List.map_cons, List.map_nil, hr]) hc h
end

end Go.Proofs.Ytlfihaajnjeaeaa
