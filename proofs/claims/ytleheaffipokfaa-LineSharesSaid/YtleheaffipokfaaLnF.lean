/-
  Rows of points that grow, in regions that draw their order.
-/
import Derived.Test.YtleheaffipokfaaLnK
import Derived.Maps.AppendAt
namespace Go.Proofs.Ytleheaffipokfaa
open Go.RowKit Go.Sort

/-- It stays where memory only grows. -/
def Stab (A : World → Prop) : Prop := ∀ w w', A w → Below w.heap.size w w' → A w'
def GG.RlA (s : Bool) (w : World) (s' : Bool) (w' : World) : Prop := (s = true → s' = true) ∧ (s = s' → Below w.heap.size w w')
structure GG.ApS (j : Nat) (A : World → Prop) (W : World) (dn : Nat → Bool) (s : Bool) (w : World) : Prop where
  here : dn j = s
  r : s = false → A w
  b : Below W.heap.size W w
section
variable {j : Nat} {A : World → Prop} {W : World} {dn : Nat → Bool} {s : Bool} {w w' : World}
theorem GG.ApS.step (h : GG.ApS j A W dn s w) {i : Nat} (hi : j ≠ i) : GG.ApS j A W (GG.doneG dn i) s w :=
  ⟨by show (if j = i then true else dn j) = s; rw [if_neg hi]; exact h.here, h.r, h.b⟩
theorem GG.ApS.still {i : Nat} (hi : j ≠ i) : GG.Still (GG.ApS j A W) GG.RlA i := ⟨fun _ _ _ h => h.step hi, fun _ _ => ⟨id, fun _ => Below.refl _ _⟩⟩
theorem GG.ApS.old (h : GG.ApS j A W dn s w) (hA : Stab A) (hb : Below w.heap.size w w') : GG.ApS j A W dn s w' := ⟨h.here, fun e => hA _ _ (h.r e) hb, bOn6 h.b hb⟩
end
def GG.LitP (cs : Array Value) (v : Value) (s : Bool) (w : World) : Prop := s = false → ∃ g, v = .slice (some ⟨g, 0, none⟩) 1 1 ∧ Blk w g cs 30
theorem GG.LitP.st (cs : Array Value) (v : Value) (s : Bool) (w : World) (s' : Bool) (w' : World) (h : GG.LitP cs v s w) (hr : GG.RlA s w s' w') : GG.LitP cs v s' w' := by
  intro e
  cases s with
  | true => rw [hr.1 rfl] at e; cases e
  | false =>
    obtain ⟨g, e1, e2⟩ := h rfl
    exact ⟨g, e1, e2.keep (hr.2 e.symm)⟩
def GG.ApT (B : Value → World → Prop) (v : Value) (s : Bool) (w : World) : Prop := s = true ∧ (∃ q n c, v = .slice q n c) ∧ B v w
theorem GG.ApT.st {B : Value → World → Prop} (hB : ∀ v, Stab (B v)) (v : Value) (s : Bool) (w : World) (s' : Bool) (w' : World) (h : GG.ApT B v s w) (hr : GG.RlA s w s' w') : GG.ApT B v s' w' :=
  ⟨hr.1 h.1, h.2.1, hB v _ _ h.2.2 (hr.2 (by rw [h.1, hr.1 h.1]))⟩
theorem GG.exec_append {P : Program} {o : Oper} {ρ : Operand → Value} {w w' : World} (s x : Operand) (t : TypeId) (ho : o.op = .call { callee := .builtin .append, args := #[s, x], argTypes := #[t, t] })
    {v sv v' : Value} (hs : ρ s = v) (hx : ρ x = sv) (hr : (Builtin.append_ #[t, t] o.type #[v, sv]).run P w = .ok v' w') : (execOp ρ o).run P w = .ok (.value v') w' := by
  unfold execOp
  simp only [ho, resolve, invoke, builtin, Sem.run_bind, Sem.run_pure, Result.andThen_ok, List.map_toArray, List.map_cons, List.map_nil, hs, hx, hr]

/-- Two rows of points of one's own, apart. -/
structure PT (w0 : World) (l1 : List (Int × Int)) (v1 : Value) (l2 : List (Int × Int)) (v2 : Value) (w : World) : Prop where
  r1 : w.ownsRow w0.heap.size 30 2 v1 l1.length (flatP l1)
  r2 : w.ownsRow w0.heap.size 30 2 v2 l2.length (flatP l2)
  dis : ∀ g, v1.ownBlock = some g → v2.ownBlock ≠ some g
  b : Below w0.heap.size w0 w
section
variable {w0 w w' : World} {l1 l2 : List (Int × Int)} {v1 v2 : Value}
theorem PT.stab : Stab (PT w0 l1 v1 l2 v2) := fun _ _ h hb => ⟨own_below h.r1 hb, own_below h.r2 hb, h.dis, bOn6 h.b hb⟩
theorem PT.symm (h : PT w0 l1 v1 l2 v2 w) : PT w0 l2 v2 l1 v1 w := ⟨h.r2, h.r1, fun g h2 h1 => h.dis g h1 h2, h.b⟩
theorem PT.nil : PT w0 [] (.slice none 0 0) [] (.slice none 0 0) w0 := ⟨World.ownsRow_nil _ _ _ _, World.ownsRow_nil _ _ _ _, fun g h => by simp [Value.ownBlock] at h, Below.refl _ _⟩
theorem PT.app (h : PT w0 l1 v1 l2 v2 w) {x y : Int} {g : Nat} (hg : Blk w g #[.int .i64 x, .int .i64 y] 30) (hl : l1.length ≤ 100000) :
    ∃ q n c w', (Builtin.append_ #[22, 22] 22 #[v1, .slice (some ⟨g, 0, none⟩) 1 1]).run Try.prog w = .ok (.slice q n c) w' ∧ PT w0 (l1 ++ [(x, y)]) (.slice q n c) l2 v2 w' ∧ w.heap.size ≤ w'.heap.size := by
  obtain ⟨i0, hi, hz0, hz1, hz2⟩ := info_parts infoPair
  have hz9 : w0.heap.size ≤ w.heap.size := h.b.size
  obtain ⟨v', w', hr, o1, o2, -, o4⟩ := run_append_own_at (P := Try.prog) w w0.heap.size 22 22 30 i0 (.agg #[.int .i64 0, .int .i64 0]) 2 16 Try.underlying22 hi hz0 hz1 hz2 rfl (by decide) v1 l1.length (flatP l1) h.r1 ⟨g, 0, none⟩ 1 1 (flatP [(x, y)]) rfl
    (fun j u hj => by
      rw [add0', hg.cell j (by rw [List.getElem?_toArray]; exact hj)]) (by intro u hu; simp [flatP] at hu; rcases hu with rfl | rfl <;> rfl) (by unfold maxLen; omega) (by omega) hz9
  have hd : v'.ownBlock ≠ v2.ownBlock ∨ v2.ownBlock = none := by
    cases e2 : v2.ownBlock with
    | none => exact Or.inr rfl
    | some g2 =>
      refine Or.inl fun e => ?_
      rcases o4 with o4 | o4
      · rw [o4] at e
        exact h.dis _ e e2
      · rw [o4] at e
        injection e with e
        have := (h.r2.lt _ e2).2
        omega
  obtain ⟨q, c, rfl⟩ := own_shape o1
  refine ⟨q, _, c, w', hr, ⟨?_, h.r2.kept o2 ?_, fun g1 e1 e2 => ?_, h.b.trans ((Below.refl _ _).grown o2 hz9 (fun g' hg' => own_ge h.r1 g' (by simpa using hg')))⟩, o2.size⟩
  · rw [List.length_append, flatP_app]
    exact o1
  · cases e2 : v2.ownBlock with
    | none => exact Or.inl rfl
    | some g2 => exact Or.inr (fun e => h.dis g2 e.symm e2)
  · rcases hd with hd | hd
    · exact hd (e1.trans e2.symm)
    · rw [hd] at e2; cases e2
end
end Go.Proofs.Ytleheaffipokfaa
