/-
  Rows of numbers: kept, copied, cut.
-/
import Derived.Test.YtmbeelakkiodaaaI64
import Derived.Laws.AppendOwn
import Derived.Laws.OwnMore
namespace Go.Proofs.Ytmbeelakkiodaaa
open Go.RowKit

section
variable {P : Program} {ops : Array Oper} {Q : Exit → Act → World → Prop} {a : Act} {w w' : World} {rest : List Oper} {o : Oper}
/-- An append whose run is known, guarded or not. -/
theorem wpList_append_run (hw : Region.wanted o (yielded ops a.tmps) = true) (s x : Operand) (t : TypeId) (ho : o.op = .call { callee := .builtin .append, args := #[s, x], argTypes := #[t, t] })
    (v sv v' : Value) (hs : a.eval s = v) (hx : a.eval x = sv) (hr : (Builtin.append_ #[t, t] o.type #[v, sv]).run P w = .ok v' w') (h : wpList P ops Q rest (a.put o.dst v') w') : wpList P ops Q (o :: rest) a w :=
  wpList_step fun K hK => by
    rw [if_pos hw]
    unfold Oper.wp execOp
    simp only [ho, resolve, invoke, builtin, Sem.run_bind, Sem.run_pure, Result.andThen_ok, List.map_toArray, List.map_cons, List.map_nil, hs, hx, hr]
    exact hK _ _ h
end

theorem info64 : (Try.prog.info? 2).map (fun i => (i.zero, i.size, i.bytes)) = some (some (.int .i64 0), 1, 8) := by kernel_rfl

/-- A row that the call owns is a row of numbers. -/
theorem i64s_of_owns {w : World} {base : Nat} {v : Value} {n : Nat} {l : List Int} (h : w.ownsRow base 2 1 v n (l.map (Value.int .i64))) (hl : l.length ≤ 9223372036854775807) : I64s w v l := by
  have hn : n = l.length := by have := h.1; simp at this; omega
  subst hn
  rcases h.2 with ⟨rfl, e⟩ | ⟨g, cap, cur, rfl, _, _, hnc, hcm, _, _⟩
  · have : l = [] := List.length_eq_zero_iff.1 e
    subst this
    exact Or.inl ⟨rfl, none, 0, rfl, fun _ => rfl⟩
  · refine Or.inr ⟨hl, g, 0, cap, hnc, by unfold maxLen at hcm; omega, rfl, fun i hi => ?_⟩
    rw [Nat.zero_add, h.cellAt i (by omega)]
    simp [hi]

set_option maxRecDepth 100000 in
/-- A row of numbers, copied behind an empty literal: the run of that append. -/
theorem copy_own (W : World) (v : Value) (l : List Int) (hv : I64s W v l) (hs : l.length ≤ 100000) (g : Nat) (hg : W.heap.size = g) :
    ∃ v' w', (Builtin.append_ #[36, 36] 36 #[.slice (some ⟨g, 0, none⟩) 0 0, v]).run Try.prog (W.alloc (.cells #[] 2)) = .ok v' w' ∧ w'.ownsRow W.heap.size 2 1 v' l.length (l.map (Value.int .i64)) ∧ Below W.heap.size W w' := by
  subst hg
  obtain ⟨i0, hi, hz0, hz1, hz2⟩ := info_parts info64
  have hv1 : I64s (W.alloc (.cells #[] 2)) v l := hv.below ((Below.refl _ _).alloc (Nat.le_refl _) _)
  have hown : (W.alloc (.cells #[] 2)).ownsRow W.heap.size 2 1 (.slice (some ⟨W.heap.size, 0, none⟩) 0 0) 0 [] := World.ownsRow_lit W #[] 0 (Nat.le_refl _) (by simp [maxLen]) rfl
  have key : ∀ (ad : Addr) (c : Nat), v = .slice (some ad) l.length c → (∀ j u, (l.map (Value.int .i64))[j]? = some u → (W.alloc (.cells #[] 2)).cell? (ad.add j) = some u) →
      ∃ v' w', (Builtin.append_ #[36, 36] 36 #[.slice (some ⟨W.heap.size, 0, none⟩) 0 0, v]).run Try.prog (W.alloc (.cells #[] 2)) = .ok v' w' ∧ w'.ownsRow W.heap.size 2 1 v' l.length (l.map (Value.int .i64)) ∧ Below W.heap.size W w' := by
    intro ad c e hnews
    subst e
    obtain ⟨v', w', hr, h1, h2, h3⟩ := run_append_own (P := Try.prog) (W.alloc (.cells #[] 2)) W.heap.size 36 36 2 i0 (.int .i64 0) 1 8 Try.underlying36 hi hz0 hz1 hz2 rfl (by decide)
      (.slice (some ⟨W.heap.size, 0, none⟩) 0 0) 0 [] hown ad l.length c (l.map (Value.int .i64)) (by simp) hnews (by intro u hu; obtain ⟨x, _, rfl⟩ := List.mem_map.1 hu; rfl) (by simp [maxLen]; omega) (by omega) (by simp)
    rw [List.nil_append] at h1
    exact ⟨v', w', hr, by simpa using h1, ((Below.refl _ _).alloc (Nat.le_refl _) _).grown h2 (by simp) (by intro k hk; simp [Value.ownBlock] at hk; omega)⟩
  rcases hv1 with ⟨rfl, p, c, rfl, hpc⟩ | ⟨hl, b, o, c, -, -, rfl, hc⟩
  · cases p with
    | none =>
      obtain rfl := hpc rfl
      exact ⟨_, _, run_append_owned_none (P := Try.prog) (W.alloc (.cells #[] 2)) W.heap.size 36 36 2 i0 1 Try.underlying36 hi _ 0 [] hown, hown, (Below.refl _ _).alloc (Nat.le_refl _) _⟩
    | some ad => exact key ad c rfl (by intro j u hu; simp at hu)
  · refine key ⟨b, o, none⟩ c rfl fun j u hu => ?_
    obtain ⟨hj, hu⟩ := List.getElem?_eq_some_iff.1 hu
    have hj' : j < l.length := by simpa using hj
    have e : (⟨b, o, none⟩ : Addr).add j = ⟨b, o + j, none⟩ := by unfold Addr.add; split <;> simp_all
    rw [e, hc j hj', ← hu, List.getElem_map]

theorem copy_run (W : World) (v : Value) (l : List Int) (hv : I64s W v l) (hs : l.length ≤ 100000) (g : Nat) (hg : W.heap.size = g) :
    ∃ v' w', (Builtin.append_ #[36, 36] 36 #[.slice (some ⟨g, 0, none⟩) 0 0, v]).run Try.prog (W.alloc (.cells #[] 2)) = .ok v' w' ∧ I64s w' v' l ∧ Below W.heap.size W w' := by
  obtain ⟨v', w', h1, h2, h3⟩ := copy_own W v l hv hs g hg
  exact ⟨v', w', h1, i64s_of_owns h2 (by omega), h3⟩

/-- A row of numbers, cut: what is ahead. -/
theorem I64s.take {w : World} {b o c : Nat} {l : List Int} (h : ∀ i (h : i < l.length), w.cell? ⟨b, o + i, none⟩ = some (.int .i64 l[i])) (hl : l.length ≤ c) (hc : c ≤ 9223372036854775807) (k : Nat) (hk : k ≤ l.length) :
    I64s w (.slice (some ⟨b, o, none⟩) k c) (l.take k) := by
  have e : (l.take k).length = k := by rw [List.length_take]; omega
  refine Or.inr ⟨by omega, b, o, c, by omega, hc, by rw [e], fun i hi => ?_⟩
  rw [List.getElem_take]
  exact h i (by omega)
/-- .. and what is behind. -/
theorem I64s.drop {w : World} {b o c : Nat} {l : List Int} (h : ∀ i (h : i < l.length), w.cell? ⟨b, o + i, none⟩ = some (.int .i64 l[i])) (hl : l.length ≤ c) (hc : c ≤ 9223372036854775807) (k : Nat) (hk : k ≤ l.length) :
    I64s w (.slice (some ⟨b, o + k, none⟩) (l.length - k) (c - k)) (l.drop k) := by
  have e : (l.drop k).length = l.length - k := List.length_drop
  refine Or.inr ⟨by omega, b, o + k, c - k, by omega, by omega, by rw [e], fun i hi => ?_⟩
  rw [List.getElem_drop, Nat.add_assoc]
  exact h (k + i) (by omega)

end Go.Proofs.Ytmbeelakkiodaaa
