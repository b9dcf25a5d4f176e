/-
  Vertices and arcs, compared.
-/
import Derived.Test.YtlfihaajnjeaeaaRNetA
import Derived.Laws.StructEq
namespace Go.Proofs.Ytlfihaajnjeaeaa
open Go.RowKit

theorem fields3 {fs : List Field} {a b c : String} {t0 t1 t2 : TypeId} (h : fs.map (fun f => (f.name, f.type, f.offset)) = [(a, t0, 0), (b, t1, 1), (c, t2, 2)]) : ∃ f0 f1 f2 : Field, fs = [f0, f1, f2] ∧ f0.name = a ∧ f0.type = t0 ∧ f0.offset = 0 ∧ f1.name = b ∧ f1.type = t1 ∧ f1.offset = 1 ∧ f2.name = c ∧ f2.type = t2 ∧ f2.offset = 2 := by
  cases fs with
  | nil => simp at h
  | cons f0 r => cases r with
    | nil => simp at h
    | cons f1 r => cases r with
      | nil => simp at h
      | cons f2 r => cases r with
        | cons f3 r => simp at h
        | nil =>
          simp only [List.map_cons, List.map_nil, List.cons.injEq, Prod.mk.injEq, and_true] at h
          obtain ⟨⟨h1, h2, h3⟩, ⟨h4, h5, h6⟩, h7, h8, h9⟩ := h
          exact ⟨f0, f1, f2, rfl, h1, h2, h3, h4, h5, h6, h7, h8, h9⟩

theorem fields_rvert : (Try.prog.fieldsOf 92).toList.map (fun f => (f.name, f.type, f.offset)) = [("X", 3, 0), ("Y", 3, 1), ("Type", 3, 2)] := by kernel_rfl
theorem held_rvert : Try.prog.stoodInHeld 92 = false := by kernel_rfl
theorem struct_rvert : Try.prog.underlying 92 = some (.struct (Try.prog.fieldsOf 92)) := by kernel_rfl
theorem guard_rvert : Try.prog.eqGuardType Try.prog.depth 92 = false := by kernel_rfl
theorem eq_rvert (x y z x' y' z' : Int) (w : World) : (Op.equalIn 10000 92 (.agg #[.int .i64 x, .int .i64 y, .int .i64 z]) (.agg #[.int .i64 x', .int .i64 y', .int .i64 z'])).run Try.prog w = .ok (x == x' && y == y' && z == z') w := by
  rw [show (10000 : Nat) = 9999 + 1 from rfl, run_equalIn_struct w 9999 92 _ _ struct_rvert held_rvert]
  obtain ⟨f0, f1, f2, e, n0, t0', o0, n1, t1', o1, n2, t2', o2⟩ := fields3 fields_rvert
  rw [e]
  rw [show (9999 : Nat) = 9998 + 1 from rfl]
  simp only [Op.eqFields, n0, n1, n2, t0', t1', t2', o0, o1, o2, ne_eq, show ¬ "X" = "_" by decide, show ¬ "Y" = "_" by decide, show ¬ "Type" = "_" by decide, not_false_eq_true, if_true]
  go_simp
  by_cases h0 : x = x' <;> by_cases h1 : y = y' <;> by_cases h2 : z = z' <;> simp [h0, h1, h2]
theorem neq_rvert (x y z x' y' z' : Int) (w : World) : (binOp .neq 92 (.agg #[.int .i64 x, .int .i64 y, .int .i64 z]) (.agg #[.int .i64 x', .int .i64 y', .int .i64 z'])).run Try.prog w = .ok (.bool (!(x == x' && y == y' && z == z'))) w := by
  rw [run_neq_struct, eq_rvert]
  rfl
theorem eql_rvert (x y z x' y' z' : Int) (w : World) : (binOp .eql 92 (.agg #[.int .i64 x, .int .i64 y, .int .i64 z]) (.agg #[.int .i64 x', .int .i64 y', .int .i64 z'])).run Try.prog w = .ok (.bool (x == x' && y == y' && z == z')) w := by
  rw [run_eql_struct, eq_rvert]
  rfl

theorem fields_rarc : (Try.prog.fieldsOf 35).toList.map (fun f => (f.name, f.type, f.offset)) = [("From", 3, 0), ("To", 3, 1), ("W", 2, 2)] := by kernel_rfl
theorem held_rarc : Try.prog.stoodInHeld 35 = false := by kernel_rfl
theorem struct_rarc : Try.prog.underlying 35 = some (.struct (Try.prog.fieldsOf 35)) := by kernel_rfl
theorem guard_rarc : Try.prog.eqGuardType Try.prog.depth 35 = false := by kernel_rfl
theorem eq_rarc (x y z x' y' z' : Int) (w : World) : (Op.equalIn 10000 35 (.agg #[.int .i64 x, .int .i64 y, .int .i64 z]) (.agg #[.int .i64 x', .int .i64 y', .int .i64 z'])).run Try.prog w = .ok (x == x' && y == y' && z == z') w := by
  rw [show (10000 : Nat) = 9999 + 1 from rfl, run_equalIn_struct w 9999 35 _ _ struct_rarc held_rarc]
  obtain ⟨f0, f1, f2, e, n0, t0', o0, n1, t1', o1, n2, t2', o2⟩ := fields3 fields_rarc
  rw [e]
  rw [show (9999 : Nat) = 9998 + 1 from rfl]
  simp only [Op.eqFields, n0, n1, n2, t0', t1', t2', o0, o1, o2, ne_eq, show ¬ "From" = "_" by decide, show ¬ "To" = "_" by decide, show ¬ "W" = "_" by decide, not_false_eq_true, if_true]
  go_simp
  by_cases h0 : x = x' <;> by_cases h1 : y = y' <;> by_cases h2 : z = z' <;> simp [h0, h1, h2]
theorem neq_rarc (x y z x' y' z' : Int) (w : World) : (binOp .neq 35 (.agg #[.int .i64 x, .int .i64 y, .int .i64 z]) (.agg #[.int .i64 x', .int .i64 y', .int .i64 z'])).run Try.prog w = .ok (.bool (!(x == x' && y == y' && z == z'))) w := by
  rw [run_neq_struct, eq_rarc]
  rfl
theorem eql_rarc (x y z x' y' z' : Int) (w : World) : (binOp .eql 35 (.agg #[.int .i64 x, .int .i64 y, .int .i64 z]) (.agg #[.int .i64 x', .int .i64 y', .int .i64 z'])).run Try.prog w = .ok (.bool (x == x' && y == y' && z == z')) w := by
  rw [run_eql_struct, eq_rarc]
  rfl

end Go.Proofs.Ytlfihaajnjeaeaa
