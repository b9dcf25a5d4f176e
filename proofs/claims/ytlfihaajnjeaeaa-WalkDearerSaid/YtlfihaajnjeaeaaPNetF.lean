/-
  The program's own nets: are two alike?
-/
import Derived.Test.YtlfihaajnjeaeaaPNetA
import Derived.Test.YtlfihaajnjeaeaaRNetD
import Derived.Test.YtlfihaajnjeaeaaA2
namespace Go.Proofs.Ytlfihaajnjeaeaa
open Go.RowKit

theorem fields_pvert : (Try.prog.fieldsOf 106).toList.map (fun f => (f.name, f.type, f.offset)) = [("X", 3, 0), ("Y", 3, 1), ("Type", 3, 2)] := by kernel_rfl
theorem held_pvert : Try.prog.stoodInHeld 106 = false := by kernel_rfl
theorem struct_pvert : Try.prog.underlying 106 = some (.struct (Try.prog.fieldsOf 106)) := by kernel_rfl
theorem guard_pvert : Try.prog.eqGuardType Try.prog.depth 106 = false := by kernel_rfl
theorem eq_pvert (x y z x' y' z' : Int) (w : World) : (Op.equalIn 10000 106 (.agg #[.int .i64 x, .int .i64 y, .int .i64 z]) (.agg #[.int .i64 x', .int .i64 y', .int .i64 z'])).run Try.prog w = .ok (x == x' && y == y' && z == z') w := by
  rw [show (10000 : Nat) = 9999 + 1 from rfl, run_equalIn_struct w 9999 106 _ _ struct_pvert held_pvert]
  obtain ⟨f0, f1, f2, e, n0, t0', o0, n1, t1', o1, n2, t2', o2⟩ := fields3 fields_pvert
  rw [e]
  rw [show (9999 : Nat) = 9998 + 1 from rfl]
  simp only [Op.eqFields, n0, n1, n2, t0', t1', t2', o0, o1, o2, ne_eq, show ¬ "X" = "_" by decide, show ¬ "Y" = "_" by decide, show ¬ "Type" = "_" by decide, not_false_eq_true, if_true]
  go_simp
  by_cases h0 : x = x' <;> by_cases h1 : y = y' <;> by_cases h2 : z = z' <;> simp [h0, h1, h2]
theorem neq_pvert (x y z x' y' z' : Int) (w : World) : (binOp .neq 106 (.agg #[.int .i64 x, .int .i64 y, .int .i64 z]) (.agg #[.int .i64 x', .int .i64 y', .int .i64 z'])).run Try.prog w = .ok (.bool (!(x == x' && y == y' && z == z'))) w := by
  rw [run_neq_struct, eq_pvert]
  rfl
theorem eql_pvert (x y z x' y' z' : Int) (w : World) : (binOp .eql 106 (.agg #[.int .i64 x, .int .i64 y, .int .i64 z]) (.agg #[.int .i64 x', .int .i64 y', .int .i64 z'])).run Try.prog w = .ok (.bool (x == x' && y == y' && z == z')) w := by
  rw [run_eql_struct, eq_pvert]
  rfl

theorem fields_parc : (Try.prog.fieldsOf 72).toList.map (fun f => (f.name, f.type, f.offset)) = [("From", 3, 0), ("To", 3, 1), ("W", 2, 2)] := by kernel_rfl
theorem held_parc : Try.prog.stoodInHeld 72 = false := by kernel_rfl
theorem struct_parc : Try.prog.underlying 72 = some (.struct (Try.prog.fieldsOf 72)) := by kernel_rfl
theorem guard_parc : Try.prog.eqGuardType Try.prog.depth 72 = false := by kernel_rfl
theorem eq_parc (x y z x' y' z' : Int) (w : World) : (Op.equalIn 10000 72 (.agg #[.int .i64 x, .int .i64 y, .int .i64 z]) (.agg #[.int .i64 x', .int .i64 y', .int .i64 z'])).run Try.prog w = .ok (x == x' && y == y' && z == z') w := by
  rw [show (10000 : Nat) = 9999 + 1 from rfl, run_equalIn_struct w 9999 72 _ _ struct_parc held_parc]
  obtain ⟨f0, f1, f2, e, n0, t0', o0, n1, t1', o1, n2, t2', o2⟩ := fields3 fields_parc
  rw [e]
  rw [show (9999 : Nat) = 9998 + 1 from rfl]
  simp only [Op.eqFields, n0, n1, n2, t0', t1', t2', o0, o1, o2, ne_eq, show ¬ "From" = "_" by decide, show ¬ "To" = "_" by decide, show ¬ "W" = "_" by decide, not_false_eq_true, if_true]
  go_simp
  by_cases h0 : x = x' <;> by_cases h1 : y = y' <;> by_cases h2 : z = z' <;> simp [h0, h1, h2]
theorem neq_parc (x y z x' y' z' : Int) (w : World) : (binOp .neq 72 (.agg #[.int .i64 x, .int .i64 y, .int .i64 z]) (.agg #[.int .i64 x', .int .i64 y', .int .i64 z'])).run Try.prog w = .ok (.bool (!(x == x' && y == y' && z == z'))) w := by
  rw [run_neq_struct, eq_parc]
  rfl
theorem eql_parc (x y z x' y' z' : Int) (w : World) : (binOp .eql 72 (.agg #[.int .i64 x, .int .i64 y, .int .i64 z]) (.agg #[.int .i64 x', .int .i64 y', .int .i64 z'])).run Try.prog w = .ok (.bool (x == x' && y == y' && z == z')) w := by
  rw [run_eql_struct, eq_parc]
  rfl


end Go.Proofs.Ytlfihaajnjeaeaa
