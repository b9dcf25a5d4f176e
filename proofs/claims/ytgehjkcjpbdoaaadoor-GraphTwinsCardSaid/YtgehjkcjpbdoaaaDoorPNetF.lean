/-
  The program's own nets: are two alike?
-/
import Derived.Test.YtgehjkcjpbdoaaaDoorPNetA
import Derived.Test.YtgehjkcjpbdoaaaDoorRNetD
import Derived.Test.YtgehjkcjpbdoaaaDoorA2
namespace Go.Proofs.YtgehjkcjpbdoaaaDoor
open Go.RowKit

theorem fields_pvert : (Tryd.prog.fieldsOf 73).toList.map (fun f => (f.name, f.type, f.offset)) = [("X", 3, 0), ("Y", 3, 1), ("Type", 3, 2)] := by kernel_rfl
theorem held_pvert : Tryd.prog.stoodInHeld 73 = false := by kernel_rfl
theorem struct_pvert : Tryd.prog.underlying 73 = some (.struct (Tryd.prog.fieldsOf 73)) := by kernel_rfl
theorem guard_pvert : Tryd.prog.eqGuardType Tryd.prog.depth 73 = false := by kernel_rfl
theorem eq_pvert (x y z x' y' z' : Int) (w : World) : (Op.equalIn 10000 73 (.agg #[.int .i64 x, .int .i64 y, .int .i64 z]) (.agg #[.int .i64 x', .int .i64 y', .int .i64 z'])).run Tryd.prog w = .ok (x == x' && y == y' && z == z') w := by
  rw [show (10000 : Nat) = 9999 + 1 from rfl, run_equalIn_struct w 9999 73 _ _ struct_pvert held_pvert]
  obtain ⟨f0, f1, f2, e, n0, t0', o0, n1, t1', o1, n2, t2', o2⟩ := fields3 fields_pvert
  rw [e]
  rw [show (9999 : Nat) = 9998 + 1 from rfl]
  simp only [Op.eqFields, n0, n1, n2, t0', t1', t2', o0, o1, o2, ne_eq, show ¬ "X" = "_" by decide, show ¬ "Y" = "_" by decide, show ¬ "Type" = "_" by decide, not_false_eq_true, if_true]
  go_simp
  by_cases h0 : x = x' <;> by_cases h1 : y = y' <;> by_cases h2 : z = z' <;> simp [h0, h1, h2]
theorem neq_pvert (x y z x' y' z' : Int) (w : World) : (binOp .neq 73 (.agg #[.int .i64 x, .int .i64 y, .int .i64 z]) (.agg #[.int .i64 x', .int .i64 y', .int .i64 z'])).run Tryd.prog w = .ok (.bool (!(x == x' && y == y' && z == z'))) w := by
  rw [run_neq_struct, eq_pvert]
  rfl
theorem eql_pvert (x y z x' y' z' : Int) (w : World) : (binOp .eql 73 (.agg #[.int .i64 x, .int .i64 y, .int .i64 z]) (.agg #[.int .i64 x', .int .i64 y', .int .i64 z'])).run Tryd.prog w = .ok (.bool (x == x' && y == y' && z == z')) w := by
  rw [run_eql_struct, eq_pvert]
  rfl

theorem fields_parc : (Tryd.prog.fieldsOf 42).toList.map (fun f => (f.name, f.type, f.offset)) = [("From", 3, 0), ("To", 3, 1), ("W", 2, 2)] := by kernel_rfl
theorem held_parc : Tryd.prog.stoodInHeld 42 = false := by kernel_rfl
theorem struct_parc : Tryd.prog.underlying 42 = some (.struct (Tryd.prog.fieldsOf 42)) := by kernel_rfl
theorem guard_parc : Tryd.prog.eqGuardType Tryd.prog.depth 42 = false := by kernel_rfl
theorem eq_parc (x y z x' y' z' : Int) (w : World) : (Op.equalIn 10000 42 (.agg #[.int .i64 x, .int .i64 y, .int .i64 z]) (.agg #[.int .i64 x', .int .i64 y', .int .i64 z'])).run Tryd.prog w = .ok (x == x' && y == y' && z == z') w := by
  rw [show (10000 : Nat) = 9999 + 1 from rfl, run_equalIn_struct w 9999 42 _ _ struct_parc held_parc]
  obtain ⟨f0, f1, f2, e, n0, t0', o0, n1, t1', o1, n2, t2', o2⟩ := fields3 fields_parc
  rw [e]
  rw [show (9999 : Nat) = 9998 + 1 from rfl]
  simp only [Op.eqFields, n0, n1, n2, t0', t1', t2', o0, o1, o2, ne_eq, show ¬ "From" = "_" by decide, show ¬ "To" = "_" by decide, show ¬ "W" = "_" by decide, not_false_eq_true, if_true]
  go_simp
  by_cases h0 : x = x' <;> by_cases h1 : y = y' <;> by_cases h2 : z = z' <;> simp [h0, h1, h2]
theorem neq_parc (x y z x' y' z' : Int) (w : World) : (binOp .neq 42 (.agg #[.int .i64 x, .int .i64 y, .int .i64 z]) (.agg #[.int .i64 x', .int .i64 y', .int .i64 z'])).run Tryd.prog w = .ok (.bool (!(x == x' && y == y' && z == z'))) w := by
  rw [run_neq_struct, eq_parc]
  rfl
theorem eql_parc (x y z x' y' z' : Int) (w : World) : (binOp .eql 42 (.agg #[.int .i64 x, .int .i64 y, .int .i64 z]) (.agg #[.int .i64 x', .int .i64 y', .int .i64 z'])).run Tryd.prog w = .ok (.bool (x == x' && y == y' && z == z')) w := by
  rw [run_eql_struct, eq_parc]
  rfl


end Go.Proofs.YtgehjkcjpbdoaaaDoor
