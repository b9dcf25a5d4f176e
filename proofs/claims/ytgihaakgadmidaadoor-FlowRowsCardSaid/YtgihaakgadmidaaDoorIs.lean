/-
  errors.Is: a chain of one or two Faults round an Errno, asked for just that Errno.
-/
import Derived.Test.YtgihaakgadmidaaDoorAs
import Derived.Lib.IfaceEq
import Derived.Lib.Hide
namespace Go.Proofs.YtgihaakgadmidaaDoor
open Go.RowKit Go.Extern.Stop Go.Stop Go.Extern

/-- Two errors that are one Errno. -/
theorem eql_errno (a : Int) (w : World) : (binOp .eql 38 (.iface 65 (.int .i64 a)) (.iface 65 (.int .i64 a))).run Tryd.prog w = .ok (.bool true) w := by
  have h := Lib.run_eql_iface_int (P := Tryd.prog) w (t := 38) (tx := 65) (k := .i64) (q := .i64) a a Tryd.underlying38 (by kernel_rfl) Tryd.underlying65
  simpa using h

theorem is_typeOfE (v : Value) (w : World) : (ReflectliteType.typeOf #[.iface 65 v]).run Tryd.prog w = .ok (.iface 109 (.agg #[.pointer (some ⟨1, 65, none⟩)])) w := by kernel_rfl

set_option maxHeartbeats 1000000 in
/-- errors.is at the Errno itself. -/
theorem is_here (a : Int) (w : World) :
    Calls Tryd.prog 44 #[.iface 65 (.int .i64 a), .iface 65 (.int .i64 a), .bool true] w fun e w' => e = .returned (.bool true) ∧ w = w' := by
  have q := eql_errno a
  go_enter Tryd.func44, Tryd.ntmps44
  go_wp2
  refine wp_loop_rounds 1 ?_
  rw [rounds_succ]
  go_wp2
  go_ret
  exact ⟨rfl, rfl⟩

set_option maxHeartbeats 1000000 in
/-- errors.is at one Fault round it. -/
theorem is_one (b : Nat) (a : Int) (w : World) (h2 : w.cell? ⟨b, 2, none⟩ = some (.iface 65 (.int .i64 a))) :
    Calls Tryd.prog 44 #[.iface 66 (.pointer (some ⟨b, 0, none⟩)), .iface 65 (.int .i64 a), .bool true] w fun e w' => e = .returned (.bool true) ∧ w = w' := by
  have q := eql_errno a
  have nF := noIsF
  have uF := hasUnwrapF
  have mU := methodUnwrapF
  have hty := run_eql_iface_types (P := Tryd.prog) 66 65 (.pointer (some ⟨b, 0, none⟩)) (.int .i64 a) Tryd.underlying38 (by decide) w
  go_enter Tryd.func44, Tryd.ntmps44
  go_wp2
  refine wp_loop_rounds 2 ?_
  rw [rounds_succ]
  go_wp2
  rw [rounds_succ]
  go_wp2
  go_ret
  exact ⟨rfl, rfl⟩

set_option maxHeartbeats 1000000 in
/-- errors.is at two Faults round it. -/
theorem is_two (b c : Nat) (a : Int) (w : World) (h2 : w.cell? ⟨b, 2, none⟩ = some (.iface 66 (.pointer (some ⟨c, 0, none⟩)))) (h3 : w.cell? ⟨c, 2, none⟩ = some (.iface 65 (.int .i64 a))) :
    Calls Tryd.prog 44 #[.iface 66 (.pointer (some ⟨b, 0, none⟩)), .iface 65 (.int .i64 a), .bool true] w fun e w' => e = .returned (.bool true) ∧ w = w' := by
  have q := eql_errno a
  have nF := noIsF
  have uF := hasUnwrapF
  have mU := methodUnwrapF
  have hty := run_eql_iface_types (P := Tryd.prog) 66 65 (.pointer (some ⟨b, 0, none⟩)) (.int .i64 a) Tryd.underlying38 (by decide) w
  have htz := run_eql_iface_types (P := Tryd.prog) 66 65 (.pointer (some ⟨c, 0, none⟩)) (.int .i64 a) Tryd.underlying38 (by decide) w
  go_enter Tryd.func44, Tryd.ntmps44
  go_wp2
  refine wp_loop_rounds 3 ?_
  rw [rounds_succ]
  go_wp2
  rw [rounds_succ]
  go_wp2
  rw [rounds_succ]
  go_wp2
  go_ret
  exact ⟨rfl, rfl⟩

theorem is_comparableE (w : World) : ((Extern.ReflectliteType.method fun t => do Rtype.noPackHeld "Comparable" t; (fun a => Value.bool a.comparable) <$> typeInfo t) #[.agg #[.pointer (some ⟨1, 65, none⟩)]]).run Tryd.prog w = .ok (.bool true) w := by kernel_rfl

set_option maxHeartbeats 1000000 in
/-- errors.Is, whatever the error that is not nil, where errors.is says so. -/
theorem is_of (T : TypeId) (v : Value) (a : Int) (w : World)
    (h : Calls Tryd.prog 44 #[.iface T v, .iface 65 (.int .i64 a), .bool true] w fun e w' => e = .returned (.bool true) ∧ w = w') :
    Calls Tryd.prog 30 #[.iface T v, .iface 65 (.int .i64 a)] w fun e w' => e = .returned (.bool true) ∧ w = w' := by
  have H := Lib.hid h
  clear h
  have h8 := @run_callFunc_extern Tryd.prog 43 _ Extern.ReflectliteType.typeOf Tryd.func43 (by kernel_rfl) (by kernel_rfl) (by kernel_rfl) (by kernel_rfl)
  have h32 := @run_callFunc_extern Tryd.prog 82 _ (Extern.ReflectliteType.method fun t => do Rtype.noPackHeld "Comparable" t; pure (.bool (← typeInfo t).comparable)) Tryd.func82 (by kernel_rfl) (by kernel_rfl) (by kernel_rfl) (by kernel_rfl)
  have tT := is_typeOfE
  have cT := is_comparableE
  have mR := is_methodComparable
  go_enter Tryd.func30, Tryd.ntmps30
  go_wp2_with (go_at_call 44; refine H.out.mono ?_; rintro e w' ⟨rfl, rfl⟩)
  go_ret
  exact ⟨rfl, rfl⟩

/-- errors.Is of an error's chain (one Fault, or two), asked for what is within. -/
theorem is_chain {w : World} {v : Value} {ps : List (ByteArray × Int)} {a : Int} (h : ErrV w v ps a) (hl : 1 ≤ ps.length) (hm : ps.length ≤ 2) :
    Calls Tryd.prog 30 #[v, .iface 65 (.int .i64 a)] w fun e w' => e = .returned (.bool true) ∧ w = w' := by
  match ps, h, hl, hm with
  | [(p, n)], h, _, _ =>
    obtain ⟨b, u, rfl, _, _, h2, rfl⟩ := h
    exact is_of _ _ a w (is_one b a w h2)
  | [(p, n), (q, m)], h, _, _ =>
    obtain ⟨b, u, rfl, _, _, h2, h⟩ := h
    obtain ⟨c, u, rfl, _, _, h3, rfl⟩ := h
    exact is_of _ _ a w (is_two b c a w h2 h3)
  | _ :: _ :: _ :: _, _, _, hm => simp at hm

end Go.Proofs.YtgihaakgadmidaaDoor
