/-
  errors.As, as the program's own checks ask it: a Fault as a Fault; an Errno as no Fault; an Errno as an Errno. Go's own text of errors.As and errors.as is walked.
-/
import Derived.Test.YtleheaffipokfaaDoorErrM
import Derived.LaidEql
import Derived.Stop.Asserts
import Derived.RowKitTokens
import Derived.Lib.IfaceEq
import Derived.Lib.Hide
import Derived.RegionTactic
import Derived.StillTactics
import Derived.WalkSpells
import Derived.WalkLawsBesides
namespace Go.Proofs.YtleheaffipokfaaDoor
open Go.RowKit Go.Extern.Stop Go.Stop Go.Extern

/-! ### closed facts on the model's entries for internal/reflectlite -/
theorem as_valueOfPF (t : Addr) (w : World) : (ReflectliteValue.unpack (.iface 61 (.pointer (some t)))).run Tryd.prog w
    = .ok (.agg #[.pointer (some ⟨1, 61, none⟩), .pointer (some ⟨w.heap.size, 0, none⟩), .int .u64 150]) (w.alloc (.cells #[.pointer (some t)] 61)) := by kernel_rfl
theorem as_typePF (a : Addr) (w : World) : (ReflectliteValue.methodAny (ReflectliteValue.valueError "reflectlite.Value.Type" 0) (fun t _ _ _ => ReflectliteType.toType t) #[.agg #[.pointer (some ⟨1, 61, none⟩), .pointer (some a), .int .u64 150]]).run Tryd.prog w
    = .ok (.iface 102 (.agg #[.pointer (some ⟨1, 61, none⟩)])) w := by kernel_rfl
theorem as_methodKind (h : Value) (w : World) : (Go.method 254 102 (.agg #[h]) "Kind").run Tryd.prog w = .ok (65, h) w := by kernel_rfl
theorem as_methodElem (h : Value) (w : World) : (Go.method 254 102 (.agg #[h]) "Elem").run Tryd.prog w = .ok (77, .agg #[h]) w := by kernel_rfl
theorem as_methodImplements (h : Value) (w : World) : (Go.method 254 102 (.agg #[h]) "Implements").run Tryd.prog w = .ok (78, .agg #[h]) w := by kernel_rfl
theorem as_methodAssignableTo (h : Value) (w : World) : (Go.method 254 102 (.agg #[h]) "AssignableTo").run Tryd.prog w = .ok (75, .agg #[h]) w := by kernel_rfl
theorem as_kindPF (w : World) : ((ReflectliteType.abiMethod fun t => (fun a : Nat => Value.int IntKind.u8 (a : Int)) <$> Rtype.kind t) #[.pointer (some ⟨1, 61, none⟩)]).run Tryd.prog w = .ok (.int .u8 22) w := by kernel_rfl
theorem as_kindF (w : World) : ((ReflectliteType.abiMethod fun t => (fun a : Nat => Value.int IntKind.u8 (a : Int)) <$> Rtype.kind t) #[.pointer (some ⟨1, 59, none⟩)]).run Tryd.prog w = .ok (.int .u8 22) w := by kernel_rfl
theorem as_partsPF (a : Addr) (w : World) : (ReflectliteValue.parts (.agg #[.pointer (some ⟨1, 61, none⟩), .pointer (some a), .int .u64 150])).run Tryd.prog w = .ok (some (61, a, 150)) w := by kernel_rfl
theorem as_isNilPF (a p : Addr) (W : World) (ha : W.cell? a = some (.pointer (some p))) :
    (ReflectliteValue.method (ReflectliteValue.valueError "reflectlite.Value.IsNil" 0) ReflectliteValue.isNil #[.agg #[.pointer (some ⟨1, 61, none⟩), .pointer (some a), .int .u64 150]]).run Tryd.prog W = .ok (.bool false) W := by
  show Sem.run _ (Bind.bind (ReflectliteValue.parts (.agg #[.pointer (some ⟨1, 61, none⟩), .pointer (some a), .int .u64 150])) _) W = _
  simp only [Sem.run_bind, as_partsPF, Result.andThen]
  simp [ReflectliteValue.isNil, loadVar, isAgg, underlying, Tryd.underlying61, ha, Result.andThen]
theorem as_elemPF (w : World) : (ReflectliteType.method ReflectliteType.elem #[.agg #[.pointer (some ⟨1, 61, none⟩)]]).run Tryd.prog w = .ok (.iface 102 (.agg #[.pointer (some ⟨1, 59, none⟩)])) w := by kernel_rfl
theorem as_implementsF (w : World) : (ReflectliteType.relation "Implements" ReflectliteType.implements_ #[.agg #[.pointer (some ⟨1, 59, none⟩)], .iface 102 (.agg #[.pointer (some ⟨1, 35, none⟩)])]).run Tryd.prog w = .ok (.bool true) w := by kernel_rfl
theorem as_typeOfF (v : Value) (w : World) : (ReflectliteType.typeOf #[.iface 59 v]).run Tryd.prog w = .ok (.iface 102 (.agg #[.pointer (some ⟨1, 59, none⟩)])) w := by kernel_rfl
theorem as_typeOfE (v : Value) (w : World) : (ReflectliteType.typeOf #[.iface 58 v]).run Tryd.prog w = .ok (.iface 102 (.agg #[.pointer (some ⟨1, 58, none⟩)])) w := by kernel_rfl
theorem as_assignableFF (w : World) : (ReflectliteType.relation "AssignableTo" ReflectliteType.assignableTo #[.agg #[.pointer (some ⟨1, 59, none⟩)], .iface 102 (.agg #[.pointer (some ⟨1, 59, none⟩)])]).run Tryd.prog w = .ok (.bool true) w := by kernel_rfl
theorem as_assignableEF (w : World) : (ReflectliteType.relation "AssignableTo" ReflectliteType.assignableTo #[.agg #[.pointer (some ⟨1, 58, none⟩)], .iface 102 (.agg #[.pointer (some ⟨1, 59, none⟩)])]).run Tryd.prog w = .ok (.bool false) w := by kernel_rfl
theorem as_valueOfF (e : Addr) (w : World) : (ReflectliteValue.unpack (.iface 59 (.pointer (some e)))).run Tryd.prog w
    = .ok (.agg #[.pointer (some ⟨1, 59, none⟩), .pointer (some ⟨w.heap.size, 0, none⟩), .int .u64 150]) (w.alloc (.cells #[.pointer (some e)] 59)) := by kernel_rfl
theorem as_elemOfPF (w : World) : (Rtype.elem? 61).run Tryd.prog w = .ok (some 59) w := by kernel_rfl
theorem as_mkF (p : Addr) (w : World) : (ReflectliteValue.mk 59 p ReflectliteValue.flagAddr).run Tryd.prog w = .ok (.agg #[.pointer (some ⟨1, 59, none⟩), .pointer (some p), .int .u64 406]) w := by kernel_rfl
theorem as_elemVPF (a p : Addr) (W : World) (ha : W.cell? a = some (.pointer (some p))) :
    (ReflectliteValue.method (ReflectliteValue.valueError "reflectlite.Value.Elem" 0) ReflectliteValue.elem #[.agg #[.pointer (some ⟨1, 61, none⟩), .pointer (some a), .int .u64 150]]).run Tryd.prog W
      = .ok (.agg #[.pointer (some ⟨1, 59, none⟩), .pointer (some p), .int .u64 406]) W := by
  show Sem.run _ (Bind.bind (ReflectliteValue.parts (.agg #[.pointer (some ⟨1, 61, none⟩), .pointer (some a), .int .u64 150])) _) W = _
  simp only [Sem.run_bind, as_partsPF, Result.andThen]
  simp [ReflectliteValue.elem, loadVar, isAgg, underlying, Tryd.underlying61, ha, Result.andThen, as_elemOfPF, as_mkF]
theorem as_partsFa (a : Addr) (w : World) : (ReflectliteValue.parts (.agg #[.pointer (some ⟨1, 59, none⟩), .pointer (some a), .int .u64 406])).run Tryd.prog w = .ok (some (59, a, 406)) w := by kernel_rfl
theorem as_partsF (a : Addr) (w : World) : (ReflectliteValue.parts (.agg #[.pointer (some ⟨1, 59, none⟩), .pointer (some a), .int .u64 150])).run Tryd.prog w = .ok (some (59, a, 150)) w := by kernel_rfl
theorem as_directF (w : World) : (Rtype.directlyAssignable 59 59).run Tryd.prog w = .ok true w := by kernel_rfl
theorem as_setF (ta b e : Addr) (old : Value) (W : World) (hb : W.cell? b = some (.pointer (some e))) (ht : W.cell? ta = some old) (hf : W.frozen? ta = false) :
    (ReflectliteValue.set #[.agg #[.pointer (some ⟨1, 59, none⟩), .pointer (some ta), .int .u64 406], .agg #[.pointer (some ⟨1, 59, none⟩), .pointer (some b), .int .u64 150]]).run Tryd.prog W
      = .ok (.tuple #[]) (W.setCell ta (.pointer (some e))) := by
  show Sem.run _ (Bind.bind (ReflectliteValue.parts (.agg #[.pointer (some ⟨1, 59, none⟩), .pointer (some ta), .int .u64 406])) fun _ => Bind.bind (ReflectliteValue.parts (.agg #[.pointer (some ⟨1, 59, none⟩), .pointer (some b), .int .u64 150])) _) W = _
  simp only [Sem.run_bind, as_partsFa, as_partsF, Result.andThen]
  simp [ReflectliteValue.flagAddr, loadVar, isAgg, underlying, Tryd.underlying59, hb, Result.andThen, as_directF, storeVar, Value.cells, storeCells, Addr.add]
  rw [run_store Tryd.prog W ta _ _ (by rfl)]
  simp [ht, hf]

/-! ### the same at an Errno's own type -/
theorem as_valueOfPE (t : Addr) (w : World) : (ReflectliteValue.unpack (.iface 66 (.pointer (some t)))).run Tryd.prog w
    = .ok (.agg #[.pointer (some ⟨1, 66, none⟩), .pointer (some ⟨w.heap.size, 0, none⟩), .int .u64 150]) (w.alloc (.cells #[.pointer (some t)] 66)) := by kernel_rfl
theorem as_typePE (a : Addr) (w : World) : (ReflectliteValue.methodAny (ReflectliteValue.valueError "reflectlite.Value.Type" 0) (fun t _ _ _ => ReflectliteType.toType t) #[.agg #[.pointer (some ⟨1, 66, none⟩), .pointer (some a), .int .u64 150]]).run Tryd.prog w
    = .ok (.iface 102 (.agg #[.pointer (some ⟨1, 66, none⟩)])) w := by kernel_rfl
theorem as_kindPE (w : World) : ((ReflectliteType.abiMethod fun t => (fun a : Nat => Value.int IntKind.u8 (a : Int)) <$> Rtype.kind t) #[.pointer (some ⟨1, 66, none⟩)]).run Tryd.prog w = .ok (.int .u8 22) w := by kernel_rfl
theorem as_kindE (w : World) : ((ReflectliteType.abiMethod fun t => (fun a : Nat => Value.int IntKind.u8 (a : Int)) <$> Rtype.kind t) #[.pointer (some ⟨1, 58, none⟩)]).run Tryd.prog w = .ok (.int .u8 2) w := by kernel_rfl
theorem as_partsPE (a : Addr) (w : World) : (ReflectliteValue.parts (.agg #[.pointer (some ⟨1, 66, none⟩), .pointer (some a), .int .u64 150])).run Tryd.prog w = .ok (some (66, a, 150)) w := by kernel_rfl
theorem as_isNilPE (a p : Addr) (W : World) (ha : W.cell? a = some (.pointer (some p))) :
    (ReflectliteValue.method (ReflectliteValue.valueError "reflectlite.Value.IsNil" 0) ReflectliteValue.isNil #[.agg #[.pointer (some ⟨1, 66, none⟩), .pointer (some a), .int .u64 150]]).run Tryd.prog W = .ok (.bool false) W := by
  show Sem.run _ (Bind.bind (ReflectliteValue.parts (.agg #[.pointer (some ⟨1, 66, none⟩), .pointer (some a), .int .u64 150])) _) W = _
  simp only [Sem.run_bind, as_partsPE, Result.andThen]
  simp [ReflectliteValue.isNil, loadVar, isAgg, underlying, Tryd.underlying66, ha, Result.andThen]
theorem as_elemPE (w : World) : (ReflectliteType.method ReflectliteType.elem #[.agg #[.pointer (some ⟨1, 66, none⟩)]]).run Tryd.prog w = .ok (.iface 102 (.agg #[.pointer (some ⟨1, 58, none⟩)])) w := by kernel_rfl
theorem as_implementsE (w : World) : (ReflectliteType.relation "Implements" ReflectliteType.implements_ #[.agg #[.pointer (some ⟨1, 58, none⟩)], .iface 102 (.agg #[.pointer (some ⟨1, 35, none⟩)])]).run Tryd.prog w = .ok (.bool true) w := by kernel_rfl
theorem as_assignableEE (w : World) : (ReflectliteType.relation "AssignableTo" ReflectliteType.assignableTo #[.agg #[.pointer (some ⟨1, 58, none⟩)], .iface 102 (.agg #[.pointer (some ⟨1, 58, none⟩)])]).run Tryd.prog w = .ok (.bool true) w := by kernel_rfl
theorem as_valueOfE (n : Int) (w : World) : (ReflectliteValue.unpack (.iface 58 (.int .i64 n))).run Tryd.prog w
    = .ok (.agg #[.pointer (some ⟨1, 58, none⟩), .pointer (some ⟨w.heap.size, 0, none⟩), .int .u64 130]) (w.alloc (.cells #[.int .i64 n] 58)) := by kernel_rfl
theorem as_elemOfPE (w : World) : (Rtype.elem? 66).run Tryd.prog w = .ok (some 58) w := by kernel_rfl
theorem as_mkE (p : Addr) (w : World) : (ReflectliteValue.mk 58 p ReflectliteValue.flagAddr).run Tryd.prog w = .ok (.agg #[.pointer (some ⟨1, 58, none⟩), .pointer (some p), .int .u64 386]) w := by kernel_rfl
theorem as_elemVPE (a p : Addr) (W : World) (ha : W.cell? a = some (.pointer (some p))) :
    (ReflectliteValue.method (ReflectliteValue.valueError "reflectlite.Value.Elem" 0) ReflectliteValue.elem #[.agg #[.pointer (some ⟨1, 66, none⟩), .pointer (some a), .int .u64 150]]).run Tryd.prog W
      = .ok (.agg #[.pointer (some ⟨1, 58, none⟩), .pointer (some p), .int .u64 386]) W := by
  show Sem.run _ (Bind.bind (ReflectliteValue.parts (.agg #[.pointer (some ⟨1, 66, none⟩), .pointer (some a), .int .u64 150])) _) W = _
  simp only [Sem.run_bind, as_partsPE, Result.andThen]
  simp [ReflectliteValue.elem, loadVar, isAgg, underlying, Tryd.underlying66, ha, Result.andThen, as_elemOfPE, as_mkE]
theorem as_partsEa (a : Addr) (w : World) : (ReflectliteValue.parts (.agg #[.pointer (some ⟨1, 58, none⟩), .pointer (some a), .int .u64 386])).run Tryd.prog w = .ok (some (58, a, 386)) w := by kernel_rfl
theorem as_partsE (a : Addr) (w : World) : (ReflectliteValue.parts (.agg #[.pointer (some ⟨1, 58, none⟩), .pointer (some a), .int .u64 130])).run Tryd.prog w = .ok (some (58, a, 130)) w := by kernel_rfl
theorem as_directE (w : World) : (Rtype.directlyAssignable 58 58).run Tryd.prog w = .ok true w := by kernel_rfl
theorem as_setE (ta b : Addr) (n : Int) (old : Value) (W : World) (hb : W.cell? b = some (.int .i64 n)) (ht : W.cell? ta = some old) (hf : W.frozen? ta = false) :
    (ReflectliteValue.set #[.agg #[.pointer (some ⟨1, 58, none⟩), .pointer (some ta), .int .u64 386], .agg #[.pointer (some ⟨1, 58, none⟩), .pointer (some b), .int .u64 130]]).run Tryd.prog W
      = .ok (.tuple #[]) (W.setCell ta (.int .i64 n)) := by
  show Sem.run _ (Bind.bind (ReflectliteValue.parts (.agg #[.pointer (some ⟨1, 58, none⟩), .pointer (some ta), .int .u64 386])) fun _ => Bind.bind (ReflectliteValue.parts (.agg #[.pointer (some ⟨1, 58, none⟩), .pointer (some b), .int .u64 130])) _) W = _
  simp only [Sem.run_bind, as_partsEa, as_partsE, Result.andThen]
  simp [ReflectliteValue.flagAddr, loadVar, isAgg, underlying, Tryd.underlying58, hb, Result.andThen, as_directE, storeVar, Value.cells, storeCells, Addr.add]
  rw [run_store Tryd.prog W ta _ _ (by rfl)]
  simp [ht, hf]

/-! ### what the assertions of errors.Is and errors.As find -/
theorem noAsE (v : Value) (xT : TypeId) (w : World) : (Instr.typeAssert (.iface 58 v) xT 114 true).run Tryd.prog w = .ok (.tuple #[.nilIface, .bool false]) w := run_typeAssert_lacksB Tryd.underlying114 (by kernel_rfl) (by kernel_rfl) v xT w
theorem noIsE (v : Value) (xT : TypeId) (w : World) : (Instr.typeAssert (.iface 58 v) xT 104 true).run Tryd.prog w = .ok (.tuple #[.nilIface, .bool false]) w := run_typeAssert_lacksB Tryd.underlying104 (by kernel_rfl) (by kernel_rfl) v xT w
theorem noUnwrapE (v : Value) (xT : TypeId) (w : World) : (Instr.typeAssert (.iface 58 v) xT 107 true).run Tryd.prog w = .ok (.tuple #[.nilIface, .bool false]) w := run_typeAssert_lacksB Tryd.underlying107 (by kernel_rfl) (by kernel_rfl) v xT w
theorem noUnwrapsE (v : Value) (xT : TypeId) (w : World) : (Instr.typeAssert (.iface 58 v) xT 109 true).run Tryd.prog w = .ok (.tuple #[.nilIface, .bool false]) w := run_typeAssert_lacksB Tryd.underlying109 (by kernel_rfl) (by kernel_rfl) v xT w
theorem noIsF (v : Value) (xT : TypeId) (w : World) : (Instr.typeAssert (.iface 59 v) xT 104 true).run Tryd.prog w = .ok (.tuple #[.nilIface, .bool false]) w := run_typeAssert_lacksB Tryd.underlying104 (by kernel_rfl) (by kernel_rfl) v xT w
theorem hasUnwrapF (v : Value) (xT : TypeId) (w : World) : (Instr.typeAssert (.iface 59 v) xT 107 true).run Tryd.prog w = .ok (.tuple #[.iface 59 v, .bool true]) w := run_typeAssert_hasB Tryd.underlying107 (by kernel_rfl) v xT w
theorem methodUnwrapF (v : Value) (w : World) : (Go.method 254 59 v "Unwrap").run Tryd.prog w = .ok (70, v) w := by kernel_rfl
theorem is_methodComparable (v : Value) (w : World) : (Go.method 254 102 v "Comparable").run Tryd.prog w = .ok (76, v) w := by kernel_rfl

end Go.Proofs.YtleheaffipokfaaDoor

/-
  errors.As at a Fault that is one, and at an Errno that is none.
-/
namespace Go.Proofs.YtleheaffipokfaaDoor
open Go.RowKit Go.Extern.Stop Go.Stop Go.Extern

/-- The variable errors.errorType holds the type error's own handle. -/
def ErrT (w : World) : Prop := w.cell? ⟨0, 0, none⟩ = some (.iface 102 (.agg #[.pointer (some ⟨1, 35, none⟩)]))
theorem ErrT.lt {w : World} (h : ErrT w) : 0 < w.heap.size := World.block_lt_of_cell? w _ h
theorem ErrT.below {B : Nat} {w w' : World} (hB : 0 < B) (hb : Below B w w') (h : ErrT w) : ErrT w' := (hb.cell hB).trans h

theorem as_nil (t : Value) (w : World) :
    Calls Tryd.prog 25 #[.nilIface, t] w fun e w' => e = .returned (.bool false) ∧ w = w' := by
  go_enter Tryd.func25, Tryd.ntmps25
  go_wp2
  go_ret
  exact ⟨rfl, rfl⟩

set_option maxHeartbeats 4000000 in
theorem as_fault (e t : Addr) (old : Value) (w : World) (hg : ErrT w) (ht0 : w.cell? t = some old) (hf0 : w.frozen? t = false) :
    Calls Tryd.prog 25 #[.iface 59 (.pointer (some e)), .iface 61 (.pointer (some t))] w fun ev w' => ev = .returned (.bool true) ∧ ∃ w1, Below w.heap.size w w1 ∧ w' = w1.setCell t (.pointer (some e)) := by
  unfold ErrT at hg
  have h6 := @run_callFunc_extern Tryd.prog 39 _ (fun args => ReflectliteValue.unpack (args.getD 0 (.tuple #[]))) Tryd.func39 (by kernel_rfl) (by kernel_rfl) (by kernel_rfl) (by kernel_rfl)
  have h7 := @run_callFunc_extern Tryd.prog 40 _ (ReflectliteValue.methodAny (ReflectliteValue.valueError "reflectlite.Value.Type" 0) (fun t _ _ _ => ReflectliteType.toType t)) Tryd.func40 (by kernel_rfl) (by kernel_rfl) (by kernel_rfl) (by kernel_rfl)
  have h8 := @run_callFunc_extern Tryd.prog 41 _ (ReflectliteValue.method (ReflectliteValue.valueError "reflectlite.Value.IsNil" 0) ReflectliteValue.isNil) Tryd.func41 (by kernel_rfl) (by kernel_rfl) (by kernel_rfl) (by kernel_rfl)
  have h27 := @run_callFunc_extern Tryd.prog 65 _ (ReflectliteType.abiMethod fun t => do pure (.int .u8 (← Rtype.kind t))) Tryd.func65 (by kernel_rfl) (by kernel_rfl) (by kernel_rfl) (by kernel_rfl)
  have h37 := @run_callFunc_extern Tryd.prog 77 _ (ReflectliteType.method ReflectliteType.elem) Tryd.func77 (by kernel_rfl) (by kernel_rfl) (by kernel_rfl) (by kernel_rfl)
  have h38 := @run_callFunc_extern Tryd.prog 78 _ (ReflectliteType.relation "Implements" ReflectliteType.implements_) Tryd.func78 (by kernel_rfl) (by kernel_rfl) (by kernel_rfl) (by kernel_rfl)
  have h10 := @run_callFunc_extern Tryd.prog 37 _ ReflectliteType.typeOf Tryd.func37 (by kernel_rfl) (by kernel_rfl) (by kernel_rfl) (by kernel_rfl)
  have h35 := @run_callFunc_extern Tryd.prog 75 _ (ReflectliteType.relation "AssignableTo" ReflectliteType.assignableTo) Tryd.func75 (by kernel_rfl) (by kernel_rfl) (by kernel_rfl) (by kernel_rfl)
  have h11 := @run_callFunc_extern Tryd.prog 46 _ (ReflectliteValue.method (ReflectliteValue.valueError "reflectlite.Value.Elem" 0) ReflectliteValue.elem) Tryd.func46 (by kernel_rfl) (by kernel_rfl) (by kernel_rfl) (by kernel_rfl)
  have h12 := @run_callFunc_extern Tryd.prog 47 _ ReflectliteValue.set Tryd.func47 (by kernel_rfl) (by kernel_rfl) (by kernel_rfl) (by kernel_rfl)
  have tO := as_typeOfF
  have mA := as_methodAssignableTo
  have a25 := as_assignableFF
  have v25 := as_valueOfF
  have f6 := as_valueOfPF
  have f7 := as_typePF
  have mK := as_methodKind
  have mE := as_methodElem
  have mI := as_methodImplements
  have k27 := as_kindPF
  have k25 := as_kindF
  have e27 := as_elemPF
  have i25 := as_implementsF
  have n8 := as_isNilPF ⟨w.heap.size, 0, none⟩ t ((w.alloc (.cells #[.pointer (some t)] 61)).alloc (.cells #[.pointer (some ⟨1, 61, none⟩), .pointer (some ⟨w.heap.size, 0, none⟩), .int .u64 150] 89)) (by simp)
  have hlt : 0 < w.heap.size := World.block_lt_of_cell? w _ hg
  have hg2 : ((w.alloc (.cells #[.pointer (some t)] 61)).alloc (.cells #[.pointer (some ⟨1, 61, none⟩), .pointer (some ⟨w.heap.size, 0, none⟩), .int .u64 150] 89)).cell? ⟨0, 0, none⟩ = some (.iface 102 (.agg #[.pointer (some ⟨1, 35, none⟩)])) := by
    rw [World.cell?_alloc_lt _ _ ⟨0, 0, none⟩ (by simp), World.cell?_alloc_lt _ _ ⟨0, 0, none⟩ hlt]; exact hg
  have htl : t.block < w.heap.size := World.block_lt_of_cell? w _ ht0
  have el := as_elemVPF ⟨w.heap.size, 0, none⟩ t (((w.alloc (.cells #[.pointer (some t)] 61)).alloc (.cells #[.pointer (some ⟨1, 61, none⟩), .pointer (some ⟨w.heap.size, 0, none⟩), .int .u64 150] 89)).alloc (.cells #[.pointer (some ⟨1, 61, none⟩), .pointer (some ⟨w.heap.size, 0, none⟩), .int .u64 150] 89)) (by rw [World.cell?_alloc_lt _ _ ⟨w.heap.size, 0, none⟩ (by simp; omega)]; simp)
  have st := as_setF t ⟨w.heap.size + 1 + 1 + 1, 0, none⟩ e old ((((w.alloc (.cells #[.pointer (some t)] 61)).alloc (.cells #[.pointer (some ⟨1, 61, none⟩), .pointer (some ⟨w.heap.size, 0, none⟩), .int .u64 150] 89)).alloc (.cells #[.pointer (some ⟨1, 61, none⟩), .pointer (some ⟨w.heap.size, 0, none⟩), .int .u64 150] 89)).alloc (.cells #[.pointer (some e)] 59))
    (by rw [World.cell?_alloc_at _ _ _ _ (by simp)]; rfl)
    (by rw [World.cell?_alloc_lt _ _ t (by simp; omega), World.cell?_alloc_lt _ _ t (by simp; omega), World.cell?_alloc_lt _ _ t (by simp; omega), World.cell?_alloc_lt _ _ t htl]; exact ht0)
    (by rw [World.frozen?_alloc_old _ _ t (by simp; omega), World.frozen?_alloc_old _ _ t (by simp; omega), World.frozen?_alloc_old _ _ t (by simp; omega), World.frozen?_alloc_old _ _ t (Nat.ne_of_lt htl)]; exact hf0)
  go_enter Tryd.func25, Tryd.ntmps25
  go_wp2
  refine wp_loop_rounds 1 ?_
  rw [rounds_succ]
  go_wp2
  go_ret
  exact ⟨rfl, _, ((((Below.refl _ _).alloc (Nat.le_refl _) _).alloc (by simp) _).alloc (by simp; omega) _).alloc (by simp; omega) _, rfl⟩

set_option maxHeartbeats 4000000 in
theorem as_errno (n : Int) (t : Addr) (old : Value) (w : World) (hg : ErrT w) (ht0 : w.cell? t = some old) (hf0 : w.frozen? t = false) :
    Calls Tryd.prog 25 #[.iface 58 (.int .i64 n), .iface 66 (.pointer (some t))] w fun ev w' => ev = .returned (.bool true) ∧ ∃ w1, Below w.heap.size w w1 ∧ w' = w1.setCell t (.int .i64 n) := by
  unfold ErrT at hg
  have h6 := @run_callFunc_extern Tryd.prog 39 _ (fun args => ReflectliteValue.unpack (args.getD 0 (.tuple #[]))) Tryd.func39 (by kernel_rfl) (by kernel_rfl) (by kernel_rfl) (by kernel_rfl)
  have h7 := @run_callFunc_extern Tryd.prog 40 _ (ReflectliteValue.methodAny (ReflectliteValue.valueError "reflectlite.Value.Type" 0) (fun t _ _ _ => ReflectliteType.toType t)) Tryd.func40 (by kernel_rfl) (by kernel_rfl) (by kernel_rfl) (by kernel_rfl)
  have h8 := @run_callFunc_extern Tryd.prog 41 _ (ReflectliteValue.method (ReflectliteValue.valueError "reflectlite.Value.IsNil" 0) ReflectliteValue.isNil) Tryd.func41 (by kernel_rfl) (by kernel_rfl) (by kernel_rfl) (by kernel_rfl)
  have h27 := @run_callFunc_extern Tryd.prog 65 _ (ReflectliteType.abiMethod fun t => do pure (.int .u8 (← Rtype.kind t))) Tryd.func65 (by kernel_rfl) (by kernel_rfl) (by kernel_rfl) (by kernel_rfl)
  have h37 := @run_callFunc_extern Tryd.prog 77 _ (ReflectliteType.method ReflectliteType.elem) Tryd.func77 (by kernel_rfl) (by kernel_rfl) (by kernel_rfl) (by kernel_rfl)
  have h38 := @run_callFunc_extern Tryd.prog 78 _ (ReflectliteType.relation "Implements" ReflectliteType.implements_) Tryd.func78 (by kernel_rfl) (by kernel_rfl) (by kernel_rfl) (by kernel_rfl)
  have h10 := @run_callFunc_extern Tryd.prog 37 _ ReflectliteType.typeOf Tryd.func37 (by kernel_rfl) (by kernel_rfl) (by kernel_rfl) (by kernel_rfl)
  have h35 := @run_callFunc_extern Tryd.prog 75 _ (ReflectliteType.relation "AssignableTo" ReflectliteType.assignableTo) Tryd.func75 (by kernel_rfl) (by kernel_rfl) (by kernel_rfl) (by kernel_rfl)
  have h11 := @run_callFunc_extern Tryd.prog 46 _ (ReflectliteValue.method (ReflectliteValue.valueError "reflectlite.Value.Elem" 0) ReflectliteValue.elem) Tryd.func46 (by kernel_rfl) (by kernel_rfl) (by kernel_rfl) (by kernel_rfl)
  have h12 := @run_callFunc_extern Tryd.prog 47 _ ReflectliteValue.set Tryd.func47 (by kernel_rfl) (by kernel_rfl) (by kernel_rfl) (by kernel_rfl)
  have tO := as_typeOfE
  have mA := as_methodAssignableTo
  have a25 := as_assignableEE
  have v25 := as_valueOfE
  have f6 := as_valueOfPE
  have f7 := as_typePE
  have mK := as_methodKind
  have mE := as_methodElem
  have mI := as_methodImplements
  have k27 := as_kindPE
  have k25 := as_kindE
  have e27 := as_elemPE
  have i25 := as_implementsE
  have n8 := as_isNilPE ⟨w.heap.size, 0, none⟩ t ((w.alloc (.cells #[.pointer (some t)] 66)).alloc (.cells #[.pointer (some ⟨1, 66, none⟩), .pointer (some ⟨w.heap.size, 0, none⟩), .int .u64 150] 89)) (by simp)
  have hlt : 0 < w.heap.size := World.block_lt_of_cell? w _ hg
  have hg2 : ((w.alloc (.cells #[.pointer (some t)] 66)).alloc (.cells #[.pointer (some ⟨1, 66, none⟩), .pointer (some ⟨w.heap.size, 0, none⟩), .int .u64 150] 89)).cell? ⟨0, 0, none⟩ = some (.iface 102 (.agg #[.pointer (some ⟨1, 35, none⟩)])) := by
    rw [World.cell?_alloc_lt _ _ ⟨0, 0, none⟩ (by simp), World.cell?_alloc_lt _ _ ⟨0, 0, none⟩ hlt]; exact hg
  have htl : t.block < w.heap.size := World.block_lt_of_cell? w _ ht0
  have el := as_elemVPE ⟨w.heap.size, 0, none⟩ t (((w.alloc (.cells #[.pointer (some t)] 66)).alloc (.cells #[.pointer (some ⟨1, 66, none⟩), .pointer (some ⟨w.heap.size, 0, none⟩), .int .u64 150] 89)).alloc (.cells #[.pointer (some ⟨1, 66, none⟩), .pointer (some ⟨w.heap.size, 0, none⟩), .int .u64 150] 89)) (by rw [World.cell?_alloc_lt _ _ ⟨w.heap.size, 0, none⟩ (by simp; omega)]; simp)
  have st := as_setE t ⟨w.heap.size + 1 + 1 + 1, 0, none⟩ n old ((((w.alloc (.cells #[.pointer (some t)] 66)).alloc (.cells #[.pointer (some ⟨1, 66, none⟩), .pointer (some ⟨w.heap.size, 0, none⟩), .int .u64 150] 89)).alloc (.cells #[.pointer (some ⟨1, 66, none⟩), .pointer (some ⟨w.heap.size, 0, none⟩), .int .u64 150] 89)).alloc (.cells #[.int .i64 n] 58))
    (by rw [World.cell?_alloc_at _ _ _ _ (by simp)]; rfl)
    (by rw [World.cell?_alloc_lt _ _ t (by simp; omega), World.cell?_alloc_lt _ _ t (by simp; omega), World.cell?_alloc_lt _ _ t (by simp; omega), World.cell?_alloc_lt _ _ t htl]; exact ht0)
    (by rw [World.frozen?_alloc_old _ _ t (by simp; omega), World.frozen?_alloc_old _ _ t (by simp; omega), World.frozen?_alloc_old _ _ t (by simp; omega), World.frozen?_alloc_old _ _ t (Nat.ne_of_lt htl)]; exact hf0)
  go_enter Tryd.func25, Tryd.ntmps25
  go_wp2
  refine wp_loop_rounds 1 ?_
  rw [rounds_succ]
  go_wp2
  go_ret
  exact ⟨rfl, _, ((((Below.refl _ _).alloc (Nat.le_refl _) _).alloc (by simp) _).alloc (by simp; omega) _).alloc (by simp; omega) _, rfl⟩

set_option maxHeartbeats 4000000 in
theorem as_miss (n : Int) (t : Addr) (w : World) (hg : ErrT w) :
    Calls Tryd.prog 25 #[.iface 58 (.int .i64 n), .iface 61 (.pointer (some t))] w fun ev w' => ev = .returned (.bool false) ∧ Below w.heap.size w w' := by
  unfold ErrT at hg
  have h6 := @run_callFunc_extern Tryd.prog 39 _ (fun args => ReflectliteValue.unpack (args.getD 0 (.tuple #[]))) Tryd.func39 (by kernel_rfl) (by kernel_rfl) (by kernel_rfl) (by kernel_rfl)
  have h7 := @run_callFunc_extern Tryd.prog 40 _ (ReflectliteValue.methodAny (ReflectliteValue.valueError "reflectlite.Value.Type" 0) (fun t _ _ _ => ReflectliteType.toType t)) Tryd.func40 (by kernel_rfl) (by kernel_rfl) (by kernel_rfl) (by kernel_rfl)
  have h8 := @run_callFunc_extern Tryd.prog 41 _ (ReflectliteValue.method (ReflectliteValue.valueError "reflectlite.Value.IsNil" 0) ReflectliteValue.isNil) Tryd.func41 (by kernel_rfl) (by kernel_rfl) (by kernel_rfl) (by kernel_rfl)
  have h27 := @run_callFunc_extern Tryd.prog 65 _ (ReflectliteType.abiMethod fun t => do pure (.int .u8 (← Rtype.kind t))) Tryd.func65 (by kernel_rfl) (by kernel_rfl) (by kernel_rfl) (by kernel_rfl)
  have h37 := @run_callFunc_extern Tryd.prog 77 _ (ReflectliteType.method ReflectliteType.elem) Tryd.func77 (by kernel_rfl) (by kernel_rfl) (by kernel_rfl) (by kernel_rfl)
  have h38 := @run_callFunc_extern Tryd.prog 78 _ (ReflectliteType.relation "Implements" ReflectliteType.implements_) Tryd.func78 (by kernel_rfl) (by kernel_rfl) (by kernel_rfl) (by kernel_rfl)
  have h10 := @run_callFunc_extern Tryd.prog 37 _ ReflectliteType.typeOf Tryd.func37 (by kernel_rfl) (by kernel_rfl) (by kernel_rfl) (by kernel_rfl)
  have h35 := @run_callFunc_extern Tryd.prog 75 _ (ReflectliteType.relation "AssignableTo" ReflectliteType.assignableTo) Tryd.func75 (by kernel_rfl) (by kernel_rfl) (by kernel_rfl) (by kernel_rfl)
  have h11 := @run_callFunc_extern Tryd.prog 46 _ (ReflectliteValue.method (ReflectliteValue.valueError "reflectlite.Value.Elem" 0) ReflectliteValue.elem) Tryd.func46 (by kernel_rfl) (by kernel_rfl) (by kernel_rfl) (by kernel_rfl)
  have h12 := @run_callFunc_extern Tryd.prog 47 _ ReflectliteValue.set Tryd.func47 (by kernel_rfl) (by kernel_rfl) (by kernel_rfl) (by kernel_rfl)
  have tO := as_typeOfE
  have mA := as_methodAssignableTo
  have a25 := as_assignableEF
  have v25 := as_valueOfF
  have f6 := as_valueOfPF
  have f7 := as_typePF
  have mK := as_methodKind
  have mE := as_methodElem
  have mI := as_methodImplements
  have k27 := as_kindPF
  have k25 := as_kindF
  have e27 := as_elemPF
  have i25 := as_implementsF
  have n8 := as_isNilPF ⟨w.heap.size, 0, none⟩ t ((w.alloc (.cells #[.pointer (some t)] 61)).alloc (.cells #[.pointer (some ⟨1, 61, none⟩), .pointer (some ⟨w.heap.size, 0, none⟩), .int .u64 150] 89)) (by simp)
  have hlt : 0 < w.heap.size := World.block_lt_of_cell? w _ hg
  have hg2 : ((w.alloc (.cells #[.pointer (some t)] 61)).alloc (.cells #[.pointer (some ⟨1, 61, none⟩), .pointer (some ⟨w.heap.size, 0, none⟩), .int .u64 150] 89)).cell? ⟨0, 0, none⟩ = some (.iface 102 (.agg #[.pointer (some ⟨1, 35, none⟩)])) := by
    rw [World.cell?_alloc_lt _ _ ⟨0, 0, none⟩ (by simp), World.cell?_alloc_lt _ _ ⟨0, 0, none⟩ hlt]; exact hg
  have nA := noAsE
  have nU := noUnwrapE
  have nV := noUnwrapsE
  go_enter Tryd.func25, Tryd.ntmps25
  go_wp2
  refine wp_loop_rounds 1 ?_
  rw [rounds_succ]
  go_wp2
  go_ret
  exact ⟨rfl, (((Below.refl _ _).alloc (Nat.le_refl _) _).alloc (by simp) _).alloc (by simp; omega) _⟩

theorem unwrap_any (b : Nat) (u : Value) (w : World) (h2 : w.cell? ⟨b, 2, none⟩ = some u) :
    Calls Tryd.prog 70 #[.pointer (some ⟨b, 0, none⟩)] w fun e w' => e = .returned u ∧ w = w' := by
  go_enter Tryd.func70, Tryd.ntmps70
  go_wp2
  go_ret
  exact ⟨rfl, rfl⟩


end Go.Proofs.YtleheaffipokfaaDoor

/-
  errors.Is: a chain of one or two Faults round an Errno, asked for just that Errno.
-/
namespace Go.Proofs.YtleheaffipokfaaDoor
open Go.RowKit Go.Extern.Stop Go.Stop Go.Extern

/-- Two errors that are one Errno. -/
theorem eql_errno (a : Int) (w : World) : (binOp .eql 35 (.iface 58 (.int .i64 a)) (.iface 58 (.int .i64 a))).run Tryd.prog w = .ok (.bool true) w := by
  have h := Lib.run_eql_iface_int (P := Tryd.prog) w (t := 35) (tx := 58) (k := .i64) (q := .i64) a a Tryd.underlying35 (by kernel_rfl) Tryd.underlying58
  simpa using h

theorem is_typeOfE (v : Value) (w : World) : (ReflectliteType.typeOf #[.iface 58 v]).run Tryd.prog w = .ok (.iface 102 (.agg #[.pointer (some ⟨1, 58, none⟩)])) w := by kernel_rfl

set_option maxHeartbeats 1000000 in
/-- errors.is at the Errno itself. -/
theorem is_here (a : Int) (w : World) :
    Calls Tryd.prog 38 #[.iface 58 (.int .i64 a), .iface 58 (.int .i64 a), .bool true] w fun e w' => e = .returned (.bool true) ∧ w = w' := by
  have q := eql_errno a
  go_enter Tryd.func38, Tryd.ntmps38
  go_wp2
  refine wp_loop_rounds 1 ?_
  rw [rounds_succ]
  go_wp2
  go_ret
  exact ⟨rfl, rfl⟩

set_option maxHeartbeats 1000000 in
/-- errors.is at one Fault round it. -/
theorem is_one (b : Nat) (a : Int) (w : World) (h2 : w.cell? ⟨b, 2, none⟩ = some (.iface 58 (.int .i64 a))) :
    Calls Tryd.prog 38 #[.iface 59 (.pointer (some ⟨b, 0, none⟩)), .iface 58 (.int .i64 a), .bool true] w fun e w' => e = .returned (.bool true) ∧ w = w' := by
  have q := eql_errno a
  have nF := noIsF
  have uF := hasUnwrapF
  have mU := methodUnwrapF
  have hty := run_eql_iface_types (P := Tryd.prog) 59 58 (.pointer (some ⟨b, 0, none⟩)) (.int .i64 a) Tryd.underlying35 (by decide) w
  go_enter Tryd.func38, Tryd.ntmps38
  go_wp2
  refine wp_loop_rounds 2 ?_
  rw [rounds_succ]
  go_wp2
  rw [rounds_succ]
  go_wp2
  go_ret
  exact ⟨rfl, rfl⟩

set_option maxHeartbeats 1000000 in
/-- errors.is at two Faults round it. -/
theorem is_two (b c : Nat) (a : Int) (w : World) (h2 : w.cell? ⟨b, 2, none⟩ = some (.iface 59 (.pointer (some ⟨c, 0, none⟩)))) (h3 : w.cell? ⟨c, 2, none⟩ = some (.iface 58 (.int .i64 a))) :
    Calls Tryd.prog 38 #[.iface 59 (.pointer (some ⟨b, 0, none⟩)), .iface 58 (.int .i64 a), .bool true] w fun e w' => e = .returned (.bool true) ∧ w = w' := by
  have q := eql_errno a
  have nF := noIsF
  have uF := hasUnwrapF
  have mU := methodUnwrapF
  have hty := run_eql_iface_types (P := Tryd.prog) 59 58 (.pointer (some ⟨b, 0, none⟩)) (.int .i64 a) Tryd.underlying35 (by decide) w
  have htz := run_eql_iface_types (P := Tryd.prog) 59 58 (.pointer (some ⟨c, 0, none⟩)) (.int .i64 a) Tryd.underlying35 (by decide) w
  go_enter Tryd.func38, Tryd.ntmps38
  go_wp2
  refine wp_loop_rounds 3 ?_
  rw [rounds_succ]
  go_wp2
  rw [rounds_succ]
  go_wp2
  rw [rounds_succ]
  go_wp2
  go_ret
  exact ⟨rfl, rfl⟩

theorem is_comparableE (w : World) : ((Extern.ReflectliteType.method fun t => do Rtype.noPackHeld "Comparable" t; (fun a => Value.bool a.comparable) <$> typeInfo t) #[.agg #[.pointer (some ⟨1, 58, none⟩)]]).run Tryd.prog w = .ok (.bool true) w := by kernel_rfl

set_option maxHeartbeats 1000000 in
/-- errors.Is, whatever the error that is not nil, where errors.is says so. -/
theorem is_of (T : TypeId) (v : Value) (a : Int) (w : World)
    (h : Calls Tryd.prog 38 #[.iface T v, .iface 58 (.int .i64 a), .bool true] w fun e w' => e = .returned (.bool true) ∧ w = w') :
    Calls Tryd.prog 24 #[.iface T v, .iface 58 (.int .i64 a)] w fun e w' => e = .returned (.bool true) ∧ w = w' := by
  have H := Lib.hid h
  clear h
  have h8 := @run_callFunc_extern Tryd.prog 37 _ Extern.ReflectliteType.typeOf Tryd.func37 (by kernel_rfl) (by kernel_rfl) (by kernel_rfl) (by kernel_rfl)
  have h32 := @run_callFunc_extern Tryd.prog 76 _ (Extern.ReflectliteType.method fun t => do Rtype.noPackHeld "Comparable" t; pure (.bool (← typeInfo t).comparable)) Tryd.func76 (by kernel_rfl) (by kernel_rfl) (by kernel_rfl) (by kernel_rfl)
  have tT := is_typeOfE
  have cT := is_comparableE
  have mR := is_methodComparable
  go_enter Tryd.func24, Tryd.ntmps24
  go_wp2_with (go_at_call 38; refine H.out.mono ?_; rintro e w' ⟨rfl, rfl⟩)
  go_ret
  exact ⟨rfl, rfl⟩

/-- errors.Is of an error's chain (one Fault, or two), asked for what is within. -/
theorem is_chain {w : World} {v : Value} {ps : List (ByteArray × Int)} {a : Int} (h : ErrV w v ps a) (hl : 1 ≤ ps.length) (hm : ps.length ≤ 2) :
    Calls Tryd.prog 24 #[v, .iface 58 (.int .i64 a)] w fun e w' => e = .returned (.bool true) ∧ w = w' := by
  match ps, h, hl, hm with
  | [(p, n)], h, _, _ =>
    obtain ⟨b, u, rfl, _, _, h2, rfl⟩ := h
    exact is_of _ _ a w (is_one b a w h2)
  | [(p, n), (q, m)], h, _, _ =>
    obtain ⟨b, u, rfl, _, _, h2, h⟩ := h
    obtain ⟨c, u, rfl, _, _, h3, rfl⟩ := h
    exact is_of _ _ a w (is_two b c a w h2 h3)
  | _ :: _ :: _ :: _, _, _, hm => simp at hm

end Go.Proofs.YtleheaffipokfaaDoor

/-
  The law's own 'Tells': an error's chain, held against the document's word of it.
-/
namespace Go.Proofs.YtleheaffipokfaaDoor
open Go.RowKit

/-- Block t's one variable was set to x; below it, and in all other old blocks, all is as it was. -/
structure SetAt (w w' : World) (t : Nat) (x : Value) : Prop where
  here : w'.cell? ⟨t, 0, none⟩ = some x
  old : ∀ (b o : Nat), b < w.heap.size → b ≠ t → w'.cell? ⟨b, o, none⟩ = w.cell? ⟨b, o, none⟩
  below : Below t w w'
theorem setAt_of {w w1 : World} {t : Nat} {x old : Value} (hb : Below w.heap.size w w1) (ht : w.cell? ⟨t, 0, none⟩ = some old) : SetAt w (w1.setCell ⟨t, 0, none⟩ x) t x := by
  have hl : t < w.heap.size := World.block_lt_of_cell? w _ ht
  have h1 : w1.cell? ⟨t, 0, none⟩ = some old := (hb.cell hl).trans ht
  refine ⟨World.cell?_setCell_same w1 _ x h1, fun b o hlt hne => ?_, ?_⟩
  · rw [World.cell?_setCell_other w1 ⟨t, 0, none⟩ ⟨b, o, none⟩ x (by intro e; injection e with e1; exact hne e1.symm)]
    exact hb.cell hlt
  · exact (hb.mono (Nat.le_of_lt hl)).setCell (Nat.le_refl _) x

theorem as_fault_at (b t : Nat) (old : Value) (w : World) (hg : ErrT w) (ht0 : w.cell? ⟨t, 0, none⟩ = some old) (hf0 : w.frozen? ⟨t, 0, none⟩ = false) :
    Calls Tryd.prog 25 #[.iface 59 (.pointer (some ⟨b, 0, none⟩)), .iface 61 (.pointer (some ⟨t, 0, none⟩))] w fun ev w' => ev = .returned (.bool true) ∧ SetAt w w' t (.pointer (some ⟨b, 0, none⟩)) :=
  (as_fault _ _ old w hg ht0 hf0).mono fun e w' ⟨he, w1, hb, hw⟩ => ⟨he, by rw [hw]; exact setAt_of hb ht0⟩
theorem as_errno_at (n : Int) (t : Nat) (old : Value) (w : World) (hg : ErrT w) (ht0 : w.cell? ⟨t, 0, none⟩ = some old) (hf0 : w.frozen? ⟨t, 0, none⟩ = false) :
    Calls Tryd.prog 25 #[.iface 58 (.int .i64 n), .iface 66 (.pointer (some ⟨t, 0, none⟩))] w fun ev w' => ev = .returned (.bool true) ∧ SetAt w w' t (.int .i64 n) :=
  (as_errno _ _ old w hg ht0 hf0).mono fun e w' ⟨he, w1, hb, hw⟩ => ⟨he, by rw [hw]; exact setAt_of hb ht0⟩

theorem ret_boolT {a b : Bool} (h : a = b) : Ending.returned (.bool a) = .returned (.bool b) := by rw [h]
theorem tells_nil (sv : Value) (w : World) :
    Calls Tryd.prog 11 #[.nilIface, .agg #[sv, .int .i64 0]] w fun e w' => e = .returned (.bool true) ∧ Below w.heap.size w w' := by
  go_enter Tryd.func11, Tryd.ntmps11
  go_wp2
  go_ret
  exact ⟨rfl, (Below.refl _ _).alloc (Nat.le_refl _) _⟩

theorem ErrV.head {w : World} {v : Value} {ps : List (ByteArray × Int)} {a : Int} (h : ErrV w v ps a) (hl : 1 ≤ ps.length) : ∃ b, v = .iface 59 (.pointer (some ⟨b, 0, none⟩)) := by
  match ps, h, hl with
  | (_, _) :: _, ⟨b, u, hv, _⟩, _ => exact ⟨b, hv⟩
theorem ErrV.at {w : World} {v : Value} {ps : List (ByteArray × Int)} {a : Int} {k : Nat} (h : ErrV w v (ps.drop k) a) (hk : k < ps.length) :
    ∃ (b : Nat) (u : Value), v = .iface 59 (.pointer (some ⟨b, 0, none⟩)) ∧ w.cell? ⟨b, 0, none⟩ = some (.string ps[k].1) ∧ w.cell? ⟨b, 1, none⟩ = some (.int .i64 ps[k].2) ∧ w.cell? ⟨b, 2, none⟩ = some u ∧ ErrV w u (ps.drop (k + 1)) a := by
  rw [List.drop_eq_getElem_cons hk] at h
  exact h

/-- A region that draws its order, from where five of its operations have come up on, when all that is left yields and turns nothing. -/
theorem wpAny_tail5 {P : Program} {md : Region.Mode} {Q' : Exit → Act → World → Prop} {o0 o1 o2 o3 o4 : Oper} {l : List Oper} {listed : Array Bool} {a : Act} {w : World}
    (hs : Region.noSelect (o0 :: o1 :: o2 :: o3 :: o4 :: l).toArray = true) (hB : Region.lexFrom md (o0 :: o1 :: o2 :: o3 :: o4 :: l).toArray l.length 5 listed = true)
    (h : wpStill P (o0 :: o1 :: o2 :: o3 :: o4 :: l).toArray w (fun a' => Q' .normal a' w) l a) : wpAny P md (o0 :: o1 :: o2 :: o3 :: o4 :: l).toArray Q' l.length listed a w :=
  wpAny_of_still (Q := fun a' => Q' .normal a' w) (fun _ h => h) _ _ _ (wpAnyS_lex hs l 5 listed a (fun j => by rw [Nat.add_comm]; simp) hB h)

/-- Ahead of round k: what is still to be held against the parts. -/
structure TellsAt (w : World) (ps : List (ByteArray × Int)) (a : Int) (sv : Value) (k : Nat) (err : Value) (wr : World) : Prop where
  le : k ≤ ps.length
  err : ErrV wr err (ps.drop k) a
  box0 : wr.cell? ⟨w.heap.size, 0, none⟩ = some sv
  box1 : wr.cell? ⟨w.heap.size, 1, none⟩ = some (.int .i64 a)
  below : Below w.heap.size w wr
  lt : w.heap.size < wr.heap.size

set_option maxRecDepth 100000 in
set_option maxHeartbeats 2000000 in
theorem tells_any (v wv : Value) (ps : List (ByteArray × Int)) (a : Int) (w : World) (hg : ErrT w) (hE : ErrV w v ps a) (hW : WrongV w wv ps a) (h1 : 1 ≤ ps.length) (h2 : ps.length ≤ 2) (ha : ¬ a = 0) :
    Calls Tryd.prog 11 #[v, wv] w fun e w' => e = .returned (.bool true) ∧ Below w.heap.size w w' := by
  obtain ⟨sv, rfl, hsv⟩ := hW
  rcases hsv with ⟨rfl, _⟩ | ⟨hlen, pb, po, pc, rfl, hp1, hp2⟩
  · simp at h1
  obtain ⟨b, rfl⟩ := hE.head h1
  have ha' : (a == 0) = false := by simpa using ha
  have HP1 := Lib.hid hp1
  have HP2 := Lib.hid hp2
  clear hp1 hp2
  have HE := Lib.hid hE
  have hgl := hg.lt
  have HG := Lib.hid hg
  clear hE hg
  go_enter Tryd.func11, Tryd.ntmps11
  go_wp2_with (go_at_call 24; refine (is_chain (HE.out.below ((Below.refl _ _).alloc (Nat.le_refl _) _)) h1 h2).mono ?_; rintro e w' ⟨rfl, rfl⟩)
  go_loopw [0, 5] (fun err i wr => ∃ k : Nat, i = .int .i64 k ∧ TellsAt w ps a (.slice (some ⟨pb, po, none⟩) ps.length pc) k err wr) (fun _ i _ => ps.length - (intOf i).toNat)
  case atStart => exact ⟨0, rfl, ⟨Nat.zero_le _, HE.out.below ((Below.refl _ _).alloc (Nat.le_refl _) _), by simp, by simp, (Below.refl _ _).alloc (Nat.le_refl _) _, by simp⟩⟩
  case round =>
    obtain ⟨k, rfl, hT⟩ := hrel
    have hk := hT.le
    have g0 := hT.box0
    have g1 := hT.box1
    have hb := hT.below
    have hlt0 := hT.lt
    by_cases hlt : k < ps.length
    · obtain ⟨fb, u, rfl, c0, c1, c2, hr⟩ := hT.err.at hlt
      have q1 := (hb.cell (World.block_lt_of_cell? w _ (HP1.out k hlt))).trans (HP1.out k hlt)
      have q2 := (hb.cell (World.block_lt_of_cell? w _ (HP2.out k hlt))).trans (HP2.out k hlt)
      have l1 := World.block_lt_of_cell? wr _ q1
      have l2 := World.block_lt_of_cell? wr _ c0
      have HB := Lib.hid hb
      have HR := Lib.hid hr
      have k0 : (0 : Int) ≤ (k : Int) := Int.natCast_nonneg _
      have k1 : (k : Int) < (ps.length : Int) := by omega
      clear hb hr
      have s0 : (wr.alloc (.cells #[.pointer none] 59)).cell? ⟨w.heap.size, 0, none⟩ = some (.slice (some ⟨pb, po, none⟩) ps.length pc) := (World.cell?_alloc_lt _ _ ⟨w.heap.size, 0, none⟩ hlt0).trans g0
      have s1 : (wr.alloc (.cells #[.pointer none] 59)).cell? ⟨pb, po + k * 2, none⟩ = some (.string ps[k].1) := (World.cell?_alloc_lt _ _ ⟨pb, po + k * 2, none⟩ l1).trans q1
      have s2 : (wr.alloc (.cells #[.pointer none] 59)).cell? ⟨pb, po + k * 2 + 1, none⟩ = some (.int .i64 ps[k].2) := (World.cell?_alloc_lt _ _ ⟨pb, po + k * 2 + 1, none⟩ l1).trans q2
      have s3 : (wr.alloc (.cells #[.pointer none] 59)).cell? ⟨fb, 0, none⟩ = some (.string ps[k].1) := (World.cell?_alloc_lt _ _ ⟨fb, 0, none⟩ l2).trans c0
      have s4 : (wr.alloc (.cells #[.pointer none] 59)).cell? ⟨fb, 1, none⟩ = some (.int .i64 ps[k].2) := (World.cell?_alloc_lt _ _ ⟨fb, 1, none⟩ l2).trans c1
      have s5 : (wr.alloc (.cells #[.pointer none] 59)).cell? ⟨fb, 2, none⟩ = some u := (World.cell?_alloc_lt _ _ ⟨fb, 2, none⟩ l2).trans c2
      go_wp2_with fail
      refine wp_region_any (by kernel_rfl) ?_
      change wpAny _ _ _ _ _ _ _ (World.drew _)
      refine wpAny_take (i := 0) (v := .iface 59 (.pointer (some ⟨fb, 0, none⟩))) rfl (by kernel_rfl) (by kernel_rfl) (by kernel_rfl) (fun _ _ _ h => h) (Or.inl ⟨by rfl, ?y0⟩) ?_
      case y0 => (intro w; go_simp)
      refine wpAny_take (i := 1) (v := .iface 61 (.pointer (some ⟨wr.heap.size, 0, none⟩))) rfl (by kernel_rfl) (by kernel_rfl) (by kernel_rfl) (fun _ _ _ h => h) (Or.inl ⟨by rfl, ?y1⟩) ?_
      case y1 => (intro w; go_simp)
      refine wpAny_ready (rs := [2]) (by kernel_rfl) (by simp) (AllReady.cons rfl (fun K hK => ?_) AllReady.nil)
      go_simp
      go_wp2_with (go_at_call 25; refine (as_fault_at fb wr.heap.size (.pointer none) _ ?hgg ?htt ?hff).mono ?_; (case hgg => exact (HG.out.below hgl (HB.out.trans ((Below.refl _ _).alloc (Nat.le_of_lt hlt0) _)) : ErrT _)); (case htt => simp); (case hff => simp); rintro e w2 ⟨rfl, hset⟩)
      have hh := hset.here
      have t0 := (hset.old _ _ (by simp; omega) (by omega)).trans s0
      have t1 := (hset.old _ _ (by simp; omega) (by omega)).trans s1
      have t2 := (hset.old _ _ (by simp; omega) (by omega)).trans s2
      have t3 := (hset.old _ _ (by simp; omega) (by omega)).trans s3
      have t4 := (hset.old _ _ (by simp; omega) (by omega)).trans s4
      have t5 := (hset.old _ _ (by simp; omega) (by omega)).trans s5
      have HS := Lib.hid hset
      clear hset s0 s1 s2 s3 s4 s5
      refine wpAny_ready (rs := [3]) (by kernel_rfl) (by simp) (AllReady.cons rfl (fun K hK => ?_) AllReady.nil)
      go_simp
      refine hK _ _ ?_
      clear hK K
      refine wpAny_ready (rs := [4]) (by kernel_rfl) (by simp) (AllReady.cons rfl (fun K hK => ?_) AllReady.nil)
      go_simp
      refine hK _ _ ?_
      clear hK K
      refine wpAny_tail5 (by kernel_rfl) (by kernel_rfl) ?_
      repeat still_step
      refine wpStill_nil ?_
      have hstep : Below wr.heap.size wr w2 := (((Below.refl _ _).alloc (Nat.le_refl _) _).drew).trans HS.out.below
      have HQ := Lib.hid hstep
      clear hstep
      go_wp2
      go_roundw
      case rel => exact ⟨k + 1, by go_num, ⟨by omega, HR.out.below HQ.out, (HQ.out.cell hlt0).trans g0, (HQ.out.cell hlt0).trans g1, HB.out.trans (HQ.out.mono (Nat.le_of_lt hlt0)), Nat.lt_of_lt_of_le hlt0 HQ.out.size⟩⟩
      case measure => simp [intOf]; omega
    · have hke : k = ps.length := by omega
      have hv := hT.err
      rw [hke, List.drop_length] at hv
      unfold ErrV at hv
      subst hv
      have HB := Lib.hid hb
      have HK := Lib.hid hke
      clear hb hke
      go_wp2_with fail
      refine (as_miss a ⟨wr.heap.size, 0, none⟩ _ (HG.out.below hgl (HB.out.trans (((Below.refl _ _).alloc (Nat.le_of_lt hlt0) _).alloc (by simp; omega) _)) : ErrT _)).mono ?_
      rintro e w2 ⟨rfl, hb2⟩
      have n0 : w2.cell? ⟨wr.heap.size + 1, 0, none⟩ = some (.int .i64 0) := (hb2.cell (by simp)).trans (by simp)
      have n1 : w2.frozen? ⟨wr.heap.size + 1, 0, none⟩ = false := (hb2.frozen (by simp)).trans (by simp)
      have n2 : ErrT w2 := HG.out.below hgl (HB.out.trans ((((Below.refl _ _).alloc (Nat.le_of_lt hlt0) _).alloc (by simp; omega) _).trans (hb2.mono (by simp; omega))))
      have HC := Lib.hid hb2
      have HN := Lib.hid n2
      clear hb2 n2
      go_wp2_with fail
      refine (as_errno_at a (wr.heap.size + 1) (.int .i64 0) _ HN.out n0 n1).mono ?_
      rintro e w3 ⟨rfl, hset⟩
      have hh := hset.here
      have hx : w3.cell? ⟨w.heap.size, 1, none⟩ = some (.int .i64 a) := (hset.old _ _ (Nat.lt_of_lt_of_le hlt0 (Nat.le_trans (by simp; omega) HC.out.size)) (by omega)).trans ((HC.out.cell (by simp; omega)).trans (((World.cell?_alloc_lt _ _ ⟨w.heap.size, 1, none⟩ (by simp; omega)).trans (World.cell?_alloc_lt _ _ ⟨w.heap.size, 1, none⟩ hlt0)).trans g1))
      have hf : Below w.heap.size w w3 := HB.out.trans ((((Below.refl _ _).alloc (Nat.le_of_lt hlt0) _).alloc (by simp; omega) _).trans ((HC.out.mono (by simp; omega)).trans (hset.below.mono (by omega))))
      have HF := Lib.hid hf
      clear hset hf
      go_wp2
      go_ret
      exact ⟨ret_boolT (by simp), HF.out⟩

end Go.Proofs.YtleheaffipokfaaDoor
