/-
  errors.As, as the program's own checks ask it: a Fault as a Fault; an Errno as no Fault; an Errno as an Errno. Go's own text of errors.As and errors.as is walked.
-/
import Derived.Test.YtlfihaajnjeaeaaA2
import Derived.LaidEql
import Derived.Stop.Asserts
import Derived.RowKitTokens
import Derived.Lib.IfaceEq
import Derived.Lib.Hide
import Derived.RegionTactic
import Derived.StillTactics
import Derived.WalkSpells
import Derived.WalkLawsBesides
namespace Go.Proofs.Ytlfihaajnjeaeaa
open Go.RowKit Go.Extern.Stop Go.Stop Go.Extern

/-! ### closed facts on the model's entries for internal/reflectlite -/
theorem as_kindF (w : World) : ((ReflectliteType.abiMethod fun t => (fun a : Nat => Value.int IntKind.u8 (a : Int)) <$> Rtype.kind t) #[.pointer (some ⟨0, 110, none⟩)]).run Try.prog w = .ok (.int .u8 22) w := by kernel_rfl
theorem as_valueOfF (e : Addr) (w : World) : (ReflectliteValue.unpack (.iface 110 (.pointer (some e)))).run Try.prog w
    = .ok (.agg #[.pointer (some ⟨0, 110, none⟩), .pointer (some ⟨w.heap.size, 0, none⟩), .int .u64 150]) (w.alloc (.cells #[.pointer (some e)] 110)) := by kernel_rfl
theorem as_mkF (p : Addr) (w : World) : (ReflectliteValue.mk 110 p ReflectliteValue.flagAddr).run Try.prog w = .ok (.agg #[.pointer (some ⟨0, 110, none⟩), .pointer (some p), .int .u64 406]) w := by kernel_rfl
theorem as_partsFa (a : Addr) (w : World) : (ReflectliteValue.parts (.agg #[.pointer (some ⟨0, 110, none⟩), .pointer (some a), .int .u64 406])).run Try.prog w = .ok (some (110, a, 406)) w := by kernel_rfl
theorem as_partsF (a : Addr) (w : World) : (ReflectliteValue.parts (.agg #[.pointer (some ⟨0, 110, none⟩), .pointer (some a), .int .u64 150])).run Try.prog w = .ok (some (110, a, 150)) w := by kernel_rfl
theorem as_directF (w : World) : (Rtype.directlyAssignable 110 110).run Try.prog w = .ok true w := by kernel_rfl
theorem as_setF (ta b e : Addr) (old : Value) (W : World) (hb : W.cell? b = some (.pointer (some e))) (ht : W.cell? ta = some old) (hf : W.frozen? ta = false) :
    (ReflectliteValue.set #[.agg #[.pointer (some ⟨0, 110, none⟩), .pointer (some ta), .int .u64 406], .agg #[.pointer (some ⟨0, 110, none⟩), .pointer (some b), .int .u64 150]]).run Try.prog W
      = .ok (.tuple #[]) (W.setCell ta (.pointer (some e))) := by
  show Sem.run _ (Bind.bind (ReflectliteValue.parts (.agg #[.pointer (some ⟨0, 110, none⟩), .pointer (some ta), .int .u64 406])) fun _ => Bind.bind (ReflectliteValue.parts (.agg #[.pointer (some ⟨0, 110, none⟩), .pointer (some b), .int .u64 150])) _) W = _
  simp only [Sem.run_bind, as_partsFa, as_partsF, Result.andThen]
  simp [ReflectliteValue.flagAddr, loadVar, isAgg, underlying, Try.underlying110, hb, Result.andThen, as_directF, storeVar, Value.cells, storeCells, Addr.add]
  rw [run_store Try.prog W ta _ _ (by rfl)]
  simp [ht, hf]

/-! ### the same at an Errno's own type -/
theorem as_kindE (w : World) : ((ReflectliteType.abiMethod fun t => (fun a : Nat => Value.int IntKind.u8 (a : Int)) <$> Rtype.kind t) #[.pointer (some ⟨0, 70, none⟩)]).run Try.prog w = .ok (.int .u8 2) w := by kernel_rfl
theorem as_valueOfE (n : Int) (w : World) : (ReflectliteValue.unpack (.iface 70 (.int .i64 n))).run Try.prog w
    = .ok (.agg #[.pointer (some ⟨0, 70, none⟩), .pointer (some ⟨w.heap.size, 0, none⟩), .int .u64 130]) (w.alloc (.cells #[.int .i64 n] 70)) := by kernel_rfl
theorem as_mkE (p : Addr) (w : World) : (ReflectliteValue.mk 70 p ReflectliteValue.flagAddr).run Try.prog w = .ok (.agg #[.pointer (some ⟨0, 70, none⟩), .pointer (some p), .int .u64 386]) w := by kernel_rfl
theorem as_partsEa (a : Addr) (w : World) : (ReflectliteValue.parts (.agg #[.pointer (some ⟨0, 70, none⟩), .pointer (some a), .int .u64 386])).run Try.prog w = .ok (some (70, a, 386)) w := by kernel_rfl
theorem as_partsE (a : Addr) (w : World) : (ReflectliteValue.parts (.agg #[.pointer (some ⟨0, 70, none⟩), .pointer (some a), .int .u64 130])).run Try.prog w = .ok (some (70, a, 130)) w := by kernel_rfl
theorem as_directE (w : World) : (Rtype.directlyAssignable 70 70).run Try.prog w = .ok true w := by kernel_rfl
theorem as_setE (ta b : Addr) (n : Int) (old : Value) (W : World) (hb : W.cell? b = some (.int .i64 n)) (ht : W.cell? ta = some old) (hf : W.frozen? ta = false) :
    (ReflectliteValue.set #[.agg #[.pointer (some ⟨0, 70, none⟩), .pointer (some ta), .int .u64 386], .agg #[.pointer (some ⟨0, 70, none⟩), .pointer (some b), .int .u64 130]]).run Try.prog W
      = .ok (.tuple #[]) (W.setCell ta (.int .i64 n)) := by
  show Sem.run _ (Bind.bind (ReflectliteValue.parts (.agg #[.pointer (some ⟨0, 70, none⟩), .pointer (some ta), .int .u64 386])) fun _ => Bind.bind (ReflectliteValue.parts (.agg #[.pointer (some ⟨0, 70, none⟩), .pointer (some b), .int .u64 130])) _) W = _
  simp only [Sem.run_bind, as_partsEa, as_partsE, Result.andThen]
  simp [ReflectliteValue.flagAddr, loadVar, isAgg, underlying, Try.underlying70, hb, Result.andThen, as_directE, storeVar, Value.cells, storeCells, Addr.add]
  rw [run_store Try.prog W ta _ _ (by rfl)]
  simp [ht, hf]

/-! ### what the assertions of errors.Is and errors.As find -/
end Go.Proofs.Ytlfihaajnjeaeaa

/-
  errors.As at a Fault that is one, and at an Errno that is none.
-/
namespace Go.Proofs.Ytlfihaajnjeaeaa
open Go.RowKit Go.Extern.Stop Go.Stop Go.Extern

end Go.Proofs.Ytlfihaajnjeaeaa

/-
  errors.Is: a chain of one or two Faults round an Errno, asked for just that Errno.
-/
namespace Go.Proofs.Ytlfihaajnjeaeaa
open Go.RowKit Go.Extern.Stop Go.Stop Go.Extern

/-- Two errors that are one Errno. -/
theorem eql_errno (a : Int) (w : World) : (binOp .eql 40 (.iface 70 (.int .i64 a)) (.iface 70 (.int .i64 a))).run Try.prog w = .ok (.bool true) w := by
  have h := Lib.run_eql_iface_int (P := Try.prog) w (t := 40) (tx := 70) (k := .i64) (q := .i64) a a Try.underlying40 (by kernel_rfl) Try.underlying70
  simpa using h

theorem is_comparableE (w : World) : ((Extern.ReflectliteType.method fun t => do Rtype.noPackHeld "Comparable" t; (fun a => Value.bool a.comparable) <$> typeInfo t) #[.agg #[.pointer (some ⟨0, 70, none⟩)]]).run Try.prog w = .ok (.bool true) w := by kernel_rfl

end Go.Proofs.Ytlfihaajnjeaeaa

/-
  The law's own 'Tells': an error's chain, held against the document's word of it.
-/
namespace Go.Proofs.Ytlfihaajnjeaeaa
open Go.RowKit

/-- Block t's one variable was set to x; below it, and in all other old blocks, all is as it was. -/
structure SetAt (w w' : World) (t : Nat) (x : Value) : Prop where
  here : w'.cell? ⟨t, 0, none⟩ = some x
  old : ∀ (b o : Nat), b < w.heap.size → b ≠ t → w'.cell? ⟨b, o, none⟩ = w.cell? ⟨b, o, none⟩
  below : Below t w w'
theorem setAt_of {w w1 : World} {t : Nat} {x old : Value} (hb : Below w.heap.size w w1) (ht : w.cell? ⟨t, 0, none⟩ = some old) : SetAt w (w1.setCell ⟨t, 0, none⟩ x) t x := by
  have hl : t < w.heap.size := World.block_lt_of_cell? w _ ht
  have h1 : w1.cell? ⟨t, 0, none⟩ = some old := (hb.cell hl).trans ht
  refine ⟨World.cell?_setCell_same w1 _ x h1, fun b o hlt hne => ?_, ?_⟩
  · rw [World.cell?_setCell_other w1 ⟨t, 0, none⟩ ⟨b, o, none⟩ x (by intro e; injection e with e1; exact hne e1.symm)]
    exact hb.cell hlt
  · exact (hb.mono (Nat.le_of_lt hl)).setCell (Nat.le_refl _) x

theorem ret_boolT {a b : Bool} (h : a = b) : Ending.returned (.bool a) = .returned (.bool b) := by rw [h]
theorem ErrV.head {w : World} {v : Value} {ps : List (ByteArray × Int)} {a : Int} (h : ErrV w v ps a) (hl : 1 ≤ ps.length) : ∃ b, v = .iface 110 (.pointer (some ⟨b, 0, none⟩)) := by
  match ps, h, hl with
  | (_, _) :: _, ⟨b, u, hv, _⟩, _ => exact ⟨b, hv⟩
theorem ErrV.at {w : World} {v : Value} {ps : List (ByteArray × Int)} {a : Int} {k : Nat} (h : ErrV w v (ps.drop k) a) (hk : k < ps.length) :
    ∃ (b : Nat) (u : Value), v = .iface 110 (.pointer (some ⟨b, 0, none⟩)) ∧ w.cell? ⟨b, 0, none⟩ = some (.string ps[k].1) ∧ w.cell? ⟨b, 1, none⟩ = some (.int .i64 ps[k].2) ∧ w.cell? ⟨b, 2, none⟩ = some u ∧ ErrV w u (ps.drop (k + 1)) a := by
  rw [List.drop_eq_getElem_cons hk] at h
  exact h

/-- A region that draws its order, from where five of its operations have come up on, when all that is left yields and turns nothing. -/
theorem wpAny_tail5 {P : Program} {md : Region.Mode} {Q' : Exit → Act → World → Prop} {o0 o1 o2 o3 o4 : Oper} {l : List Oper} {listed : Array Bool} {a : Act} {w : World}
    (hs : Region.noSelect (o0 :: o1 :: o2 :: o3 :: o4 :: l).toArray = true) (hB : Region.lexFrom md (o0 :: o1 :: o2 :: o3 :: o4 :: l).toArray l.length 5 listed = true)
    (h : wpStill P (o0 :: o1 :: o2 :: o3 :: o4 :: l).toArray w (fun a' => Q' .normal a' w) l a) : wpAny P md (o0 :: o1 :: o2 :: o3 :: o4 :: l).toArray Q' l.length listed a w :=
  wpAny_of_still (Q := fun a' => Q' .normal a' w) (fun _ h => h) _ _ _ (wpAnyS_lex hs l 5 listed a (fun j => by rw [Nat.add_comm]; simp) hB h)

/-- Ahead of round k: what is still to be held against the parts. -/
structure TellsAt (w : World) (ps : List (ByteArray × Int)) (a : Int) (sv : Value) (k : Nat) (err : Value) (wr : World) : Prop where
  le : k ≤ ps.length
  err : ErrV wr err (ps.drop k) a
  box0 : wr.cell? ⟨w.heap.size, 0, none⟩ = some sv
  box1 : wr.cell? ⟨w.heap.size, 1, none⟩ = some (.int .i64 a)
  below : Below w.heap.size w wr
  lt : w.heap.size < wr.heap.size

end Go.Proofs.Ytlfihaajnjeaeaa
