/-
  The program's own nets: are two alike?
-/
import Derived.Test.YtbdompngabokgaaDoorPNetA
import Derived.Test.YtbdompngabokgaaDoorRNetD
import Derived.Test.YtbdompngabokgaaDoorA2
namespace Go.Proofs.YtbdompngabokgaaDoor
open Go.RowKit

theorem fields_pvert : (Tryd.prog.fieldsOf 86).toList.map (fun f => (f.name, f.type, f.offset)) = [("X", 3, 0), ("Y", 3, 1), ("Type", 3, 2)] := by kernel_rfl
theorem held_pvert : Tryd.prog.stoodInHeld 86 = false := by kernel_rfl
theorem struct_pvert : Tryd.prog.underlying 86 = some (.struct (Tryd.prog.fieldsOf 86)) := by kernel_rfl
theorem guard_pvert : Tryd.prog.eqGuardType Tryd.prog.depth 86 = false := by kernel_rfl
theorem eq_pvert (x y z x' y' z' : Int) (w : World) : (Op.equalIn 10000 86 (.agg #[.int .i64 x, .int .i64 y, .int .i64 z]) (.agg #[.int .i64 x', .int .i64 y', .int .i64 z'])).run Tryd.prog w = .ok (x == x' && y == y' && z == z') w := by
  rw [show (10000 : Nat) = 9999 + 1 from rfl, run_equalIn_struct w 9999 86 _ _ struct_pvert held_pvert]
  obtain ⟨f0, f1, f2, e, n0, t0', o0, n1, t1', o1, n2, t2', o2⟩ := fields3 fields_pvert
  rw [e]
  rw [show (9999 : Nat) = 9998 + 1 from rfl]
  simp only [Op.eqFields, n0, n1, n2, t0', t1', t2', o0, o1, o2, ne_eq, show ¬ "X" = "_" by decide, show ¬ "Y" = "_" by decide, show ¬ "Type" = "_" by decide, not_false_eq_true, if_true]
  go_simp
  by_cases h0 : x = x' <;> by_cases h1 : y = y' <;> by_cases h2 : z = z' <;> simp [h0, h1, h2]
theorem neq_pvert (x y z x' y' z' : Int) (w : World) : (binOp .neq 86 (.agg #[.int .i64 x, .int .i64 y, .int .i64 z]) (.agg #[.int .i64 x', .int .i64 y', .int .i64 z'])).run Tryd.prog w = .ok (.bool (!(x == x' && y == y' && z == z'))) w := by
  rw [run_neq_struct, eq_pvert]
  rfl
theorem eql_pvert (x y z x' y' z' : Int) (w : World) : (binOp .eql 86 (.agg #[.int .i64 x, .int .i64 y, .int .i64 z]) (.agg #[.int .i64 x', .int .i64 y', .int .i64 z'])).run Tryd.prog w = .ok (.bool (x == x' && y == y' && z == z')) w := by
  rw [run_eql_struct, eq_pvert]
  rfl

theorem fields_parc : (Tryd.prog.fieldsOf 87).toList.map (fun f => (f.name, f.type, f.offset)) = [("From", 3, 0), ("To", 3, 1), ("W", 2, 2)] := by kernel_rfl
theorem held_parc : Tryd.prog.stoodInHeld 87 = false := by kernel_rfl
theorem struct_parc : Tryd.prog.underlying 87 = some (.struct (Tryd.prog.fieldsOf 87)) := by kernel_rfl
theorem guard_parc : Tryd.prog.eqGuardType Tryd.prog.depth 87 = false := by kernel_rfl
theorem eq_parc (x y z x' y' z' : Int) (w : World) : (Op.equalIn 10000 87 (.agg #[.int .i64 x, .int .i64 y, .int .i64 z]) (.agg #[.int .i64 x', .int .i64 y', .int .i64 z'])).run Tryd.prog w = .ok (x == x' && y == y' && z == z') w := by
  rw [show (10000 : Nat) = 9999 + 1 from rfl, run_equalIn_struct w 9999 87 _ _ struct_parc held_parc]
  obtain ⟨f0, f1, f2, e, n0, t0', o0, n1, t1', o1, n2, t2', o2⟩ := fields3 fields_parc
  rw [e]
  rw [show (9999 : Nat) = 9998 + 1 from rfl]
  simp only [Op.eqFields, n0, n1, n2, t0', t1', t2', o0, o1, o2, ne_eq, show ¬ "From" = "_" by decide, show ¬ "To" = "_" by decide, show ¬ "W" = "_" by decide, not_false_eq_true, if_true]
  go_simp
  by_cases h0 : x = x' <;> by_cases h1 : y = y' <;> by_cases h2 : z = z' <;> simp [h0, h1, h2]
theorem neq_parc (x y z x' y' z' : Int) (w : World) : (binOp .neq 87 (.agg #[.int .i64 x, .int .i64 y, .int .i64 z]) (.agg #[.int .i64 x', .int .i64 y', .int .i64 z'])).run Tryd.prog w = .ok (.bool (!(x == x' && y == y' && z == z'))) w := by
  rw [run_neq_struct, eq_parc]
  rfl
theorem eql_parc (x y z x' y' z' : Int) (w : World) : (binOp .eql 87 (.agg #[.int .i64 x, .int .i64 y, .int .i64 z]) (.agg #[.int .i64 x', .int .i64 y', .int .i64 z'])).run Tryd.prog w = .ok (.bool (x == x' && y == y' && z == z')) w := by
  rw [run_eql_struct, eq_parc]
  rfl


set_option maxHeartbeats 4000000 in
set_option maxRecDepth 100000 in
theorem eqverts_len (q1 q2 : Option Addr) (c1 c2 : Nat) (l m : List Tri) (w : World) (hne : ¬ l.length = m.length) :
    Calls Tryd.prog 47 #[.slice q1 l.length c1, .slice q2 m.length c2] w fun e w' => e = .returned (.bool (decide (l = m))) ∧ Below w.heap.size w w' := by
  have HR : Hid (decide (l = m) = false) := Lib.hid (decide_eq_false (fun e => hne (by rw [e])))
  have d : ((l.length : Int) != (m.length : Int)) = true := by simpa using fun e : (l.length : Int) = (m.length : Int) => hne (by omega)
  clear hne
  go_enter Tryd.func47, Tryd.ntmps47
  go_wp2_with fail
  go_ret
  exact ⟨ret_bool HR.out.symm, Below.refl _ _⟩

set_option maxHeartbeats 4000000 in
set_option maxRecDepth 100000 in
theorem eqverts_eq (q1 q2 : Option Addr) (c1 c2 : Nat) (l m : List Tri) (w : World) (h1 : Tris w (.slice q1 l.length c1) l) (h2 : Tris w (.slice q2 m.length c2) m) (hlen : l.length = m.length) :
    Calls Tryd.prog 47 #[.slice q1 l.length c1, .slice q2 m.length c2] w fun e w' => e = .returned (.bool (decide (l = m))) ∧ Below w.heap.size w w' := by
  have HL := Lib.hid hlen
  have H1 := Lib.hid h1
  have H2 := Lib.hid h2
  rw [← hlen]
  clear hlen h1 h2
  go_enter Tryd.func47, Tryd.ntmps47
  go_wp2_with fail
  go_loopw [5, 13] (fun _ i wr => ∃ k : Nat, k ≤ l.length ∧ i = .int .i64 k ∧ Hid (l.take k = m.take k) ∧ Hid (Below w.heap.size w wr)) (fun _ i _ => l.length - (intOf i).toNat)
  case atStart => exact ⟨0, Nat.zero_le _, rfl, Lib.hid rfl, Lib.hid (Below.refl _ _)⟩
  case round =>
    obtain ⟨k, hk, rfl, HT, HBr⟩ := hrel
    by_cases hlt : k < l.length
    · have hlt2 : k < m.length := by have := HL.out; omega
      have hli : (k : Int) < (l.length : Int) := by omega
      have hle : l.length ≤ 9223372036854775807 := H1.out.le
      obtain ⟨ab, ao, e1, x0, x1, x2⟩ := (H1.out.below HBr.out).at hlt
      obtain ⟨bb, bo, e2, y0, y1, y2⟩ := (H2.out.below HBr.out).at hlt2
      obtain ⟨A, eA⟩ : ∃ A, l[k] = A := ⟨_, rfl⟩
      obtain ⟨B, eB⟩ : ∃ B, m[k] = B := ⟨_, rfl⟩
      rw [eA] at x0 x1 x2
      rw [eB] at y0 y1 y2
      subst e1
      subst e2
      have XA0 := Lib.hid x0
      have XA1 := Lib.hid x1
      have XA2 := Lib.hid x2
      by_cases hAB : A = B
      · subst hAB
        have XB0 := Lib.hid y0
        have XB1 := Lib.hid y1
        have XB2 := Lib.hid y2
        have HN : Hid (l.take (k + 1) = m.take (k + 1)) := Lib.hid (take_eq_succ hlt hlt2 HT.out (eA.trans eB.symm))
        clear x0 x1 x2 y0 y1 y2 eA eB
        go_wp2_with fail
        have hGS : Grows (fun w' => Below wr.heap.size wr w') := Grows.below wr
        refine' wp_growL _ (fun w' => Below wr.heap.size wr w') [[], [], [0, 1], [2], [], [], [4, 5], [6], [3, 7]] (Fact.lit _ :: Fact.lit _ :: Fact.lit _ :: Fact.lit _ :: Fact.lit _ :: Fact.lit _ :: Fact.lit _ :: Fact.lit _ :: Fact.lit _ :: []) (by kernel_rfl) rfl (by kernel_rfl) (Below.refl _ _).drew ?seqeqvertse
        case' seqeqvertse => skip
        (first | (refine' grow_skip rfl ?wt479 ?put479 ?next479; (case wt479 => rfl)) | (refine' grow_lit rfl ?wt479 ?run479 ?put479 ?next479; (case wt479 => rfl); (case run479 => (intro w' hS H; clear H; (have xa0 := keep hS XA0.out); (have xa1 := keep hS XA1.out); (have xa2 := keep hS XA2.out); (have xb0 := keep hS XB0.out); (have xb1 := keep hS XB1.out); (have xb2 := keep hS XB2.out); clear hS; go_simp; first | done | exact rfl)))); (case put479 => (simp only [Act.put, List.setIfInBounds_toArray, List.set_cons_zero, List.set_cons_succ]; first | done | exact rfl)); (case' next479 => skip)
        (first | (refine' grow_skip rfl ?wt480 ?put480 ?next480; (case wt480 => rfl)) | (refine' grow_lit rfl ?wt480 ?run480 ?put480 ?next480; (case wt480 => rfl); (case run480 => (intro w' hS H; clear H; (have xa0 := keep hS XA0.out); (have xa1 := keep hS XA1.out); (have xa2 := keep hS XA2.out); (have xb0 := keep hS XB0.out); (have xb1 := keep hS XB1.out); (have xb2 := keep hS XB2.out); clear hS; go_simp; first | done | exact rfl)))); (case put480 => (simp only [Act.put, List.setIfInBounds_toArray, List.set_cons_zero, List.set_cons_succ]; first | done | exact rfl)); (case' next480 => skip)
        (first | (refine' grow_skip rfl ?wt481 ?put481 ?next481; (case wt481 => rfl)) | (refine' grow_lit rfl ?wt481 ?run481 ?put481 ?next481; (case wt481 => rfl); (case run481 => (intro w' hS H; clear H; (have xa0 := keep hS XA0.out); (have xa1 := keep hS XA1.out); (have xa2 := keep hS XA2.out); (have xb0 := keep hS XB0.out); (have xb1 := keep hS XB1.out); (have xb2 := keep hS XB2.out); clear hS; go_simp; first | done | exact rfl)))); (case put481 => (simp only [Act.put, List.setIfInBounds_toArray, List.set_cons_zero, List.set_cons_succ]; first | done | exact rfl)); (case' next481 => skip)
        (first | (refine' grow_skip rfl ?wt482 ?put482 ?next482; (case wt482 => rfl)) | (refine' grow_lit rfl ?wt482 ?run482 ?put482 ?next482; (case wt482 => rfl); (case run482 => (intro w' hS H; clear H; (have xa0 := keep hS XA0.out); (have xa1 := keep hS XA1.out); (have xa2 := keep hS XA2.out); (have xb0 := keep hS XB0.out); (have xb1 := keep hS XB1.out); (have xb2 := keep hS XB2.out); clear hS; go_simp; first | done | exact rfl)))); (case put482 => (simp only [Act.put, List.setIfInBounds_toArray, List.set_cons_zero, List.set_cons_succ]; first | done | exact rfl)); (case' next482 => skip)
        (first | (refine' grow_skip rfl ?wt483 ?put483 ?next483; (case wt483 => rfl)) | (refine' grow_lit rfl ?wt483 ?run483 ?put483 ?next483; (case wt483 => rfl); (case run483 => (intro w' hS H; clear H; (have xa0 := keep hS XA0.out); (have xa1 := keep hS XA1.out); (have xa2 := keep hS XA2.out); (have xb0 := keep hS XB0.out); (have xb1 := keep hS XB1.out); (have xb2 := keep hS XB2.out); clear hS; go_simp; first | done | exact rfl)))); (case put483 => (simp only [Act.put, List.setIfInBounds_toArray, List.set_cons_zero, List.set_cons_succ]; first | done | exact rfl)); (case' next483 => skip)
        (first | (refine' grow_skip rfl ?wt484 ?put484 ?next484; (case wt484 => rfl)) | (refine' grow_lit rfl ?wt484 ?run484 ?put484 ?next484; (case wt484 => rfl); (case run484 => (intro w' hS H; clear H; (have xa0 := keep hS XA0.out); (have xa1 := keep hS XA1.out); (have xa2 := keep hS XA2.out); (have xb0 := keep hS XB0.out); (have xb1 := keep hS XB1.out); (have xb2 := keep hS XB2.out); clear hS; go_simp; first | done | exact rfl)))); (case put484 => (simp only [Act.put, List.setIfInBounds_toArray, List.set_cons_zero, List.set_cons_succ]; first | done | exact rfl)); (case' next484 => skip)
        (first | (refine' grow_skip rfl ?wt485 ?put485 ?next485; (case wt485 => rfl)) | (refine' grow_lit rfl ?wt485 ?run485 ?put485 ?next485; (case wt485 => rfl); (case run485 => (intro w' hS H; clear H; (have xa0 := keep hS XA0.out); (have xa1 := keep hS XA1.out); (have xa2 := keep hS XA2.out); (have xb0 := keep hS XB0.out); (have xb1 := keep hS XB1.out); (have xb2 := keep hS XB2.out); clear hS; go_simp; first | done | exact rfl)))); (case put485 => (simp only [Act.put, List.setIfInBounds_toArray, List.set_cons_zero, List.set_cons_succ]; first | done | exact rfl)); (case' next485 => skip)
        (first | (refine' grow_skip rfl ?wt486 ?put486 ?next486; (case wt486 => rfl)) | (refine' grow_lit rfl ?wt486 ?run486 ?put486 ?next486; (case wt486 => rfl); (case run486 => (intro w' hS H; clear H; (have xa0 := keep hS XA0.out); (have xa1 := keep hS XA1.out); (have xa2 := keep hS XA2.out); (have xb0 := keep hS XB0.out); (have xb1 := keep hS XB1.out); (have xb2 := keep hS XB2.out); clear hS; go_simp; first | done | exact rfl)))); (case put486 => (simp only [Act.put, List.setIfInBounds_toArray, List.set_cons_zero, List.set_cons_succ]; first | done | exact rfl)); (case' next486 => skip)
        (refine' grow_lit (u := .bool false) rfl ?wteqvertse ?runeqvertse ?puteqvertse ?nexteqvertse; (case wteqvertse => rfl); (case runeqvertse => (intro w' hS H; (have g := guard_pvert); (have q := neq_pvert A.1 A.2.1 A.2.2 A.1 A.2.1 A.2.2 w'); clear H hS; go_simp)); (case puteqvertse => (simp only [Act.put, List.setIfInBounds_toArray, List.set_cons_zero, List.set_cons_succ]; first | done | exact rfl)); (case' nexteqvertse => skip))
        intro w1 hb _
        have HB1 := Lib.hid (HBr.out.trans (hb.mono HBr.out.size))
        clear hb hGS
        go_wp2_with fail
        go_roundw
        case rel => exact ⟨k + 1, by omega, by go_num, HN, HB1⟩
        case measure => simp [intOf]; omega
      · have XB0 := Lib.hid y0
        have XB1 := Lib.hid y1
        have XB2 := Lib.hid y2
        have HR : Hid (decide (l = m) = false) := Lib.hid (decide_eq_false (fun e => getElem_ne hlt hlt2 (by rw [eA, eB]; exact hAB) e))
        have HAB := Lib.hid hAB
        have HNE : Hid ((A.1 == B.1 && A.2.1 == B.2.1 && A.2.2 == B.2.2) = false) := Lib.hid (by
          cases hh : (A.1 == B.1 && A.2.1 == B.2.1 && A.2.2 == B.2.2) with
          | false => rfl
          | true =>
            simp only [Bool.and_eq_true, beq_iff_eq] at hh
            exact absurd (Prod.ext hh.1.1 (Prod.ext hh.1.2 hh.2)) hAB)
        clear x0 x1 x2 y0 y1 y2 eA eB hAB
        go_wp2_with fail
        have hGS : Grows (fun w' => Below wr.heap.size wr w') := Grows.below wr
        refine' wp_growL _ (fun w' => Below wr.heap.size wr w') [[], [], [0, 1], [2], [], [], [4, 5], [6], [3, 7]] (Fact.lit _ :: Fact.lit _ :: Fact.lit _ :: Fact.lit _ :: Fact.lit _ :: Fact.lit _ :: Fact.lit _ :: Fact.lit _ :: Fact.lit _ :: []) (by kernel_rfl) rfl (by kernel_rfl) (Below.refl _ _).drew ?seqeqvertsn
        case' seqeqvertsn => skip
        (first | (refine' grow_skip rfl ?wt487 ?put487 ?next487; (case wt487 => rfl)) | (refine' grow_lit rfl ?wt487 ?run487 ?put487 ?next487; (case wt487 => rfl); (case run487 => (intro w' hS H; clear H; (have xa0 := keep hS XA0.out); (have xa1 := keep hS XA1.out); (have xa2 := keep hS XA2.out); (have xb0 := keep hS XB0.out); (have xb1 := keep hS XB1.out); (have xb2 := keep hS XB2.out); clear hS; go_simp; first | done | exact rfl)))); (case put487 => (simp only [Act.put, List.setIfInBounds_toArray, List.set_cons_zero, List.set_cons_succ]; first | done | exact rfl)); (case' next487 => skip)
        (first | (refine' grow_skip rfl ?wt488 ?put488 ?next488; (case wt488 => rfl)) | (refine' grow_lit rfl ?wt488 ?run488 ?put488 ?next488; (case wt488 => rfl); (case run488 => (intro w' hS H; clear H; (have xa0 := keep hS XA0.out); (have xa1 := keep hS XA1.out); (have xa2 := keep hS XA2.out); (have xb0 := keep hS XB0.out); (have xb1 := keep hS XB1.out); (have xb2 := keep hS XB2.out); clear hS; go_simp; first | done | exact rfl)))); (case put488 => (simp only [Act.put, List.setIfInBounds_toArray, List.set_cons_zero, List.set_cons_succ]; first | done | exact rfl)); (case' next488 => skip)
        (first | (refine' grow_skip rfl ?wt489 ?put489 ?next489; (case wt489 => rfl)) | (refine' grow_lit rfl ?wt489 ?run489 ?put489 ?next489; (case wt489 => rfl); (case run489 => (intro w' hS H; clear H; (have xa0 := keep hS XA0.out); (have xa1 := keep hS XA1.out); (have xa2 := keep hS XA2.out); (have xb0 := keep hS XB0.out); (have xb1 := keep hS XB1.out); (have xb2 := keep hS XB2.out); clear hS; go_simp; first | done | exact rfl)))); (case put489 => (simp only [Act.put, List.setIfInBounds_toArray, List.set_cons_zero, List.set_cons_succ]; first | done | exact rfl)); (case' next489 => skip)
        (first | (refine' grow_skip rfl ?wt490 ?put490 ?next490; (case wt490 => rfl)) | (refine' grow_lit rfl ?wt490 ?run490 ?put490 ?next490; (case wt490 => rfl); (case run490 => (intro w' hS H; clear H; (have xa0 := keep hS XA0.out); (have xa1 := keep hS XA1.out); (have xa2 := keep hS XA2.out); (have xb0 := keep hS XB0.out); (have xb1 := keep hS XB1.out); (have xb2 := keep hS XB2.out); clear hS; go_simp; first | done | exact rfl)))); (case put490 => (simp only [Act.put, List.setIfInBounds_toArray, List.set_cons_zero, List.set_cons_succ]; first | done | exact rfl)); (case' next490 => skip)
        (first | (refine' grow_skip rfl ?wt491 ?put491 ?next491; (case wt491 => rfl)) | (refine' grow_lit rfl ?wt491 ?run491 ?put491 ?next491; (case wt491 => rfl); (case run491 => (intro w' hS H; clear H; (have xa0 := keep hS XA0.out); (have xa1 := keep hS XA1.out); (have xa2 := keep hS XA2.out); (have xb0 := keep hS XB0.out); (have xb1 := keep hS XB1.out); (have xb2 := keep hS XB2.out); clear hS; go_simp; first | done | exact rfl)))); (case put491 => (simp only [Act.put, List.setIfInBounds_toArray, List.set_cons_zero, List.set_cons_succ]; first | done | exact rfl)); (case' next491 => skip)
        (first | (refine' grow_skip rfl ?wt492 ?put492 ?next492; (case wt492 => rfl)) | (refine' grow_lit rfl ?wt492 ?run492 ?put492 ?next492; (case wt492 => rfl); (case run492 => (intro w' hS H; clear H; (have xa0 := keep hS XA0.out); (have xa1 := keep hS XA1.out); (have xa2 := keep hS XA2.out); (have xb0 := keep hS XB0.out); (have xb1 := keep hS XB1.out); (have xb2 := keep hS XB2.out); clear hS; go_simp; first | done | exact rfl)))); (case put492 => (simp only [Act.put, List.setIfInBounds_toArray, List.set_cons_zero, List.set_cons_succ]; first | done | exact rfl)); (case' next492 => skip)
        (first | (refine' grow_skip rfl ?wt493 ?put493 ?next493; (case wt493 => rfl)) | (refine' grow_lit rfl ?wt493 ?run493 ?put493 ?next493; (case wt493 => rfl); (case run493 => (intro w' hS H; clear H; (have xa0 := keep hS XA0.out); (have xa1 := keep hS XA1.out); (have xa2 := keep hS XA2.out); (have xb0 := keep hS XB0.out); (have xb1 := keep hS XB1.out); (have xb2 := keep hS XB2.out); clear hS; go_simp; first | done | exact rfl)))); (case put493 => (simp only [Act.put, List.setIfInBounds_toArray, List.set_cons_zero, List.set_cons_succ]; first | done | exact rfl)); (case' next493 => skip)
        (first | (refine' grow_skip rfl ?wt494 ?put494 ?next494; (case wt494 => rfl)) | (refine' grow_lit rfl ?wt494 ?run494 ?put494 ?next494; (case wt494 => rfl); (case run494 => (intro w' hS H; clear H; (have xa0 := keep hS XA0.out); (have xa1 := keep hS XA1.out); (have xa2 := keep hS XA2.out); (have xb0 := keep hS XB0.out); (have xb1 := keep hS XB1.out); (have xb2 := keep hS XB2.out); clear hS; go_simp; first | done | exact rfl)))); (case put494 => (simp only [Act.put, List.setIfInBounds_toArray, List.set_cons_zero, List.set_cons_succ]; first | done | exact rfl)); (case' next494 => skip)
        (refine' grow_lit (u := .bool true) rfl ?wteqvertsn ?runeqvertsn ?puteqvertsn ?nexteqvertsn; (case wteqvertsn => rfl); (case runeqvertsn => (intro w' hS H; (have g := guard_pvert); (have q := ((neq_pvert A.1 A.2.1 A.2.2 B.1 B.2.1 B.2.2 w').trans (by rw [HNE.out]; rfl) : _ = Result.ok (.bool true) w')); clear H hS; go_simp; first | done | exact fun h1 h2 h3 => HAB.out (Prod.ext h1 (Prod.ext h2 h3)))); (case puteqvertsn => (simp only [Act.put, List.setIfInBounds_toArray, List.set_cons_zero, List.set_cons_succ]; first | done | exact rfl)); (case' nexteqvertsn => skip))
        intro w1 hb _
        have HB1 := Lib.hid (HBr.out.trans (hb.mono HBr.out.size))
        clear hb hGS
        go_wp2_with fail
        go_ret
        exact ⟨ret_bool HR.out.symm, HB1.out⟩
    · obtain rfl : k = l.length := by omega
      have HR : Hid (decide (l = m) = true) := Lib.hid (decide_eq_true (take_all HL.out.symm HT.out))
      go_wp2_with fail
      go_ret
      exact ⟨ret_bool HR.out.symm, HBr.out⟩
theorem eqverts_any (q1 q2 : Option Addr) (c1 c2 : Nat) (l m : List Tri) (w : World) (h1 : Tris w (.slice q1 l.length c1) l) (h2 : Tris w (.slice q2 m.length c2) m) :
    Calls Tryd.prog 47 #[.slice q1 l.length c1, .slice q2 m.length c2] w fun e w' => e = .returned (.bool (decide (l = m))) ∧ Below w.heap.size w w' := by
  by_cases hlen : l.length = m.length
  · exact eqverts_eq q1 q2 c1 c2 l m w h1 h2 hlen
  · exact eqverts_len q1 q2 c1 c2 l m w hlen


set_option maxHeartbeats 4000000 in
set_option maxRecDepth 100000 in
theorem eqarcs_len (q1 q2 : Option Addr) (c1 c2 : Nat) (l m : List Tri) (w : World) (hne : ¬ l.length = m.length) :
    Calls Tryd.prog 48 #[.slice q1 l.length c1, .slice q2 m.length c2] w fun e w' => e = .returned (.bool (decide (l = m))) ∧ Below w.heap.size w w' := by
  have HR : Hid (decide (l = m) = false) := Lib.hid (decide_eq_false (fun e => hne (by rw [e])))
  have d : ((l.length : Int) != (m.length : Int)) = true := by simpa using fun e : (l.length : Int) = (m.length : Int) => hne (by omega)
  clear hne
  go_enter Tryd.func48, Tryd.ntmps48
  go_wp2_with fail
  go_ret
  exact ⟨ret_bool HR.out.symm, Below.refl _ _⟩

set_option maxHeartbeats 4000000 in
set_option maxRecDepth 100000 in
theorem eqarcs_eq (q1 q2 : Option Addr) (c1 c2 : Nat) (l m : List Tri) (w : World) (h1 : Tris w (.slice q1 l.length c1) l) (h2 : Tris w (.slice q2 m.length c2) m) (hlen : l.length = m.length) :
    Calls Tryd.prog 48 #[.slice q1 l.length c1, .slice q2 m.length c2] w fun e w' => e = .returned (.bool (decide (l = m))) ∧ Below w.heap.size w w' := by
  have HL := Lib.hid hlen
  have H1 := Lib.hid h1
  have H2 := Lib.hid h2
  rw [← hlen]
  clear hlen h1 h2
  go_enter Tryd.func48, Tryd.ntmps48
  go_wp2_with fail
  go_loopw [5, 13] (fun _ i wr => ∃ k : Nat, k ≤ l.length ∧ i = .int .i64 k ∧ Hid (l.take k = m.take k) ∧ Hid (Below w.heap.size w wr)) (fun _ i _ => l.length - (intOf i).toNat)
  case atStart => exact ⟨0, Nat.zero_le _, rfl, Lib.hid rfl, Lib.hid (Below.refl _ _)⟩
  case round =>
    obtain ⟨k, hk, rfl, HT, HBr⟩ := hrel
    by_cases hlt : k < l.length
    · have hlt2 : k < m.length := by have := HL.out; omega
      have hli : (k : Int) < (l.length : Int) := by omega
      have hle : l.length ≤ 9223372036854775807 := H1.out.le
      obtain ⟨ab, ao, e1, x0, x1, x2⟩ := (H1.out.below HBr.out).at hlt
      obtain ⟨bb, bo, e2, y0, y1, y2⟩ := (H2.out.below HBr.out).at hlt2
      obtain ⟨A, eA⟩ : ∃ A, l[k] = A := ⟨_, rfl⟩
      obtain ⟨B, eB⟩ : ∃ B, m[k] = B := ⟨_, rfl⟩
      rw [eA] at x0 x1 x2
      rw [eB] at y0 y1 y2
      subst e1
      subst e2
      have XA0 := Lib.hid x0
      have XA1 := Lib.hid x1
      have XA2 := Lib.hid x2
      by_cases hAB : A = B
      · subst hAB
        have XB0 := Lib.hid y0
        have XB1 := Lib.hid y1
        have XB2 := Lib.hid y2
        have HN : Hid (l.take (k + 1) = m.take (k + 1)) := Lib.hid (take_eq_succ hlt hlt2 HT.out (eA.trans eB.symm))
        clear x0 x1 x2 y0 y1 y2 eA eB
        go_wp2_with fail
        have hGS : Grows (fun w' => Below wr.heap.size wr w') := Grows.below wr
        refine' wp_growL _ (fun w' => Below wr.heap.size wr w') [[], [], [0, 1], [2], [], [], [4, 5], [6], [3, 7]] (Fact.lit _ :: Fact.lit _ :: Fact.lit _ :: Fact.lit _ :: Fact.lit _ :: Fact.lit _ :: Fact.lit _ :: Fact.lit _ :: Fact.lit _ :: []) (by kernel_rfl) rfl (by kernel_rfl) (Below.refl _ _).drew ?seqeqarcse
        case' seqeqarcse => skip
        (first | (refine' grow_skip rfl ?wt495 ?put495 ?next495; (case wt495 => rfl)) | (refine' grow_lit rfl ?wt495 ?run495 ?put495 ?next495; (case wt495 => rfl); (case run495 => (intro w' hS H; clear H; (have xa0 := keep hS XA0.out); (have xa1 := keep hS XA1.out); (have xa2 := keep hS XA2.out); (have xb0 := keep hS XB0.out); (have xb1 := keep hS XB1.out); (have xb2 := keep hS XB2.out); clear hS; go_simp; first | done | exact rfl)))); (case put495 => (simp only [Act.put, List.setIfInBounds_toArray, List.set_cons_zero, List.set_cons_succ]; first | done | exact rfl)); (case' next495 => skip)
        (first | (refine' grow_skip rfl ?wt496 ?put496 ?next496; (case wt496 => rfl)) | (refine' grow_lit rfl ?wt496 ?run496 ?put496 ?next496; (case wt496 => rfl); (case run496 => (intro w' hS H; clear H; (have xa0 := keep hS XA0.out); (have xa1 := keep hS XA1.out); (have xa2 := keep hS XA2.out); (have xb0 := keep hS XB0.out); (have xb1 := keep hS XB1.out); (have xb2 := keep hS XB2.out); clear hS; go_simp; first | done | exact rfl)))); (case put496 => (simp only [Act.put, List.setIfInBounds_toArray, List.set_cons_zero, List.set_cons_succ]; first | done | exact rfl)); (case' next496 => skip)
        (first | (refine' grow_skip rfl ?wt497 ?put497 ?next497; (case wt497 => rfl)) | (refine' grow_lit rfl ?wt497 ?run497 ?put497 ?next497; (case wt497 => rfl); (case run497 => (intro w' hS H; clear H; (have xa0 := keep hS XA0.out); (have xa1 := keep hS XA1.out); (have xa2 := keep hS XA2.out); (have xb0 := keep hS XB0.out); (have xb1 := keep hS XB1.out); (have xb2 := keep hS XB2.out); clear hS; go_simp; first | done | exact rfl)))); (case put497 => (simp only [Act.put, List.setIfInBounds_toArray, List.set_cons_zero, List.set_cons_succ]; first | done | exact rfl)); (case' next497 => skip)
        (first | (refine' grow_skip rfl ?wt498 ?put498 ?next498; (case wt498 => rfl)) | (refine' grow_lit rfl ?wt498 ?run498 ?put498 ?next498; (case wt498 => rfl); (case run498 => (intro w' hS H; clear H; (have xa0 := keep hS XA0.out); (have xa1 := keep hS XA1.out); (have xa2 := keep hS XA2.out); (have xb0 := keep hS XB0.out); (have xb1 := keep hS XB1.out); (have xb2 := keep hS XB2.out); clear hS; go_simp; first | done | exact rfl)))); (case put498 => (simp only [Act.put, List.setIfInBounds_toArray, List.set_cons_zero, List.set_cons_succ]; first | done | exact rfl)); (case' next498 => skip)
        (first | (refine' grow_skip rfl ?wt499 ?put499 ?next499; (case wt499 => rfl)) | (refine' grow_lit rfl ?wt499 ?run499 ?put499 ?next499; (case wt499 => rfl); (case run499 => (intro w' hS H; clear H; (have xa0 := keep hS XA0.out); (have xa1 := keep hS XA1.out); (have xa2 := keep hS XA2.out); (have xb0 := keep hS XB0.out); (have xb1 := keep hS XB1.out); (have xb2 := keep hS XB2.out); clear hS; go_simp; first | done | exact rfl)))); (case put499 => (simp only [Act.put, List.setIfInBounds_toArray, List.set_cons_zero, List.set_cons_succ]; first | done | exact rfl)); (case' next499 => skip)
        (first | (refine' grow_skip rfl ?wt500 ?put500 ?next500; (case wt500 => rfl)) | (refine' grow_lit rfl ?wt500 ?run500 ?put500 ?next500; (case wt500 => rfl); (case run500 => (intro w' hS H; clear H; (have xa0 := keep hS XA0.out); (have xa1 := keep hS XA1.out); (have xa2 := keep hS XA2.out); (have xb0 := keep hS XB0.out); (have xb1 := keep hS XB1.out); (have xb2 := keep hS XB2.out); clear hS; go_simp; first | done | exact rfl)))); (case put500 => (simp only [Act.put, List.setIfInBounds_toArray, List.set_cons_zero, List.set_cons_succ]; first | done | exact rfl)); (case' next500 => skip)
        (first | (refine' grow_skip rfl ?wt501 ?put501 ?next501; (case wt501 => rfl)) | (refine' grow_lit rfl ?wt501 ?run501 ?put501 ?next501; (case wt501 => rfl); (case run501 => (intro w' hS H; clear H; (have xa0 := keep hS XA0.out); (have xa1 := keep hS XA1.out); (have xa2 := keep hS XA2.out); (have xb0 := keep hS XB0.out); (have xb1 := keep hS XB1.out); (have xb2 := keep hS XB2.out); clear hS; go_simp; first | done | exact rfl)))); (case put501 => (simp only [Act.put, List.setIfInBounds_toArray, List.set_cons_zero, List.set_cons_succ]; first | done | exact rfl)); (case' next501 => skip)
        (first | (refine' grow_skip rfl ?wt502 ?put502 ?next502; (case wt502 => rfl)) | (refine' grow_lit rfl ?wt502 ?run502 ?put502 ?next502; (case wt502 => rfl); (case run502 => (intro w' hS H; clear H; (have xa0 := keep hS XA0.out); (have xa1 := keep hS XA1.out); (have xa2 := keep hS XA2.out); (have xb0 := keep hS XB0.out); (have xb1 := keep hS XB1.out); (have xb2 := keep hS XB2.out); clear hS; go_simp; first | done | exact rfl)))); (case put502 => (simp only [Act.put, List.setIfInBounds_toArray, List.set_cons_zero, List.set_cons_succ]; first | done | exact rfl)); (case' next502 => skip)
        (refine' grow_lit (u := .bool false) rfl ?wteqarcse ?runeqarcse ?puteqarcse ?nexteqarcse; (case wteqarcse => rfl); (case runeqarcse => (intro w' hS H; (have g := guard_parc); (have q := neq_parc A.1 A.2.1 A.2.2 A.1 A.2.1 A.2.2 w'); clear H hS; go_simp)); (case puteqarcse => (simp only [Act.put, List.setIfInBounds_toArray, List.set_cons_zero, List.set_cons_succ]; first | done | exact rfl)); (case' nexteqarcse => skip))
        intro w1 hb _
        have HB1 := Lib.hid (HBr.out.trans (hb.mono HBr.out.size))
        clear hb hGS
        go_wp2_with fail
        go_roundw
        case rel => exact ⟨k + 1, by omega, by go_num, HN, HB1⟩
        case measure => simp [intOf]; omega
      · have XB0 := Lib.hid y0
        have XB1 := Lib.hid y1
        have XB2 := Lib.hid y2
        have HR : Hid (decide (l = m) = false) := Lib.hid (decide_eq_false (fun e => getElem_ne hlt hlt2 (by rw [eA, eB]; exact hAB) e))
        have HAB := Lib.hid hAB
        have HNE : Hid ((A.1 == B.1 && A.2.1 == B.2.1 && A.2.2 == B.2.2) = false) := Lib.hid (by
          cases hh : (A.1 == B.1 && A.2.1 == B.2.1 && A.2.2 == B.2.2) with
          | false => rfl
          | true =>
            simp only [Bool.and_eq_true, beq_iff_eq] at hh
            exact absurd (Prod.ext hh.1.1 (Prod.ext hh.1.2 hh.2)) hAB)
        clear x0 x1 x2 y0 y1 y2 eA eB hAB
        go_wp2_with fail
        have hGS : Grows (fun w' => Below wr.heap.size wr w') := Grows.below wr
        refine' wp_growL _ (fun w' => Below wr.heap.size wr w') [[], [], [0, 1], [2], [], [], [4, 5], [6], [3, 7]] (Fact.lit _ :: Fact.lit _ :: Fact.lit _ :: Fact.lit _ :: Fact.lit _ :: Fact.lit _ :: Fact.lit _ :: Fact.lit _ :: Fact.lit _ :: []) (by kernel_rfl) rfl (by kernel_rfl) (Below.refl _ _).drew ?seqeqarcsn
        case' seqeqarcsn => skip
        (first | (refine' grow_skip rfl ?wt503 ?put503 ?next503; (case wt503 => rfl)) | (refine' grow_lit rfl ?wt503 ?run503 ?put503 ?next503; (case wt503 => rfl); (case run503 => (intro w' hS H; clear H; (have xa0 := keep hS XA0.out); (have xa1 := keep hS XA1.out); (have xa2 := keep hS XA2.out); (have xb0 := keep hS XB0.out); (have xb1 := keep hS XB1.out); (have xb2 := keep hS XB2.out); clear hS; go_simp; first | done | exact rfl)))); (case put503 => (simp only [Act.put, List.setIfInBounds_toArray, List.set_cons_zero, List.set_cons_succ]; first | done | exact rfl)); (case' next503 => skip)
        (first | (refine' grow_skip rfl ?wt504 ?put504 ?next504; (case wt504 => rfl)) | (refine' grow_lit rfl ?wt504 ?run504 ?put504 ?next504; (case wt504 => rfl); (case run504 => (intro w' hS H; clear H; (have xa0 := keep hS XA0.out); (have xa1 := keep hS XA1.out); (have xa2 := keep hS XA2.out); (have xb0 := keep hS XB0.out); (have xb1 := keep hS XB1.out); (have xb2 := keep hS XB2.out); clear hS; go_simp; first | done | exact rfl)))); (case put504 => (simp only [Act.put, List.setIfInBounds_toArray, List.set_cons_zero, List.set_cons_succ]; first | done | exact rfl)); (case' next504 => skip)
        (first | (refine' grow_skip rfl ?wt505 ?put505 ?next505; (case wt505 => rfl)) | (refine' grow_lit rfl ?wt505 ?run505 ?put505 ?next505; (case wt505 => rfl); (case run505 => (intro w' hS H; clear H; (have xa0 := keep hS XA0.out); (have xa1 := keep hS XA1.out); (have xa2 := keep hS XA2.out); (have xb0 := keep hS XB0.out); (have xb1 := keep hS XB1.out); (have xb2 := keep hS XB2.out); clear hS; go_simp; first | done | exact rfl)))); (case put505 => (simp only [Act.put, List.setIfInBounds_toArray, List.set_cons_zero, List.set_cons_succ]; first | done | exact rfl)); (case' next505 => skip)
        (first | (refine' grow_skip rfl ?wt506 ?put506 ?next506; (case wt506 => rfl)) | (refine' grow_lit rfl ?wt506 ?run506 ?put506 ?next506; (case wt506 => rfl); (case run506 => (intro w' hS H; clear H; (have xa0 := keep hS XA0.out); (have xa1 := keep hS XA1.out); (have xa2 := keep hS XA2.out); (have xb0 := keep hS XB0.out); (have xb1 := keep hS XB1.out); (have xb2 := keep hS XB2.out); clear hS; go_simp; first | done | exact rfl)))); (case put506 => (simp only [Act.put, List.setIfInBounds_toArray, List.set_cons_zero, List.set_cons_succ]; first | done | exact rfl)); (case' next506 => skip)
        (first | (refine' grow_skip rfl ?wt507 ?put507 ?next507; (case wt507 => rfl)) | (refine' grow_lit rfl ?wt507 ?run507 ?put507 ?next507; (case wt507 => rfl); (case run507 => (intro w' hS H; clear H; (have xa0 := keep hS XA0.out); (have xa1 := keep hS XA1.out); (have xa2 := keep hS XA2.out); (have xb0 := keep hS XB0.out); (have xb1 := keep hS XB1.out); (have xb2 := keep hS XB2.out); clear hS; go_simp; first | done | exact rfl)))); (case put507 => (simp only [Act.put, List.setIfInBounds_toArray, List.set_cons_zero, List.set_cons_succ]; first | done | exact rfl)); (case' next507 => skip)
        (first | (refine' grow_skip rfl ?wt508 ?put508 ?next508; (case wt508 => rfl)) | (refine' grow_lit rfl ?wt508 ?run508 ?put508 ?next508; (case wt508 => rfl); (case run508 => (intro w' hS H; clear H; (have xa0 := keep hS XA0.out); (have xa1 := keep hS XA1.out); (have xa2 := keep hS XA2.out); (have xb0 := keep hS XB0.out); (have xb1 := keep hS XB1.out); (have xb2 := keep hS XB2.out); clear hS; go_simp; first | done | exact rfl)))); (case put508 => (simp only [Act.put, List.setIfInBounds_toArray, List.set_cons_zero, List.set_cons_succ]; first | done | exact rfl)); (case' next508 => skip)
        (first | (refine' grow_skip rfl ?wt509 ?put509 ?next509; (case wt509 => rfl)) | (refine' grow_lit rfl ?wt509 ?run509 ?put509 ?next509; (case wt509 => rfl); (case run509 => (intro w' hS H; clear H; (have xa0 := keep hS XA0.out); (have xa1 := keep hS XA1.out); (have xa2 := keep hS XA2.out); (have xb0 := keep hS XB0.out); (have xb1 := keep hS XB1.out); (have xb2 := keep hS XB2.out); clear hS; go_simp; first | done | exact rfl)))); (case put509 => (simp only [Act.put, List.setIfInBounds_toArray, List.set_cons_zero, List.set_cons_succ]; first | done | exact rfl)); (case' next509 => skip)
        (first | (refine' grow_skip rfl ?wt510 ?put510 ?next510; (case wt510 => rfl)) | (refine' grow_lit rfl ?wt510 ?run510 ?put510 ?next510; (case wt510 => rfl); (case run510 => (intro w' hS H; clear H; (have xa0 := keep hS XA0.out); (have xa1 := keep hS XA1.out); (have xa2 := keep hS XA2.out); (have xb0 := keep hS XB0.out); (have xb1 := keep hS XB1.out); (have xb2 := keep hS XB2.out); clear hS; go_simp; first | done | exact rfl)))); (case put510 => (simp only [Act.put, List.setIfInBounds_toArray, List.set_cons_zero, List.set_cons_succ]; first | done | exact rfl)); (case' next510 => skip)
        (refine' grow_lit (u := .bool true) rfl ?wteqarcsn ?runeqarcsn ?puteqarcsn ?nexteqarcsn; (case wteqarcsn => rfl); (case runeqarcsn => (intro w' hS H; (have g := guard_parc); (have q := ((neq_parc A.1 A.2.1 A.2.2 B.1 B.2.1 B.2.2 w').trans (by rw [HNE.out]; rfl) : _ = Result.ok (.bool true) w')); clear H hS; go_simp; first | done | exact fun h1 h2 h3 => HAB.out (Prod.ext h1 (Prod.ext h2 h3)))); (case puteqarcsn => (simp only [Act.put, List.setIfInBounds_toArray, List.set_cons_zero, List.set_cons_succ]; first | done | exact rfl)); (case' nexteqarcsn => skip))
        intro w1 hb _
        have HB1 := Lib.hid (HBr.out.trans (hb.mono HBr.out.size))
        clear hb hGS
        go_wp2_with fail
        go_ret
        exact ⟨ret_bool HR.out.symm, HB1.out⟩
    · obtain rfl : k = l.length := by omega
      have HR : Hid (decide (l = m) = true) := Lib.hid (decide_eq_true (take_all HL.out.symm HT.out))
      go_wp2_with fail
      go_ret
      exact ⟨ret_bool HR.out.symm, HBr.out⟩
theorem eqarcs_any (q1 q2 : Option Addr) (c1 c2 : Nat) (l m : List Tri) (w : World) (h1 : Tris w (.slice q1 l.length c1) l) (h2 : Tris w (.slice q2 m.length c2) m) :
    Calls Tryd.prog 48 #[.slice q1 l.length c1, .slice q2 m.length c2] w fun e w' => e = .returned (.bool (decide (l = m))) ∧ Below w.heap.size w w' := by
  by_cases hlen : l.length = m.length
  · exact eqarcs_eq q1 q2 c1 c2 l m w h1 h2 hlen
  · exact eqarcs_len q1 q2 c1 c2 l m w hlen


set_option maxHeartbeats 4000000 in
set_option maxRecDepth 100000 in
theorem eqtabs_len (q1 q2 : Option Addr) (c1 c2 : Nat) (l m : List Tab) (w : World) (hne : ¬ l.length = m.length) :
    Calls Tryd.prog 49 #[.slice q1 l.length c1, .slice q2 m.length c2, .func (.func 50) #[] #[]] w fun e w' => e = .returned (.bool (decide (l = m))) ∧ Below w.heap.size w w' := by
  have HR : Hid (decide (l = m) = false) := Lib.hid (decide_eq_false (fun e => hne (by rw [e])))
  have d : ((l.length : Int) != (m.length : Int)) = true := by simpa using fun e : (l.length : Int) = (m.length : Int) => hne (by omega)
  clear hne
  go_enter Tryd.func49, Tryd.ntmps49
  go_wp2_with fail
  go_ret
  exact ⟨ret_bool HR.out.symm, Below.refl _ _⟩

set_option maxHeartbeats 4000000 in
set_option maxRecDepth 100000 in
theorem eqtabs_eq (q1 q2 : Option Addr) (c1 c2 : Nat) (l m : List Tab) (w : World) (h1 : Tabs w (.slice q1 l.length c1) l) (h2 : Tabs w (.slice q2 m.length c2) m) (hlen : l.length = m.length) :
    Calls Tryd.prog 49 #[.slice q1 l.length c1, .slice q2 m.length c2, .func (.func 50) #[] #[]] w fun e w' => e = .returned (.bool (decide (l = m))) ∧ Below w.heap.size w w' := by
  have HL := Lib.hid hlen
  have H1 := Lib.hid h1
  have H2 := Lib.hid h2
  rw [← hlen]
  clear hlen h1 h2
  go_enter Tryd.func49, Tryd.ntmps49
  go_wp2_with fail
  go_loopw [7, 8, 9, 17] (fun _ _ _ i wr => ∃ k : Nat, k ≤ l.length ∧ i = .int .i64 k ∧ Hid (l.take k = m.take k) ∧ Hid (Below w.heap.size w wr)) (fun _ _ _ i _ => l.length - (intOf i).toNat)
  case atStart => exact ⟨0, Nat.zero_le _, rfl, Lib.hid rfl, Lib.hid (Below.refl _ _)⟩
  case round =>
    obtain ⟨k, hk, rfl, HT, HBr⟩ := hrel
    by_cases hlt : k < l.length
    · have hlt2 : k < m.length := by have := HL.out; omega
      have hli : (k : Int) < (l.length : Int) := by omega
      have hle : l.length ≤ 9223372036854775807 := H1.out.le
      obtain ⟨ab, ao, au, e1, x0, x1, x2, xt⟩ := (H1.out.below HBr.out).at hlt
      obtain ⟨bb, bo, bu, e2, y0, y1, y2, yt⟩ := (H2.out.below HBr.out).at hlt2
      obtain ⟨⟨I, O, A⟩, eA⟩ : ∃ A, l[k] = A := ⟨_, rfl⟩
      obtain ⟨⟨J, M, B⟩, eB⟩ : ∃ B, m[k] = B := ⟨_, rfl⟩
      rw [eA] at x0 x1 xt
      rw [eB] at y0 y1 yt
      simp only [] at x0 x1 xt y0 y1 yt
      subst e1
      subst e2
      obtain ⟨aq, ac, rfl⟩ := xt.shape
      obtain ⟨bq, bc, rfl⟩ := yt.shape
      have hb1 : Below wr.heap.size wr ((wr.alloc (.cells #[.int .i64 I, .int .i64 O, .slice aq A.length ac] 58)).alloc (.cells #[.int .i64 J, .int .i64 M, .slice bq B.length bc] 58)) := below_alloc2 _ _
      have XT := Lib.hid (xt.below hb1)
      have YT := Lib.hid (yt.below hb1)
      have HB1 := Lib.hid (HBr.out.trans (hb1.mono HBr.out.size))
      have hbx := World.block_lt_of_cell? wr _ x0
      have hby := World.block_lt_of_cell? wr _ y0
      have EA := Lib.hid eA
      have EB := Lib.hid eB
      clear hb1 xt yt eA eB
      go_wp2_with fail
      clear x0 x1 x2 y0 y1 y2 hbx hby
      by_cases hAB : I = J ∧ O = M ∧ A = B
      · have HN : Hid (l.take (k + 1) = m.take (k + 1)) := Lib.hid (take_eq_succ hlt hlt2 HT.out (by rw [EA.out, EB.out, hAB.1, hAB.2.1, hAB.2.2]))
        have HD := Lib.hid (decide_eq_true hAB)
        clear hAB
        refine (tsame_any I O J M _ _ A B _ XT.out YT.out).mono ?_
        rw [HD.out]
        rintro e w' ⟨rfl, hb⟩
        have HB2 := Lib.hid (HB1.out.trans (hb.mono HB1.out.size))
        clear hb HB1 XT YT
        go_wp2_with fail
        go_roundw
        case rel => exact ⟨k + 1, by omega, by go_num, HN, HB2⟩
        case measure => simp [intOf]; omega
      · have HD := Lib.hid (decide_eq_false hAB)
        have HR : Hid (decide (l = m) = false) := Lib.hid (decide_eq_false (fun e => getElem_ne hlt hlt2 (by rw [EA.out, EB.out]; intro h; injection h with h1 h2; injection h2 with h2 h3; exact hAB ⟨h1, h2, h3⟩) e))
        clear hAB
        refine (tsame_any I O J M _ _ A B _ XT.out YT.out).mono ?_
        rw [HD.out]
        rintro e w' ⟨rfl, hb⟩
        have HB2 := Lib.hid (HB1.out.trans (hb.mono HB1.out.size))
        clear hb HB1 XT YT
        go_wp2_with fail
        go_ret
        exact ⟨ret_bool HR.out.symm, HB2.out⟩
    · obtain rfl : k = l.length := by omega
      have HR : Hid (decide (l = m) = true) := Lib.hid (decide_eq_true (take_all HL.out.symm HT.out))
      go_wp2_with fail
      go_ret
      exact ⟨ret_bool HR.out.symm, HBr.out⟩
theorem eqtabs_any (q1 q2 : Option Addr) (c1 c2 : Nat) (l m : List Tab) (w : World) (h1 : Tabs w (.slice q1 l.length c1) l) (h2 : Tabs w (.slice q2 m.length c2) m) :
    Calls Tryd.prog 49 #[.slice q1 l.length c1, .slice q2 m.length c2, .func (.func 50) #[] #[]] w fun e w' => e = .returned (.bool (decide (l = m))) ∧ Below w.heap.size w w' := by
  by_cases hlen : l.length = m.length
  · exact eqtabs_eq q1 q2 c1 c2 l m w h1 h2 hlen
  · exact eqtabs_len q1 q2 c1 c2 l m w hlen

set_option maxHeartbeats 4000000 in
set_option maxRecDepth 100000 in
theorem nsame_v (a b : NetD) (vq aq tq : Option Addr) (vc ac tc : Nat) (vq2 aq2 tq2 : Option Addr) (vc2 ac2 tc2 : Nat) (w : World) (h : NetS w a vq aq tq vc ac tc) (h2 : NetS w b vq2 aq2 tq2 vc2 ac2 tc2) (ev : decide (a.v = b.v) = false) :
    Calls Tryd.prog 16 #[netVal a vq aq tq vc ac tc, netVal b vq2 aq2 tq2 vc2 ac2 tc2] w fun e w' => e = .returned (.bool false) ∧ Below w.heap.size w w' := by
  have EV := Lib.hid ev
  clear ev
  go_enter Tryd.func16, Tryd.ntmps16
  go_wp2_with fail
  obtain ⟨W0, hW0⟩ := named ((w.alloc (.cells #[.slice vq a.v.length vc, .slice aq a.a.length ac, .slice tq a.t.length tc] 37)).alloc (.cells #[.slice vq2 b.v.length vc2, .slice aq2 b.a.length ac2, .slice tq2 b.t.length tc2] 37))
  rw [← hW0]
  have B0 : Hid (Below w.heap.size w W0) := by rw [hW0]; exact Lib.hid (below_alloc2 _ _)
  have K1 : Hid (Blk W0 w.heap.size #[.slice vq a.v.length vc, .slice aq a.a.length ac, .slice tq a.t.length tc] 37) := by rw [hW0]; exact Lib.hid ((Blk.new _ _ _ _ rfl).old _)
  have K2 : Hid (Blk W0 (w.heap.size + 1) #[.slice vq2 b.v.length vc2, .slice aq2 b.a.length ac2, .slice tq2 b.t.length tc2] 37) := by rw [hW0]; exact Lib.hid (Blk.new _ _ _ _ (by simp))
  have H1 := Lib.hid (h.below B0.out)
  have H2 := Lib.hid (h2.below B0.out)
  clear h h2 hW0
  refine (eqverts_any vq vq2 vc vc2 a.v b.v _ H1.out.v H2.out.v).mono ?_
  rw [EV.out]
  rintro e w1 ⟨rfl, hb⟩
  have K1_ := Lib.hid (K1.out.keep hb)
  have K2_ := Lib.hid (K2.out.keep hb)
  have H1_ := Lib.hid (H1.out.below hb)
  have H2_ := Lib.hid (H2.out.below hb)
  have B0_ := Lib.hid (B0.out.trans (hb.mono B0.out.size))
  clear K1 K2 H1 H2 B0 hb
  have K1 := K1_
  have K2 := K2_
  have H1 := H1_
  have H2 := H2_
  have B0 := B0_
  clear K1_ K2_ H1_ H2_ B0_
  obtain ⟨c0, c1, c2, -, -, -⟩ := K1.out.o3
  obtain ⟨d0, d1, d2, -, -, -⟩ := K2.out.o3
  go_wp2_with fail
  clear c0 c1 c2 d0 d1 d2
  go_ret
  exact ⟨rfl, B0.out⟩

set_option maxHeartbeats 4000000 in
set_option maxRecDepth 100000 in
theorem nsame_a (a b : NetD) (vq aq tq : Option Addr) (vc ac tc : Nat) (vq2 aq2 tq2 : Option Addr) (vc2 ac2 tc2 : Nat) (w : World) (h : NetS w a vq aq tq vc ac tc) (h2 : NetS w b vq2 aq2 tq2 vc2 ac2 tc2) (ev : decide (a.v = b.v) = true) (ea : decide (a.a = b.a) = false) :
    Calls Tryd.prog 16 #[netVal a vq aq tq vc ac tc, netVal b vq2 aq2 tq2 vc2 ac2 tc2] w fun e w' => e = .returned (.bool false) ∧ Below w.heap.size w w' := by
  have EV := Lib.hid ev
  have EA := Lib.hid ea
  clear ev ea
  go_enter Tryd.func16, Tryd.ntmps16
  go_wp2_with fail
  obtain ⟨W0, hW0⟩ := named ((w.alloc (.cells #[.slice vq a.v.length vc, .slice aq a.a.length ac, .slice tq a.t.length tc] 37)).alloc (.cells #[.slice vq2 b.v.length vc2, .slice aq2 b.a.length ac2, .slice tq2 b.t.length tc2] 37))
  rw [← hW0]
  have B0 : Hid (Below w.heap.size w W0) := by rw [hW0]; exact Lib.hid (below_alloc2 _ _)
  have K1 : Hid (Blk W0 w.heap.size #[.slice vq a.v.length vc, .slice aq a.a.length ac, .slice tq a.t.length tc] 37) := by rw [hW0]; exact Lib.hid ((Blk.new _ _ _ _ rfl).old _)
  have K2 : Hid (Blk W0 (w.heap.size + 1) #[.slice vq2 b.v.length vc2, .slice aq2 b.a.length ac2, .slice tq2 b.t.length tc2] 37) := by rw [hW0]; exact Lib.hid (Blk.new _ _ _ _ (by simp))
  have H1 := Lib.hid (h.below B0.out)
  have H2 := Lib.hid (h2.below B0.out)
  clear h h2 hW0
  refine (eqverts_any vq vq2 vc vc2 a.v b.v _ H1.out.v H2.out.v).mono ?_
  rw [EV.out]
  rintro e w1 ⟨rfl, hb⟩
  have K1_ := Lib.hid (K1.out.keep hb)
  have K2_ := Lib.hid (K2.out.keep hb)
  have H1_ := Lib.hid (H1.out.below hb)
  have H2_ := Lib.hid (H2.out.below hb)
  have B0_ := Lib.hid (B0.out.trans (hb.mono B0.out.size))
  clear K1 K2 H1 H2 B0 hb
  have K1 := K1_
  have K2 := K2_
  have H1 := H1_
  have H2 := H2_
  have B0 := B0_
  clear K1_ K2_ H1_ H2_ B0_
  obtain ⟨c0, c1, c2, -, -, -⟩ := K1.out.o3
  obtain ⟨d0, d1, d2, -, -, -⟩ := K2.out.o3
  go_wp2_with fail
  clear c0 c1 c2 d0 d1 d2
  refine (eqarcs_any aq aq2 ac ac2 a.a b.a _ H1.out.a H2.out.a).mono ?_
  rw [EA.out]
  rintro e w2 ⟨rfl, hb⟩
  have K1_ := Lib.hid (K1.out.keep hb)
  have K2_ := Lib.hid (K2.out.keep hb)
  have H1_ := Lib.hid (H1.out.below hb)
  have H2_ := Lib.hid (H2.out.below hb)
  have B0_ := Lib.hid (B0.out.trans (hb.mono B0.out.size))
  clear K1 K2 H1 H2 B0 hb
  have K1 := K1_
  have K2 := K2_
  have H1 := H1_
  have H2 := H2_
  have B0 := B0_
  clear K1_ K2_ H1_ H2_ B0_
  obtain ⟨c0, c1, c2, -, -, -⟩ := K1.out.o3
  obtain ⟨d0, d1, d2, -, -, -⟩ := K2.out.o3
  go_wp2_with fail
  clear c0 c1 c2 d0 d1 d2
  go_ret
  exact ⟨rfl, B0.out⟩

set_option maxHeartbeats 4000000 in
set_option maxRecDepth 100000 in
theorem nsame_t (a b : NetD) (vq aq tq : Option Addr) (vc ac tc : Nat) (vq2 aq2 tq2 : Option Addr) (vc2 ac2 tc2 : Nat) (w : World) (h : NetS w a vq aq tq vc ac tc) (h2 : NetS w b vq2 aq2 tq2 vc2 ac2 tc2) (ev : decide (a.v = b.v) = true) (ea : decide (a.a = b.a) = true) (et : decide (a.t = b.t) = false) :
    Calls Tryd.prog 16 #[netVal a vq aq tq vc ac tc, netVal b vq2 aq2 tq2 vc2 ac2 tc2] w fun e w' => e = .returned (.bool false) ∧ Below w.heap.size w w' := by
  have EV := Lib.hid ev
  have EA := Lib.hid ea
  have ET := Lib.hid et
  clear ev ea et
  go_enter Tryd.func16, Tryd.ntmps16
  go_wp2_with fail
  obtain ⟨W0, hW0⟩ := named ((w.alloc (.cells #[.slice vq a.v.length vc, .slice aq a.a.length ac, .slice tq a.t.length tc] 37)).alloc (.cells #[.slice vq2 b.v.length vc2, .slice aq2 b.a.length ac2, .slice tq2 b.t.length tc2] 37))
  rw [← hW0]
  have B0 : Hid (Below w.heap.size w W0) := by rw [hW0]; exact Lib.hid (below_alloc2 _ _)
  have K1 : Hid (Blk W0 w.heap.size #[.slice vq a.v.length vc, .slice aq a.a.length ac, .slice tq a.t.length tc] 37) := by rw [hW0]; exact Lib.hid ((Blk.new _ _ _ _ rfl).old _)
  have K2 : Hid (Blk W0 (w.heap.size + 1) #[.slice vq2 b.v.length vc2, .slice aq2 b.a.length ac2, .slice tq2 b.t.length tc2] 37) := by rw [hW0]; exact Lib.hid (Blk.new _ _ _ _ (by simp))
  have H1 := Lib.hid (h.below B0.out)
  have H2 := Lib.hid (h2.below B0.out)
  clear h h2 hW0
  refine (eqverts_any vq vq2 vc vc2 a.v b.v _ H1.out.v H2.out.v).mono ?_
  rw [EV.out]
  rintro e w1 ⟨rfl, hb⟩
  have K1_ := Lib.hid (K1.out.keep hb)
  have K2_ := Lib.hid (K2.out.keep hb)
  have H1_ := Lib.hid (H1.out.below hb)
  have H2_ := Lib.hid (H2.out.below hb)
  have B0_ := Lib.hid (B0.out.trans (hb.mono B0.out.size))
  clear K1 K2 H1 H2 B0 hb
  have K1 := K1_
  have K2 := K2_
  have H1 := H1_
  have H2 := H2_
  have B0 := B0_
  clear K1_ K2_ H1_ H2_ B0_
  obtain ⟨c0, c1, c2, -, -, -⟩ := K1.out.o3
  obtain ⟨d0, d1, d2, -, -, -⟩ := K2.out.o3
  go_wp2_with fail
  clear c0 c1 c2 d0 d1 d2
  refine (eqarcs_any aq aq2 ac ac2 a.a b.a _ H1.out.a H2.out.a).mono ?_
  rw [EA.out]
  rintro e w2 ⟨rfl, hb⟩
  have K1_ := Lib.hid (K1.out.keep hb)
  have K2_ := Lib.hid (K2.out.keep hb)
  have H1_ := Lib.hid (H1.out.below hb)
  have H2_ := Lib.hid (H2.out.below hb)
  have B0_ := Lib.hid (B0.out.trans (hb.mono B0.out.size))
  clear K1 K2 H1 H2 B0 hb
  have K1 := K1_
  have K2 := K2_
  have H1 := H1_
  have H2 := H2_
  have B0 := B0_
  clear K1_ K2_ H1_ H2_ B0_
  obtain ⟨c0, c1, c2, -, -, -⟩ := K1.out.o3
  obtain ⟨d0, d1, d2, -, -, -⟩ := K2.out.o3
  go_wp2_with fail
  clear c0 c1 c2 d0 d1 d2
  refine (eqtabs_any tq tq2 tc tc2 a.t b.t _ H1.out.t H2.out.t).mono ?_
  rw [ET.out]
  rintro e w3 ⟨rfl, hb⟩
  have K1_ := Lib.hid (K1.out.keep hb)
  have K2_ := Lib.hid (K2.out.keep hb)
  have H1_ := Lib.hid (H1.out.below hb)
  have H2_ := Lib.hid (H2.out.below hb)
  have B0_ := Lib.hid (B0.out.trans (hb.mono B0.out.size))
  clear K1 K2 H1 H2 B0 hb
  have K1 := K1_
  have K2 := K2_
  have H1 := H1_
  have H2 := H2_
  have B0 := B0_
  clear K1_ K2_ H1_ H2_ B0_
  obtain ⟨c0, c1, c2, -, -, -⟩ := K1.out.o3
  obtain ⟨d0, d1, d2, -, -, -⟩ := K2.out.o3
  go_wp2_with fail
  clear c0 c1 c2 d0 d1 d2
  go_ret
  exact ⟨rfl, B0.out⟩

set_option maxHeartbeats 4000000 in
set_option maxRecDepth 100000 in
theorem nsame_all (a b : NetD) (vq aq tq : Option Addr) (vc ac tc : Nat) (vq2 aq2 tq2 : Option Addr) (vc2 ac2 tc2 : Nat) (w : World) (h : NetS w a vq aq tq vc ac tc) (h2 : NetS w b vq2 aq2 tq2 vc2 ac2 tc2) (ev : decide (a.v = b.v) = true) (ea : decide (a.a = b.a) = true) (et : decide (a.t = b.t) = true) :
    Calls Tryd.prog 16 #[netVal a vq aq tq vc ac tc, netVal b vq2 aq2 tq2 vc2 ac2 tc2] w fun e w' => e = .returned (.bool true) ∧ Below w.heap.size w w' := by
  have EV := Lib.hid ev
  have EA := Lib.hid ea
  have ET := Lib.hid et
  clear ev ea et
  go_enter Tryd.func16, Tryd.ntmps16
  go_wp2_with fail
  obtain ⟨W0, hW0⟩ := named ((w.alloc (.cells #[.slice vq a.v.length vc, .slice aq a.a.length ac, .slice tq a.t.length tc] 37)).alloc (.cells #[.slice vq2 b.v.length vc2, .slice aq2 b.a.length ac2, .slice tq2 b.t.length tc2] 37))
  rw [← hW0]
  have B0 : Hid (Below w.heap.size w W0) := by rw [hW0]; exact Lib.hid (below_alloc2 _ _)
  have K1 : Hid (Blk W0 w.heap.size #[.slice vq a.v.length vc, .slice aq a.a.length ac, .slice tq a.t.length tc] 37) := by rw [hW0]; exact Lib.hid ((Blk.new _ _ _ _ rfl).old _)
  have K2 : Hid (Blk W0 (w.heap.size + 1) #[.slice vq2 b.v.length vc2, .slice aq2 b.a.length ac2, .slice tq2 b.t.length tc2] 37) := by rw [hW0]; exact Lib.hid (Blk.new _ _ _ _ (by simp))
  have H1 := Lib.hid (h.below B0.out)
  have H2 := Lib.hid (h2.below B0.out)
  clear h h2 hW0
  refine (eqverts_any vq vq2 vc vc2 a.v b.v _ H1.out.v H2.out.v).mono ?_
  rw [EV.out]
  rintro e w1 ⟨rfl, hb⟩
  have K1_ := Lib.hid (K1.out.keep hb)
  have K2_ := Lib.hid (K2.out.keep hb)
  have H1_ := Lib.hid (H1.out.below hb)
  have H2_ := Lib.hid (H2.out.below hb)
  have B0_ := Lib.hid (B0.out.trans (hb.mono B0.out.size))
  clear K1 K2 H1 H2 B0 hb
  have K1 := K1_
  have K2 := K2_
  have H1 := H1_
  have H2 := H2_
  have B0 := B0_
  clear K1_ K2_ H1_ H2_ B0_
  obtain ⟨c0, c1, c2, -, -, -⟩ := K1.out.o3
  obtain ⟨d0, d1, d2, -, -, -⟩ := K2.out.o3
  go_wp2_with fail
  clear c0 c1 c2 d0 d1 d2
  refine (eqarcs_any aq aq2 ac ac2 a.a b.a _ H1.out.a H2.out.a).mono ?_
  rw [EA.out]
  rintro e w2 ⟨rfl, hb⟩
  have K1_ := Lib.hid (K1.out.keep hb)
  have K2_ := Lib.hid (K2.out.keep hb)
  have H1_ := Lib.hid (H1.out.below hb)
  have H2_ := Lib.hid (H2.out.below hb)
  have B0_ := Lib.hid (B0.out.trans (hb.mono B0.out.size))
  clear K1 K2 H1 H2 B0 hb
  have K1 := K1_
  have K2 := K2_
  have H1 := H1_
  have H2 := H2_
  have B0 := B0_
  clear K1_ K2_ H1_ H2_ B0_
  obtain ⟨c0, c1, c2, -, -, -⟩ := K1.out.o3
  obtain ⟨d0, d1, d2, -, -, -⟩ := K2.out.o3
  go_wp2_with fail
  clear c0 c1 c2 d0 d1 d2
  refine (eqtabs_any tq tq2 tc tc2 a.t b.t _ H1.out.t H2.out.t).mono ?_
  rw [ET.out]
  rintro e w3 ⟨rfl, hb⟩
  have K1_ := Lib.hid (K1.out.keep hb)
  have K2_ := Lib.hid (K2.out.keep hb)
  have H1_ := Lib.hid (H1.out.below hb)
  have H2_ := Lib.hid (H2.out.below hb)
  have B0_ := Lib.hid (B0.out.trans (hb.mono B0.out.size))
  clear K1 K2 H1 H2 B0 hb
  have K1 := K1_
  have K2 := K2_
  have H1 := H1_
  have H2 := H2_
  have B0 := B0_
  clear K1_ K2_ H1_ H2_ B0_
  obtain ⟨c0, c1, c2, -, -, -⟩ := K1.out.o3
  obtain ⟨d0, d1, d2, -, -, -⟩ := K2.out.o3
  go_wp2_with fail
  clear c0 c1 c2 d0 d1 d2
  go_ret
  exact ⟨rfl, B0.out⟩

/-- The program's own Same. -/
theorem nsame_any (a b : NetD) (vq aq tq : Option Addr) (vc ac tc : Nat) (vq2 aq2 tq2 : Option Addr) (vc2 ac2 tc2 : Nat) (w : World) (h : NetS w a vq aq tq vc ac tc) (h2 : NetS w b vq2 aq2 tq2 vc2 ac2 tc2) (B : Bool) (hB : sameN a b = B) :
    Calls Tryd.prog 16 #[netVal a vq aq tq vc ac tc, netVal b vq2 aq2 tq2 vc2 ac2 tc2] w fun e w' => e = .returned (.bool B) ∧ Below w.heap.size w w' := by
  unfold sameN at hB
  by_cases hv : a.v = b.v
  · by_cases ha : a.a = b.a
    · by_cases ht : a.t = b.t
      · obtain rfl : B = true := by rw [← hB]; simp [hv, ha, ht]
        exact nsame_all a b vq aq tq vc ac tc vq2 aq2 tq2 vc2 ac2 tc2 w h h2 (decide_eq_true hv) (decide_eq_true ha) (decide_eq_true ht)
      · obtain rfl : B = false := by rw [← hB]; simp [ht]
        exact nsame_t a b vq aq tq vc ac tc vq2 aq2 tq2 vc2 ac2 tc2 w h h2 (decide_eq_true hv) (decide_eq_true ha) (decide_eq_false ht)
    · obtain rfl : B = false := by rw [← hB]; simp [ha]
      exact nsame_a a b vq aq tq vc ac tc vq2 aq2 tq2 vc2 ac2 tc2 w h h2 (decide_eq_true hv) (decide_eq_false ha)
  · obtain rfl : B = false := by rw [← hB]; simp [hv]
    exact nsame_v a b vq aq tq vc ac tc vq2 aq2 tq2 vc2 ac2 tc2 w h h2 (decide_eq_false hv)

end Go.Proofs.YtbdompngabokgaaDoor
