/-
  The document's nets: are two alike?
-/
import Derived.Test.YtbdompngabokgaaDoorStrEq
import Derived.Test.YtbdompngabokgaaDoorA2
import Derived.Test.YtbdompngabokgaaDoorGrow
namespace Go.Proofs.YtbdompngabokgaaDoor
open Go.RowKit

/-- Are two nets alike? -/
def sameN (a b : NetD) : Bool := decide (a.v = b.v ∧ a.a = b.a ∧ a.t = b.t)
theorem take_eq_succ {α : Type} {l m : List α} {k : Nat} (hl : k < l.length) (hm : k < m.length) (h : l.take k = m.take k) (he : l[k] = m[k]) : l.take (k + 1) = m.take (k + 1) := by
  rw [take_snoc l k hl, take_snoc m k hm, h, he]
theorem take_all {α : Type} {l m : List α} (hlen : m.length = l.length) (h : l.take l.length = m.take l.length) : l = m := by
  rw [List.take_length] at h
  rw [h, ← hlen, List.take_length]
theorem getElem_ne {α : Type} {l m : List α} {k : Nat} (hl : k < l.length) (hm : k < m.length) (h : ¬ l[k] = m[k]) : ¬ l = m := fun e => h (by subst e; rfl)

set_option maxHeartbeats 1000000 in
set_option maxRecDepth 100000 in
theorem rsame_v (a b : NetD) (vq aq tq : Option Addr) (vc ac tc : Nat) (vq2 aq2 tq2 : Option Addr) (vc2 ac2 tc2 : Nat) (w : World) (hne : ¬ a.v.length = b.v.length) : Calls Tryd.prog 17 #[netVal a vq aq tq vc ac tc, netVal b vq2 aq2 tq2 vc2 ac2 tc2] w fun e w' => e = .returned (.bool (sameN a b)) ∧ Below w.heap.size w w' := by
  have n1 : (a.v.length == b.v.length) = false := by simpa using hne
  have n2 : (((a.v.length : Nat) : Int) == ((b.v.length : Nat) : Int)) = false := by simp; omega
  have HR : Hid (sameN a b = false) := Lib.hid (decide_eq_false (fun ⟨e1, e2, e3⟩ => hne (by rw [e1])))
  go_enter Tryd.func17, Tryd.ntmps17
  go_wp2_with fail
  go_ret
  exact ⟨ret_bool HR.out.symm, below_alloc2 _ _⟩

set_option maxHeartbeats 1000000 in
set_option maxRecDepth 100000 in
theorem rsame_a (a b : NetD) (vq aq tq : Option Addr) (vc ac tc : Nat) (vq2 aq2 tq2 : Option Addr) (vc2 ac2 tc2 : Nat) (w : World) (hv : a.v.length = b.v.length) (hne : ¬ a.a.length = b.a.length) : Calls Tryd.prog 17 #[netVal a vq aq tq vc ac tc, netVal b vq2 aq2 tq2 vc2 ac2 tc2] w fun e w' => e = .returned (.bool (sameN a b)) ∧ Below w.heap.size w w' := by
  have n1 : (a.a.length == b.a.length) = false := by simpa using hne
  have n2 : (((a.a.length : Nat) : Int) == ((b.a.length : Nat) : Int)) = false := by simp; omega
  have HR : Hid (sameN a b = false) := Lib.hid (decide_eq_false (fun ⟨e1, e2, e3⟩ => hne (by rw [e2])))
  unfold netVal
  rw [show b.v.length = a.v.length from (hv).symm]
  go_enter Tryd.func17, Tryd.ntmps17
  go_wp2_with fail
  go_ret
  exact ⟨ret_bool HR.out.symm, below_alloc2 _ _⟩

set_option maxHeartbeats 1000000 in
set_option maxRecDepth 100000 in
theorem rsame_t (a b : NetD) (vq aq tq : Option Addr) (vc ac tc : Nat) (vq2 aq2 tq2 : Option Addr) (vc2 ac2 tc2 : Nat) (w : World) (hv : a.v.length = b.v.length) (ha : a.a.length = b.a.length) (hne : ¬ a.t.length = b.t.length) : Calls Tryd.prog 17 #[netVal a vq aq tq vc ac tc, netVal b vq2 aq2 tq2 vc2 ac2 tc2] w fun e w' => e = .returned (.bool (sameN a b)) ∧ Below w.heap.size w w' := by
  have n1 : (a.t.length == b.t.length) = false := by simpa using hne
  have n2 : (((a.t.length : Nat) : Int) == ((b.t.length : Nat) : Int)) = false := by simp; omega
  have HR : Hid (sameN a b = false) := Lib.hid (decide_eq_false (fun ⟨e1, e2, e3⟩ => hne (by rw [e3])))
  unfold netVal
  rw [show b.v.length = a.v.length from (hv).symm]
  rw [show b.a.length = a.a.length from (ha).symm]
  go_enter Tryd.func17, Tryd.ntmps17
  go_wp2_with fail
  go_ret
  exact ⟨ret_bool HR.out.symm, below_alloc2 _ _⟩

set_option maxHeartbeats 4000000 in
set_option maxRecDepth 100000 in
theorem rsame_eq (a b : NetD) (vq aq tq : Option Addr) (vc ac tc : Nat) (vq2 aq2 tq2 : Option Addr) (vc2 ac2 tc2 : Nat) (w : World) (h : NetS w a vq aq tq vc ac tc) (h2 : NetS w b vq2 aq2 tq2 vc2 ac2 tc2) (hv : a.v.length = b.v.length) (ha : a.a.length = b.a.length) (ht : a.t.length = b.t.length) : Calls Tryd.prog 17 #[netVal a vq aq tq vc ac tc, netVal b vq2 aq2 tq2 vc2 ac2 tc2] w fun e w' => e = .returned (.bool (sameN a b)) ∧ Below w.heap.size w w' := by
  unfold netVal
  rw [show b.v.length = a.v.length from (hv).symm]
  rw [show b.a.length = a.a.length from (ha).symm]
  rw [show b.t.length = a.t.length from (ht).symm]
  have HLv := Lib.hid hv
  have HLa := Lib.hid ha
  have HLt := Lib.hid ht
  clear hv ha ht
  go_enter Tryd.func17, Tryd.ntmps17
  go_wp2_with fail
  obtain ⟨W0, hW0⟩ := named ((w.alloc (.cells #[.slice vq a.v.length vc, .slice aq a.a.length ac, .slice tq a.t.length tc] 26)).alloc (.cells #[.slice vq2 a.v.length vc2, .slice aq2 a.a.length ac2, .slice tq2 a.t.length tc2] 26))
  rw [← hW0]
  have B0 : Hid (Below w.heap.size w W0) := by rw [hW0]; exact Lib.hid (below_alloc2 _ _)
  have K1 : Hid (Blk W0 w.heap.size #[.slice vq a.v.length vc, .slice aq a.a.length ac, .slice tq a.t.length tc] 26) := by rw [hW0]; exact Lib.hid ((Blk.new _ _ _ _ rfl).old _)
  have K2 : Hid (Blk W0 (w.heap.size + 1) #[.slice vq2 a.v.length vc2, .slice aq2 a.a.length ac2, .slice tq2 a.t.length tc2] 26) := by rw [hW0]; exact Lib.hid (Blk.new _ _ _ _ (by simp))
  have H1 := Lib.hid (h.below B0.out)
  have H2 := Lib.hid (h2.below B0.out)
  clear h h2 hW0
  go_loopw [5] (fun i wr => ∃ k : Nat, k ≤ a.v.length ∧ i = .int .i64 k ∧ Hid (a.v.take k = b.v.take k) ∧ Hid (Below W0.heap.size W0 wr)) (fun i _ => a.v.length - (intOf i).toNat)
  case atStart => exact ⟨0, Nat.zero_le _, rfl, Lib.hid rfl, Lib.hid (Below.refl _ _)⟩
  case round =>
    obtain ⟨k, hk, rfl, HT, HBr⟩ := hrel
    have K1r := Lib.hid (K1.out.keep HBr.out)
    have K2r := Lib.hid (K2.out.keep HBr.out)
    obtain ⟨c0, c1, c2, -, -, -⟩ := K1r.out.o3
    by_cases hlt : k < a.v.length
    · have hlt2 : k < b.v.length := by have := HLv.out; omega
      have hli : (k : Int) < (a.v.length : Int) := by omega
      have hle : a.v.length ≤ 9223372036854775807 := H1.out.v.le
      obtain ⟨ab, ao, e1, x0, x1, x2⟩ := (H1.out.below HBr.out).v.at hlt
      obtain ⟨bb, bo, e2, y0, y1, y2⟩ := (H2.out.below HBr.out).v.at hlt2
      obtain ⟨A, eA⟩ : ∃ A, a.v[k] = A := ⟨_, rfl⟩
      obtain ⟨B, eB⟩ : ∃ B, b.v[k] = B := ⟨_, rfl⟩
      rw [eA] at x0 x1 x2
      rw [eB] at y0 y1 y2
      subst e1
      subst e2
      have XA0 := Lib.hid x0
      have XA1 := Lib.hid x1
      have XA2 := Lib.hid x2
      by_cases hAB : A = B
      · subst hAB
        have XB0 := Lib.hid y0
        have XB1 := Lib.hid y1
        have XB2 := Lib.hid y2
        have HN : Hid (a.v.take (k + 1) = b.v.take (k + 1)) := Lib.hid (take_eq_succ hlt hlt2 HT.out (eA.trans eB.symm))
        clear x0 x1 x2 y0 y1 y2 eA eB
        go_wp2_with fail
        clear c0 c1 c2
        have hGS : Grows (fun w' => Below wr.heap.size wr w') := Grows.below wr
        refine' wp_growL _ (fun w' => Below wr.heap.size wr w') [[], [0], [], [1, 2], [3], [], [5], [], [6, 7], [8], [4, 9]] (Fact.lit _ :: Fact.lit _ :: Fact.lit _ :: Fact.lit _ :: Fact.lit _ :: Fact.lit _ :: Fact.lit _ :: Fact.lit _ :: Fact.lit _ :: Fact.lit _ :: Fact.lit _ :: []) (by kernel_rfl) rfl (by kernel_rfl) (Below.refl _ _).drew ?seqev
        case' seqev => skip
        (first | (refine' grow_skip rfl ?wt415 ?put415 ?next415; (case wt415 => rfl)) | (refine' grow_lit rfl ?wt415 ?run415 ?put415 ?next415; (case wt415 => rfl); (case run415 => (intro w' hS H; clear H; (obtain ⟨c0, c1, c2, -, -, -⟩ := (K1r.out.keep hS).o3); (obtain ⟨d0, d1, d2, -, -, -⟩ := (K2r.out.keep hS).o3); (have xa0 := keep hS XA0.out); (have xa1 := keep hS XA1.out); (have xa2 := keep hS XA2.out); (have xb0 := keep hS XB0.out); (have xb1 := keep hS XB1.out); (have xb2 := keep hS XB2.out); clear hS; go_simp; first | done | exact rfl)))); (case put415 => (simp only [Act.put, List.setIfInBounds_toArray, List.set_cons_zero, List.set_cons_succ]; first | done | exact rfl)); (case' next415 => skip)
        (first | (refine' grow_skip rfl ?wt416 ?put416 ?next416; (case wt416 => rfl)) | (refine' grow_lit rfl ?wt416 ?run416 ?put416 ?next416; (case wt416 => rfl); (case run416 => (intro w' hS H; clear H; (obtain ⟨c0, c1, c2, -, -, -⟩ := (K1r.out.keep hS).o3); (obtain ⟨d0, d1, d2, -, -, -⟩ := (K2r.out.keep hS).o3); (have xa0 := keep hS XA0.out); (have xa1 := keep hS XA1.out); (have xa2 := keep hS XA2.out); (have xb0 := keep hS XB0.out); (have xb1 := keep hS XB1.out); (have xb2 := keep hS XB2.out); clear hS; go_simp; first | done | exact rfl)))); (case put416 => (simp only [Act.put, List.setIfInBounds_toArray, List.set_cons_zero, List.set_cons_succ]; first | done | exact rfl)); (case' next416 => skip)
        (first | (refine' grow_skip rfl ?wt417 ?put417 ?next417; (case wt417 => rfl)) | (refine' grow_lit rfl ?wt417 ?run417 ?put417 ?next417; (case wt417 => rfl); (case run417 => (intro w' hS H; clear H; (obtain ⟨c0, c1, c2, -, -, -⟩ := (K1r.out.keep hS).o3); (obtain ⟨d0, d1, d2, -, -, -⟩ := (K2r.out.keep hS).o3); (have xa0 := keep hS XA0.out); (have xa1 := keep hS XA1.out); (have xa2 := keep hS XA2.out); (have xb0 := keep hS XB0.out); (have xb1 := keep hS XB1.out); (have xb2 := keep hS XB2.out); clear hS; go_simp; first | done | exact rfl)))); (case put417 => (simp only [Act.put, List.setIfInBounds_toArray, List.set_cons_zero, List.set_cons_succ]; first | done | exact rfl)); (case' next417 => skip)
        (first | (refine' grow_skip rfl ?wt418 ?put418 ?next418; (case wt418 => rfl)) | (refine' grow_lit rfl ?wt418 ?run418 ?put418 ?next418; (case wt418 => rfl); (case run418 => (intro w' hS H; clear H; (obtain ⟨c0, c1, c2, -, -, -⟩ := (K1r.out.keep hS).o3); (obtain ⟨d0, d1, d2, -, -, -⟩ := (K2r.out.keep hS).o3); (have xa0 := keep hS XA0.out); (have xa1 := keep hS XA1.out); (have xa2 := keep hS XA2.out); (have xb0 := keep hS XB0.out); (have xb1 := keep hS XB1.out); (have xb2 := keep hS XB2.out); clear hS; go_simp; first | done | exact rfl)))); (case put418 => (simp only [Act.put, List.setIfInBounds_toArray, List.set_cons_zero, List.set_cons_succ]; first | done | exact rfl)); (case' next418 => skip)
        (first | (refine' grow_skip rfl ?wt419 ?put419 ?next419; (case wt419 => rfl)) | (refine' grow_lit rfl ?wt419 ?run419 ?put419 ?next419; (case wt419 => rfl); (case run419 => (intro w' hS H; clear H; (obtain ⟨c0, c1, c2, -, -, -⟩ := (K1r.out.keep hS).o3); (obtain ⟨d0, d1, d2, -, -, -⟩ := (K2r.out.keep hS).o3); (have xa0 := keep hS XA0.out); (have xa1 := keep hS XA1.out); (have xa2 := keep hS XA2.out); (have xb0 := keep hS XB0.out); (have xb1 := keep hS XB1.out); (have xb2 := keep hS XB2.out); clear hS; go_simp; first | done | exact rfl)))); (case put419 => (simp only [Act.put, List.setIfInBounds_toArray, List.set_cons_zero, List.set_cons_succ]; first | done | exact rfl)); (case' next419 => skip)
        (first | (refine' grow_skip rfl ?wt420 ?put420 ?next420; (case wt420 => rfl)) | (refine' grow_lit rfl ?wt420 ?run420 ?put420 ?next420; (case wt420 => rfl); (case run420 => (intro w' hS H; clear H; (obtain ⟨c0, c1, c2, -, -, -⟩ := (K1r.out.keep hS).o3); (obtain ⟨d0, d1, d2, -, -, -⟩ := (K2r.out.keep hS).o3); (have xa0 := keep hS XA0.out); (have xa1 := keep hS XA1.out); (have xa2 := keep hS XA2.out); (have xb0 := keep hS XB0.out); (have xb1 := keep hS XB1.out); (have xb2 := keep hS XB2.out); clear hS; go_simp; first | done | exact rfl)))); (case put420 => (simp only [Act.put, List.setIfInBounds_toArray, List.set_cons_zero, List.set_cons_succ]; first | done | exact rfl)); (case' next420 => skip)
        (first | (refine' grow_skip rfl ?wt421 ?put421 ?next421; (case wt421 => rfl)) | (refine' grow_lit rfl ?wt421 ?run421 ?put421 ?next421; (case wt421 => rfl); (case run421 => (intro w' hS H; clear H; (obtain ⟨c0, c1, c2, -, -, -⟩ := (K1r.out.keep hS).o3); (obtain ⟨d0, d1, d2, -, -, -⟩ := (K2r.out.keep hS).o3); (have xa0 := keep hS XA0.out); (have xa1 := keep hS XA1.out); (have xa2 := keep hS XA2.out); (have xb0 := keep hS XB0.out); (have xb1 := keep hS XB1.out); (have xb2 := keep hS XB2.out); clear hS; go_simp; first | done | exact rfl)))); (case put421 => (simp only [Act.put, List.setIfInBounds_toArray, List.set_cons_zero, List.set_cons_succ]; first | done | exact rfl)); (case' next421 => skip)
        (first | (refine' grow_skip rfl ?wt422 ?put422 ?next422; (case wt422 => rfl)) | (refine' grow_lit rfl ?wt422 ?run422 ?put422 ?next422; (case wt422 => rfl); (case run422 => (intro w' hS H; clear H; (obtain ⟨c0, c1, c2, -, -, -⟩ := (K1r.out.keep hS).o3); (obtain ⟨d0, d1, d2, -, -, -⟩ := (K2r.out.keep hS).o3); (have xa0 := keep hS XA0.out); (have xa1 := keep hS XA1.out); (have xa2 := keep hS XA2.out); (have xb0 := keep hS XB0.out); (have xb1 := keep hS XB1.out); (have xb2 := keep hS XB2.out); clear hS; go_simp; first | done | exact rfl)))); (case put422 => (simp only [Act.put, List.setIfInBounds_toArray, List.set_cons_zero, List.set_cons_succ]; first | done | exact rfl)); (case' next422 => skip)
        (first | (refine' grow_skip rfl ?wt423 ?put423 ?next423; (case wt423 => rfl)) | (refine' grow_lit rfl ?wt423 ?run423 ?put423 ?next423; (case wt423 => rfl); (case run423 => (intro w' hS H; clear H; (obtain ⟨c0, c1, c2, -, -, -⟩ := (K1r.out.keep hS).o3); (obtain ⟨d0, d1, d2, -, -, -⟩ := (K2r.out.keep hS).o3); (have xa0 := keep hS XA0.out); (have xa1 := keep hS XA1.out); (have xa2 := keep hS XA2.out); (have xb0 := keep hS XB0.out); (have xb1 := keep hS XB1.out); (have xb2 := keep hS XB2.out); clear hS; go_simp; first | done | exact rfl)))); (case put423 => (simp only [Act.put, List.setIfInBounds_toArray, List.set_cons_zero, List.set_cons_succ]; first | done | exact rfl)); (case' next423 => skip)
        (first | (refine' grow_skip rfl ?wt424 ?put424 ?next424; (case wt424 => rfl)) | (refine' grow_lit rfl ?wt424 ?run424 ?put424 ?next424; (case wt424 => rfl); (case run424 => (intro w' hS H; clear H; (obtain ⟨c0, c1, c2, -, -, -⟩ := (K1r.out.keep hS).o3); (obtain ⟨d0, d1, d2, -, -, -⟩ := (K2r.out.keep hS).o3); (have xa0 := keep hS XA0.out); (have xa1 := keep hS XA1.out); (have xa2 := keep hS XA2.out); (have xb0 := keep hS XB0.out); (have xb1 := keep hS XB1.out); (have xb2 := keep hS XB2.out); clear hS; go_simp; first | done | exact rfl)))); (case put424 => (simp only [Act.put, List.setIfInBounds_toArray, List.set_cons_zero, List.set_cons_succ]; first | done | exact rfl)); (case' next424 => skip)
        (refine' grow_lit (u := .bool false) rfl ?wtqev ?runqev ?putqev ?nextqev; (case wtqev => rfl); (case runqev => (intro w' hS H; (have g := guard_rvert); (have q := neq_rvert A.1 A.2.1 A.2.2 A.1 A.2.1 A.2.2 w'); clear H hS; go_simp)); (case putqev => (simp only [Act.put, List.setIfInBounds_toArray, List.set_cons_zero, List.set_cons_succ]; first | done | exact rfl)); (case' nextqev => skip))
        intro w1 hb _
        have HB1 := Lib.hid (HBr.out.trans (hb.mono HBr.out.size))
        clear hb hGS
        go_wp2_with fail
        go_roundw
        case rel => exact ⟨k + 1, by omega, by go_num, HN, HB1⟩
        case measure => simp [intOf]; omega
      · have XB0 := Lib.hid y0
        have XB1 := Lib.hid y1
        have XB2 := Lib.hid y2
        have HR : Hid (sameN a b = false) := Lib.hid (decide_eq_false (fun ⟨e1, e2, e3⟩ => getElem_ne hlt hlt2 (by rw [eA, eB]; exact hAB) e1))
        have HAB := Lib.hid hAB
        have HNE : Hid ((A.1 == B.1 && A.2.1 == B.2.1 && A.2.2 == B.2.2) = false) := Lib.hid (by
          cases hh : (A.1 == B.1 && A.2.1 == B.2.1 && A.2.2 == B.2.2) with
          | false => rfl
          | true =>
            simp only [Bool.and_eq_true, beq_iff_eq] at hh
            exact absurd (Prod.ext hh.1.1 (Prod.ext hh.1.2 hh.2)) hAB)
        clear x0 x1 x2 y0 y1 y2 eA eB hAB
        go_wp2_with fail
        clear c0 c1 c2
        have hGS : Grows (fun w' => Below wr.heap.size wr w') := Grows.below wr
        refine' wp_growL _ (fun w' => Below wr.heap.size wr w') [[], [0], [], [1, 2], [3], [], [5], [], [6, 7], [8], [4, 9]] (Fact.lit _ :: Fact.lit _ :: Fact.lit _ :: Fact.lit _ :: Fact.lit _ :: Fact.lit _ :: Fact.lit _ :: Fact.lit _ :: Fact.lit _ :: Fact.lit _ :: Fact.lit _ :: []) (by kernel_rfl) rfl (by kernel_rfl) (Below.refl _ _).drew ?seqnv
        case' seqnv => skip
        (first | (refine' grow_skip rfl ?wt425 ?put425 ?next425; (case wt425 => rfl)) | (refine' grow_lit rfl ?wt425 ?run425 ?put425 ?next425; (case wt425 => rfl); (case run425 => (intro w' hS H; clear H; (obtain ⟨c0, c1, c2, -, -, -⟩ := (K1r.out.keep hS).o3); (obtain ⟨d0, d1, d2, -, -, -⟩ := (K2r.out.keep hS).o3); (have xa0 := keep hS XA0.out); (have xa1 := keep hS XA1.out); (have xa2 := keep hS XA2.out); (have xb0 := keep hS XB0.out); (have xb1 := keep hS XB1.out); (have xb2 := keep hS XB2.out); clear hS; go_simp; first | done | exact rfl)))); (case put425 => (simp only [Act.put, List.setIfInBounds_toArray, List.set_cons_zero, List.set_cons_succ]; first | done | exact rfl)); (case' next425 => skip)
        (first | (refine' grow_skip rfl ?wt426 ?put426 ?next426; (case wt426 => rfl)) | (refine' grow_lit rfl ?wt426 ?run426 ?put426 ?next426; (case wt426 => rfl); (case run426 => (intro w' hS H; clear H; (obtain ⟨c0, c1, c2, -, -, -⟩ := (K1r.out.keep hS).o3); (obtain ⟨d0, d1, d2, -, -, -⟩ := (K2r.out.keep hS).o3); (have xa0 := keep hS XA0.out); (have xa1 := keep hS XA1.out); (have xa2 := keep hS XA2.out); (have xb0 := keep hS XB0.out); (have xb1 := keep hS XB1.out); (have xb2 := keep hS XB2.out); clear hS; go_simp; first | done | exact rfl)))); (case put426 => (simp only [Act.put, List.setIfInBounds_toArray, List.set_cons_zero, List.set_cons_succ]; first | done | exact rfl)); (case' next426 => skip)
        (first | (refine' grow_skip rfl ?wt427 ?put427 ?next427; (case wt427 => rfl)) | (refine' grow_lit rfl ?wt427 ?run427 ?put427 ?next427; (case wt427 => rfl); (case run427 => (intro w' hS H; clear H; (obtain ⟨c0, c1, c2, -, -, -⟩ := (K1r.out.keep hS).o3); (obtain ⟨d0, d1, d2, -, -, -⟩ := (K2r.out.keep hS).o3); (have xa0 := keep hS XA0.out); (have xa1 := keep hS XA1.out); (have xa2 := keep hS XA2.out); (have xb0 := keep hS XB0.out); (have xb1 := keep hS XB1.out); (have xb2 := keep hS XB2.out); clear hS; go_simp; first | done | exact rfl)))); (case put427 => (simp only [Act.put, List.setIfInBounds_toArray, List.set_cons_zero, List.set_cons_succ]; first | done | exact rfl)); (case' next427 => skip)
        (first | (refine' grow_skip rfl ?wt428 ?put428 ?next428; (case wt428 => rfl)) | (refine' grow_lit rfl ?wt428 ?run428 ?put428 ?next428; (case wt428 => rfl); (case run428 => (intro w' hS H; clear H; (obtain ⟨c0, c1, c2, -, -, -⟩ := (K1r.out.keep hS).o3); (obtain ⟨d0, d1, d2, -, -, -⟩ := (K2r.out.keep hS).o3); (have xa0 := keep hS XA0.out); (have xa1 := keep hS XA1.out); (have xa2 := keep hS XA2.out); (have xb0 := keep hS XB0.out); (have xb1 := keep hS XB1.out); (have xb2 := keep hS XB2.out); clear hS; go_simp; first | done | exact rfl)))); (case put428 => (simp only [Act.put, List.setIfInBounds_toArray, List.set_cons_zero, List.set_cons_succ]; first | done | exact rfl)); (case' next428 => skip)
        (first | (refine' grow_skip rfl ?wt429 ?put429 ?next429; (case wt429 => rfl)) | (refine' grow_lit rfl ?wt429 ?run429 ?put429 ?next429; (case wt429 => rfl); (case run429 => (intro w' hS H; clear H; (obtain ⟨c0, c1, c2, -, -, -⟩ := (K1r.out.keep hS).o3); (obtain ⟨d0, d1, d2, -, -, -⟩ := (K2r.out.keep hS).o3); (have xa0 := keep hS XA0.out); (have xa1 := keep hS XA1.out); (have xa2 := keep hS XA2.out); (have xb0 := keep hS XB0.out); (have xb1 := keep hS XB1.out); (have xb2 := keep hS XB2.out); clear hS; go_simp; first | done | exact rfl)))); (case put429 => (simp only [Act.put, List.setIfInBounds_toArray, List.set_cons_zero, List.set_cons_succ]; first | done | exact rfl)); (case' next429 => skip)
        (first | (refine' grow_skip rfl ?wt430 ?put430 ?next430; (case wt430 => rfl)) | (refine' grow_lit rfl ?wt430 ?run430 ?put430 ?next430; (case wt430 => rfl); (case run430 => (intro w' hS H; clear H; (obtain ⟨c0, c1, c2, -, -, -⟩ := (K1r.out.keep hS).o3); (obtain ⟨d0, d1, d2, -, -, -⟩ := (K2r.out.keep hS).o3); (have xa0 := keep hS XA0.out); (have xa1 := keep hS XA1.out); (have xa2 := keep hS XA2.out); (have xb0 := keep hS XB0.out); (have xb1 := keep hS XB1.out); (have xb2 := keep hS XB2.out); clear hS; go_simp; first | done | exact rfl)))); (case put430 => (simp only [Act.put, List.setIfInBounds_toArray, List.set_cons_zero, List.set_cons_succ]; first | done | exact rfl)); (case' next430 => skip)
        (first | (refine' grow_skip rfl ?wt431 ?put431 ?next431; (case wt431 => rfl)) | (refine' grow_lit rfl ?wt431 ?run431 ?put431 ?next431; (case wt431 => rfl); (case run431 => (intro w' hS H; clear H; (obtain ⟨c0, c1, c2, -, -, -⟩ := (K1r.out.keep hS).o3); (obtain ⟨d0, d1, d2, -, -, -⟩ := (K2r.out.keep hS).o3); (have xa0 := keep hS XA0.out); (have xa1 := keep hS XA1.out); (have xa2 := keep hS XA2.out); (have xb0 := keep hS XB0.out); (have xb1 := keep hS XB1.out); (have xb2 := keep hS XB2.out); clear hS; go_simp; first | done | exact rfl)))); (case put431 => (simp only [Act.put, List.setIfInBounds_toArray, List.set_cons_zero, List.set_cons_succ]; first | done | exact rfl)); (case' next431 => skip)
        (first | (refine' grow_skip rfl ?wt432 ?put432 ?next432; (case wt432 => rfl)) | (refine' grow_lit rfl ?wt432 ?run432 ?put432 ?next432; (case wt432 => rfl); (case run432 => (intro w' hS H; clear H; (obtain ⟨c0, c1, c2, -, -, -⟩ := (K1r.out.keep hS).o3); (obtain ⟨d0, d1, d2, -, -, -⟩ := (K2r.out.keep hS).o3); (have xa0 := keep hS XA0.out); (have xa1 := keep hS XA1.out); (have xa2 := keep hS XA2.out); (have xb0 := keep hS XB0.out); (have xb1 := keep hS XB1.out); (have xb2 := keep hS XB2.out); clear hS; go_simp; first | done | exact rfl)))); (case put432 => (simp only [Act.put, List.setIfInBounds_toArray, List.set_cons_zero, List.set_cons_succ]; first | done | exact rfl)); (case' next432 => skip)
        (first | (refine' grow_skip rfl ?wt433 ?put433 ?next433; (case wt433 => rfl)) | (refine' grow_lit rfl ?wt433 ?run433 ?put433 ?next433; (case wt433 => rfl); (case run433 => (intro w' hS H; clear H; (obtain ⟨c0, c1, c2, -, -, -⟩ := (K1r.out.keep hS).o3); (obtain ⟨d0, d1, d2, -, -, -⟩ := (K2r.out.keep hS).o3); (have xa0 := keep hS XA0.out); (have xa1 := keep hS XA1.out); (have xa2 := keep hS XA2.out); (have xb0 := keep hS XB0.out); (have xb1 := keep hS XB1.out); (have xb2 := keep hS XB2.out); clear hS; go_simp; first | done | exact rfl)))); (case put433 => (simp only [Act.put, List.setIfInBounds_toArray, List.set_cons_zero, List.set_cons_succ]; first | done | exact rfl)); (case' next433 => skip)
        (first | (refine' grow_skip rfl ?wt434 ?put434 ?next434; (case wt434 => rfl)) | (refine' grow_lit rfl ?wt434 ?run434 ?put434 ?next434; (case wt434 => rfl); (case run434 => (intro w' hS H; clear H; (obtain ⟨c0, c1, c2, -, -, -⟩ := (K1r.out.keep hS).o3); (obtain ⟨d0, d1, d2, -, -, -⟩ := (K2r.out.keep hS).o3); (have xa0 := keep hS XA0.out); (have xa1 := keep hS XA1.out); (have xa2 := keep hS XA2.out); (have xb0 := keep hS XB0.out); (have xb1 := keep hS XB1.out); (have xb2 := keep hS XB2.out); clear hS; go_simp; first | done | exact rfl)))); (case put434 => (simp only [Act.put, List.setIfInBounds_toArray, List.set_cons_zero, List.set_cons_succ]; first | done | exact rfl)); (case' next434 => skip)
        (refine' grow_lit (u := .bool true) rfl ?wtqnv ?runqnv ?putqnv ?nextqnv; (case wtqnv => rfl); (case runqnv => (intro w' hS H; (have g := guard_rvert); (have q := ((neq_rvert A.1 A.2.1 A.2.2 B.1 B.2.1 B.2.2 w').trans (by rw [HNE.out]; rfl) : _ = Result.ok (.bool true) w')); clear H hS; go_simp; first | done | exact fun h1 h2 h3 => HAB.out (Prod.ext h1 (Prod.ext h2 h3)))); (case putqnv => (simp only [Act.put, List.setIfInBounds_toArray, List.set_cons_zero, List.set_cons_succ]; first | done | exact rfl)); (case' nextqnv => skip))
        intro w1 hb _
        have HB1 := Lib.hid (HBr.out.trans (hb.mono HBr.out.size))
        clear hb hGS
        go_wp2_with fail
        go_ret
        exact ⟨ret_bool HR.out.symm, B0.out.trans (HB1.out.mono B0.out.size)⟩
    · obtain rfl : k = a.v.length := by omega
      have HEv := Lib.hid (take_all HLv.out.symm HT.out)
      go_wp2_with fail
      clear c0 c1 c2
      go_loopw [6] (fun i wr => ∃ k : Nat, k ≤ a.a.length ∧ i = .int .i64 k ∧ Hid (a.a.take k = b.a.take k) ∧ Hid (Below W0.heap.size W0 wr)) (fun i _ => a.a.length - (intOf i).toNat)
      case atStart => exact ⟨0, Nat.zero_le _, rfl, Lib.hid rfl, HBr⟩
      case round =>
        obtain ⟨k, hk, rfl, HT, HBr⟩ := hrel
        have K1r := Lib.hid (K1.out.keep HBr.out)
        have K2r := Lib.hid (K2.out.keep HBr.out)
        obtain ⟨c0, c1, c2, -, -, -⟩ := K1r.out.o3
        by_cases hlt : k < a.a.length
        · have hlt2 : k < b.a.length := by have := HLa.out; omega
          have hli : (k : Int) < (a.a.length : Int) := by omega
          have hle : a.a.length ≤ 9223372036854775807 := H1.out.a.le
          obtain ⟨ab, ao, e1, x0, x1, x2⟩ := (H1.out.below HBr.out).a.at hlt
          obtain ⟨bb, bo, e2, y0, y1, y2⟩ := (H2.out.below HBr.out).a.at hlt2
          obtain ⟨A, eA⟩ : ∃ A, a.a[k] = A := ⟨_, rfl⟩
          obtain ⟨B, eB⟩ : ∃ B, b.a[k] = B := ⟨_, rfl⟩
          rw [eA] at x0 x1 x2
          rw [eB] at y0 y1 y2
          subst e1
          subst e2
          have XA0 := Lib.hid x0
          have XA1 := Lib.hid x1
          have XA2 := Lib.hid x2
          by_cases hAB : A = B
          · subst hAB
            have XB0 := Lib.hid y0
            have XB1 := Lib.hid y1
            have XB2 := Lib.hid y2
            have HN : Hid (a.a.take (k + 1) = b.a.take (k + 1)) := Lib.hid (take_eq_succ hlt hlt2 HT.out (eA.trans eB.symm))
            clear x0 x1 x2 y0 y1 y2 eA eB
            go_wp2_with fail
            clear c0 c1 c2
            have hGS : Grows (fun w' => Below wr.heap.size wr w') := Grows.below wr
            refine' wp_growL _ (fun w' => Below wr.heap.size wr w') [[], [0], [], [1, 2], [3], [], [5], [], [6, 7], [8], [4, 9]] (Fact.lit _ :: Fact.lit _ :: Fact.lit _ :: Fact.lit _ :: Fact.lit _ :: Fact.lit _ :: Fact.lit _ :: Fact.lit _ :: Fact.lit _ :: Fact.lit _ :: Fact.lit _ :: []) (by kernel_rfl) rfl (by kernel_rfl) (Below.refl _ _).drew ?seqea
            case' seqea => skip
            (first | (refine' grow_skip rfl ?wt435 ?put435 ?next435; (case wt435 => rfl)) | (refine' grow_lit rfl ?wt435 ?run435 ?put435 ?next435; (case wt435 => rfl); (case run435 => (intro w' hS H; clear H; (obtain ⟨c0, c1, c2, -, -, -⟩ := (K1r.out.keep hS).o3); (obtain ⟨d0, d1, d2, -, -, -⟩ := (K2r.out.keep hS).o3); (have xa0 := keep hS XA0.out); (have xa1 := keep hS XA1.out); (have xa2 := keep hS XA2.out); (have xb0 := keep hS XB0.out); (have xb1 := keep hS XB1.out); (have xb2 := keep hS XB2.out); clear hS; go_simp; first | done | exact rfl)))); (case put435 => (simp only [Act.put, List.setIfInBounds_toArray, List.set_cons_zero, List.set_cons_succ]; first | done | exact rfl)); (case' next435 => skip)
            (first | (refine' grow_skip rfl ?wt436 ?put436 ?next436; (case wt436 => rfl)) | (refine' grow_lit rfl ?wt436 ?run436 ?put436 ?next436; (case wt436 => rfl); (case run436 => (intro w' hS H; clear H; (obtain ⟨c0, c1, c2, -, -, -⟩ := (K1r.out.keep hS).o3); (obtain ⟨d0, d1, d2, -, -, -⟩ := (K2r.out.keep hS).o3); (have xa0 := keep hS XA0.out); (have xa1 := keep hS XA1.out); (have xa2 := keep hS XA2.out); (have xb0 := keep hS XB0.out); (have xb1 := keep hS XB1.out); (have xb2 := keep hS XB2.out); clear hS; go_simp; first | done | exact rfl)))); (case put436 => (simp only [Act.put, List.setIfInBounds_toArray, List.set_cons_zero, List.set_cons_succ]; first | done | exact rfl)); (case' next436 => skip)
            (first | (refine' grow_skip rfl ?wt437 ?put437 ?next437; (case wt437 => rfl)) | (refine' grow_lit rfl ?wt437 ?run437 ?put437 ?next437; (case wt437 => rfl); (case run437 => (intro w' hS H; clear H; (obtain ⟨c0, c1, c2, -, -, -⟩ := (K1r.out.keep hS).o3); (obtain ⟨d0, d1, d2, -, -, -⟩ := (K2r.out.keep hS).o3); (have xa0 := keep hS XA0.out); (have xa1 := keep hS XA1.out); (have xa2 := keep hS XA2.out); (have xb0 := keep hS XB0.out); (have xb1 := keep hS XB1.out); (have xb2 := keep hS XB2.out); clear hS; go_simp; first | done | exact rfl)))); (case put437 => (simp only [Act.put, List.setIfInBounds_toArray, List.set_cons_zero, List.set_cons_succ]; first | done | exact rfl)); (case' next437 => skip)
            (first | (refine' grow_skip rfl ?wt438 ?put438 ?next438; (case wt438 => rfl)) | (refine' grow_lit rfl ?wt438 ?run438 ?put438 ?next438; (case wt438 => rfl); (case run438 => (intro w' hS H; clear H; (obtain ⟨c0, c1, c2, -, -, -⟩ := (K1r.out.keep hS).o3); (obtain ⟨d0, d1, d2, -, -, -⟩ := (K2r.out.keep hS).o3); (have xa0 := keep hS XA0.out); (have xa1 := keep hS XA1.out); (have xa2 := keep hS XA2.out); (have xb0 := keep hS XB0.out); (have xb1 := keep hS XB1.out); (have xb2 := keep hS XB2.out); clear hS; go_simp; first | done | exact rfl)))); (case put438 => (simp only [Act.put, List.setIfInBounds_toArray, List.set_cons_zero, List.set_cons_succ]; first | done | exact rfl)); (case' next438 => skip)
            (first | (refine' grow_skip rfl ?wt439 ?put439 ?next439; (case wt439 => rfl)) | (refine' grow_lit rfl ?wt439 ?run439 ?put439 ?next439; (case wt439 => rfl); (case run439 => (intro w' hS H; clear H; (obtain ⟨c0, c1, c2, -, -, -⟩ := (K1r.out.keep hS).o3); (obtain ⟨d0, d1, d2, -, -, -⟩ := (K2r.out.keep hS).o3); (have xa0 := keep hS XA0.out); (have xa1 := keep hS XA1.out); (have xa2 := keep hS XA2.out); (have xb0 := keep hS XB0.out); (have xb1 := keep hS XB1.out); (have xb2 := keep hS XB2.out); clear hS; go_simp; first | done | exact rfl)))); (case put439 => (simp only [Act.put, List.setIfInBounds_toArray, List.set_cons_zero, List.set_cons_succ]; first | done | exact rfl)); (case' next439 => skip)
            (first | (refine' grow_skip rfl ?wt440 ?put440 ?next440; (case wt440 => rfl)) | (refine' grow_lit rfl ?wt440 ?run440 ?put440 ?next440; (case wt440 => rfl); (case run440 => (intro w' hS H; clear H; (obtain ⟨c0, c1, c2, -, -, -⟩ := (K1r.out.keep hS).o3); (obtain ⟨d0, d1, d2, -, -, -⟩ := (K2r.out.keep hS).o3); (have xa0 := keep hS XA0.out); (have xa1 := keep hS XA1.out); (have xa2 := keep hS XA2.out); (have xb0 := keep hS XB0.out); (have xb1 := keep hS XB1.out); (have xb2 := keep hS XB2.out); clear hS; go_simp; first | done | exact rfl)))); (case put440 => (simp only [Act.put, List.setIfInBounds_toArray, List.set_cons_zero, List.set_cons_succ]; first | done | exact rfl)); (case' next440 => skip)
            (first | (refine' grow_skip rfl ?wt441 ?put441 ?next441; (case wt441 => rfl)) | (refine' grow_lit rfl ?wt441 ?run441 ?put441 ?next441; (case wt441 => rfl); (case run441 => (intro w' hS H; clear H; (obtain ⟨c0, c1, c2, -, -, -⟩ := (K1r.out.keep hS).o3); (obtain ⟨d0, d1, d2, -, -, -⟩ := (K2r.out.keep hS).o3); (have xa0 := keep hS XA0.out); (have xa1 := keep hS XA1.out); (have xa2 := keep hS XA2.out); (have xb0 := keep hS XB0.out); (have xb1 := keep hS XB1.out); (have xb2 := keep hS XB2.out); clear hS; go_simp; first | done | exact rfl)))); (case put441 => (simp only [Act.put, List.setIfInBounds_toArray, List.set_cons_zero, List.set_cons_succ]; first | done | exact rfl)); (case' next441 => skip)
            (first | (refine' grow_skip rfl ?wt442 ?put442 ?next442; (case wt442 => rfl)) | (refine' grow_lit rfl ?wt442 ?run442 ?put442 ?next442; (case wt442 => rfl); (case run442 => (intro w' hS H; clear H; (obtain ⟨c0, c1, c2, -, -, -⟩ := (K1r.out.keep hS).o3); (obtain ⟨d0, d1, d2, -, -, -⟩ := (K2r.out.keep hS).o3); (have xa0 := keep hS XA0.out); (have xa1 := keep hS XA1.out); (have xa2 := keep hS XA2.out); (have xb0 := keep hS XB0.out); (have xb1 := keep hS XB1.out); (have xb2 := keep hS XB2.out); clear hS; go_simp; first | done | exact rfl)))); (case put442 => (simp only [Act.put, List.setIfInBounds_toArray, List.set_cons_zero, List.set_cons_succ]; first | done | exact rfl)); (case' next442 => skip)
            (first | (refine' grow_skip rfl ?wt443 ?put443 ?next443; (case wt443 => rfl)) | (refine' grow_lit rfl ?wt443 ?run443 ?put443 ?next443; (case wt443 => rfl); (case run443 => (intro w' hS H; clear H; (obtain ⟨c0, c1, c2, -, -, -⟩ := (K1r.out.keep hS).o3); (obtain ⟨d0, d1, d2, -, -, -⟩ := (K2r.out.keep hS).o3); (have xa0 := keep hS XA0.out); (have xa1 := keep hS XA1.out); (have xa2 := keep hS XA2.out); (have xb0 := keep hS XB0.out); (have xb1 := keep hS XB1.out); (have xb2 := keep hS XB2.out); clear hS; go_simp; first | done | exact rfl)))); (case put443 => (simp only [Act.put, List.setIfInBounds_toArray, List.set_cons_zero, List.set_cons_succ]; first | done | exact rfl)); (case' next443 => skip)
            (first | (refine' grow_skip rfl ?wt444 ?put444 ?next444; (case wt444 => rfl)) | (refine' grow_lit rfl ?wt444 ?run444 ?put444 ?next444; (case wt444 => rfl); (case run444 => (intro w' hS H; clear H; (obtain ⟨c0, c1, c2, -, -, -⟩ := (K1r.out.keep hS).o3); (obtain ⟨d0, d1, d2, -, -, -⟩ := (K2r.out.keep hS).o3); (have xa0 := keep hS XA0.out); (have xa1 := keep hS XA1.out); (have xa2 := keep hS XA2.out); (have xb0 := keep hS XB0.out); (have xb1 := keep hS XB1.out); (have xb2 := keep hS XB2.out); clear hS; go_simp; first | done | exact rfl)))); (case put444 => (simp only [Act.put, List.setIfInBounds_toArray, List.set_cons_zero, List.set_cons_succ]; first | done | exact rfl)); (case' next444 => skip)
            (refine' grow_lit (u := .bool false) rfl ?wtqea ?runqea ?putqea ?nextqea; (case wtqea => rfl); (case runqea => (intro w' hS H; (have g := guard_rarc); (have q := neq_rarc A.1 A.2.1 A.2.2 A.1 A.2.1 A.2.2 w'); clear H hS; go_simp)); (case putqea => (simp only [Act.put, List.setIfInBounds_toArray, List.set_cons_zero, List.set_cons_succ]; first | done | exact rfl)); (case' nextqea => skip))
            intro w1 hb _
            have HB1 := Lib.hid (HBr.out.trans (hb.mono HBr.out.size))
            clear hb hGS
            go_wp2_with fail
            go_roundw
            case rel => exact ⟨k + 1, by omega, by go_num, HN, HB1⟩
            case measure => simp [intOf]; omega
          · have XB0 := Lib.hid y0
            have XB1 := Lib.hid y1
            have XB2 := Lib.hid y2
            have HR : Hid (sameN a b = false) := Lib.hid (decide_eq_false (fun ⟨e1, e2, e3⟩ => getElem_ne hlt hlt2 (by rw [eA, eB]; exact hAB) e2))
            have HAB := Lib.hid hAB
            have HNE : Hid ((A.1 == B.1 && A.2.1 == B.2.1 && A.2.2 == B.2.2) = false) := Lib.hid (by
              cases hh : (A.1 == B.1 && A.2.1 == B.2.1 && A.2.2 == B.2.2) with
              | false => rfl
              | true =>
                simp only [Bool.and_eq_true, beq_iff_eq] at hh
                exact absurd (Prod.ext hh.1.1 (Prod.ext hh.1.2 hh.2)) hAB)
            clear x0 x1 x2 y0 y1 y2 eA eB hAB
            go_wp2_with fail
            clear c0 c1 c2
            have hGS : Grows (fun w' => Below wr.heap.size wr w') := Grows.below wr
            refine' wp_growL _ (fun w' => Below wr.heap.size wr w') [[], [0], [], [1, 2], [3], [], [5], [], [6, 7], [8], [4, 9]] (Fact.lit _ :: Fact.lit _ :: Fact.lit _ :: Fact.lit _ :: Fact.lit _ :: Fact.lit _ :: Fact.lit _ :: Fact.lit _ :: Fact.lit _ :: Fact.lit _ :: Fact.lit _ :: []) (by kernel_rfl) rfl (by kernel_rfl) (Below.refl _ _).drew ?seqna
            case' seqna => skip
            (first | (refine' grow_skip rfl ?wt445 ?put445 ?next445; (case wt445 => rfl)) | (refine' grow_lit rfl ?wt445 ?run445 ?put445 ?next445; (case wt445 => rfl); (case run445 => (intro w' hS H; clear H; (obtain ⟨c0, c1, c2, -, -, -⟩ := (K1r.out.keep hS).o3); (obtain ⟨d0, d1, d2, -, -, -⟩ := (K2r.out.keep hS).o3); (have xa0 := keep hS XA0.out); (have xa1 := keep hS XA1.out); (have xa2 := keep hS XA2.out); (have xb0 := keep hS XB0.out); (have xb1 := keep hS XB1.out); (have xb2 := keep hS XB2.out); clear hS; go_simp; first | done | exact rfl)))); (case put445 => (simp only [Act.put, List.setIfInBounds_toArray, List.set_cons_zero, List.set_cons_succ]; first | done | exact rfl)); (case' next445 => skip)
            (first | (refine' grow_skip rfl ?wt446 ?put446 ?next446; (case wt446 => rfl)) | (refine' grow_lit rfl ?wt446 ?run446 ?put446 ?next446; (case wt446 => rfl); (case run446 => (intro w' hS H; clear H; (obtain ⟨c0, c1, c2, -, -, -⟩ := (K1r.out.keep hS).o3); (obtain ⟨d0, d1, d2, -, -, -⟩ := (K2r.out.keep hS).o3); (have xa0 := keep hS XA0.out); (have xa1 := keep hS XA1.out); (have xa2 := keep hS XA2.out); (have xb0 := keep hS XB0.out); (have xb1 := keep hS XB1.out); (have xb2 := keep hS XB2.out); clear hS; go_simp; first | done | exact rfl)))); (case put446 => (simp only [Act.put, List.setIfInBounds_toArray, List.set_cons_zero, List.set_cons_succ]; first | done | exact rfl)); (case' next446 => skip)
            (first | (refine' grow_skip rfl ?wt447 ?put447 ?next447; (case wt447 => rfl)) | (refine' grow_lit rfl ?wt447 ?run447 ?put447 ?next447; (case wt447 => rfl); (case run447 => (intro w' hS H; clear H; (obtain ⟨c0, c1, c2, -, -, -⟩ := (K1r.out.keep hS).o3); (obtain ⟨d0, d1, d2, -, -, -⟩ := (K2r.out.keep hS).o3); (have xa0 := keep hS XA0.out); (have xa1 := keep hS XA1.out); (have xa2 := keep hS XA2.out); (have xb0 := keep hS XB0.out); (have xb1 := keep hS XB1.out); (have xb2 := keep hS XB2.out); clear hS; go_simp; first | done | exact rfl)))); (case put447 => (simp only [Act.put, List.setIfInBounds_toArray, List.set_cons_zero, List.set_cons_succ]; first | done | exact rfl)); (case' next447 => skip)
            (first | (refine' grow_skip rfl ?wt448 ?put448 ?next448; (case wt448 => rfl)) | (refine' grow_lit rfl ?wt448 ?run448 ?put448 ?next448; (case wt448 => rfl); (case run448 => (intro w' hS H; clear H; (obtain ⟨c0, c1, c2, -, -, -⟩ := (K1r.out.keep hS).o3); (obtain ⟨d0, d1, d2, -, -, -⟩ := (K2r.out.keep hS).o3); (have xa0 := keep hS XA0.out); (have xa1 := keep hS XA1.out); (have xa2 := keep hS XA2.out); (have xb0 := keep hS XB0.out); (have xb1 := keep hS XB1.out); (have xb2 := keep hS XB2.out); clear hS; go_simp; first | done | exact rfl)))); (case put448 => (simp only [Act.put, List.setIfInBounds_toArray, List.set_cons_zero, List.set_cons_succ]; first | done | exact rfl)); (case' next448 => skip)
            (first | (refine' grow_skip rfl ?wt449 ?put449 ?next449; (case wt449 => rfl)) | (refine' grow_lit rfl ?wt449 ?run449 ?put449 ?next449; (case wt449 => rfl); (case run449 => (intro w' hS H; clear H; (obtain ⟨c0, c1, c2, -, -, -⟩ := (K1r.out.keep hS).o3); (obtain ⟨d0, d1, d2, -, -, -⟩ := (K2r.out.keep hS).o3); (have xa0 := keep hS XA0.out); (have xa1 := keep hS XA1.out); (have xa2 := keep hS XA2.out); (have xb0 := keep hS XB0.out); (have xb1 := keep hS XB1.out); (have xb2 := keep hS XB2.out); clear hS; go_simp; first | done | exact rfl)))); (case put449 => (simp only [Act.put, List.setIfInBounds_toArray, List.set_cons_zero, List.set_cons_succ]; first | done | exact rfl)); (case' next449 => skip)
            (first | (refine' grow_skip rfl ?wt450 ?put450 ?next450; (case wt450 => rfl)) | (refine' grow_lit rfl ?wt450 ?run450 ?put450 ?next450; (case wt450 => rfl); (case run450 => (intro w' hS H; clear H; (obtain ⟨c0, c1, c2, -, -, -⟩ := (K1r.out.keep hS).o3); (obtain ⟨d0, d1, d2, -, -, -⟩ := (K2r.out.keep hS).o3); (have xa0 := keep hS XA0.out); (have xa1 := keep hS XA1.out); (have xa2 := keep hS XA2.out); (have xb0 := keep hS XB0.out); (have xb1 := keep hS XB1.out); (have xb2 := keep hS XB2.out); clear hS; go_simp; first | done | exact rfl)))); (case put450 => (simp only [Act.put, List.setIfInBounds_toArray, List.set_cons_zero, List.set_cons_succ]; first | done | exact rfl)); (case' next450 => skip)
            (first | (refine' grow_skip rfl ?wt451 ?put451 ?next451; (case wt451 => rfl)) | (refine' grow_lit rfl ?wt451 ?run451 ?put451 ?next451; (case wt451 => rfl); (case run451 => (intro w' hS H; clear H; (obtain ⟨c0, c1, c2, -, -, -⟩ := (K1r.out.keep hS).o3); (obtain ⟨d0, d1, d2, -, -, -⟩ := (K2r.out.keep hS).o3); (have xa0 := keep hS XA0.out); (have xa1 := keep hS XA1.out); (have xa2 := keep hS XA2.out); (have xb0 := keep hS XB0.out); (have xb1 := keep hS XB1.out); (have xb2 := keep hS XB2.out); clear hS; go_simp; first | done | exact rfl)))); (case put451 => (simp only [Act.put, List.setIfInBounds_toArray, List.set_cons_zero, List.set_cons_succ]; first | done | exact rfl)); (case' next451 => skip)
            (first | (refine' grow_skip rfl ?wt452 ?put452 ?next452; (case wt452 => rfl)) | (refine' grow_lit rfl ?wt452 ?run452 ?put452 ?next452; (case wt452 => rfl); (case run452 => (intro w' hS H; clear H; (obtain ⟨c0, c1, c2, -, -, -⟩ := (K1r.out.keep hS).o3); (obtain ⟨d0, d1, d2, -, -, -⟩ := (K2r.out.keep hS).o3); (have xa0 := keep hS XA0.out); (have xa1 := keep hS XA1.out); (have xa2 := keep hS XA2.out); (have xb0 := keep hS XB0.out); (have xb1 := keep hS XB1.out); (have xb2 := keep hS XB2.out); clear hS; go_simp; first | done | exact rfl)))); (case put452 => (simp only [Act.put, List.setIfInBounds_toArray, List.set_cons_zero, List.set_cons_succ]; first | done | exact rfl)); (case' next452 => skip)
            (first | (refine' grow_skip rfl ?wt453 ?put453 ?next453; (case wt453 => rfl)) | (refine' grow_lit rfl ?wt453 ?run453 ?put453 ?next453; (case wt453 => rfl); (case run453 => (intro w' hS H; clear H; (obtain ⟨c0, c1, c2, -, -, -⟩ := (K1r.out.keep hS).o3); (obtain ⟨d0, d1, d2, -, -, -⟩ := (K2r.out.keep hS).o3); (have xa0 := keep hS XA0.out); (have xa1 := keep hS XA1.out); (have xa2 := keep hS XA2.out); (have xb0 := keep hS XB0.out); (have xb1 := keep hS XB1.out); (have xb2 := keep hS XB2.out); clear hS; go_simp; first | done | exact rfl)))); (case put453 => (simp only [Act.put, List.setIfInBounds_toArray, List.set_cons_zero, List.set_cons_succ]; first | done | exact rfl)); (case' next453 => skip)
            (first | (refine' grow_skip rfl ?wt454 ?put454 ?next454; (case wt454 => rfl)) | (refine' grow_lit rfl ?wt454 ?run454 ?put454 ?next454; (case wt454 => rfl); (case run454 => (intro w' hS H; clear H; (obtain ⟨c0, c1, c2, -, -, -⟩ := (K1r.out.keep hS).o3); (obtain ⟨d0, d1, d2, -, -, -⟩ := (K2r.out.keep hS).o3); (have xa0 := keep hS XA0.out); (have xa1 := keep hS XA1.out); (have xa2 := keep hS XA2.out); (have xb0 := keep hS XB0.out); (have xb1 := keep hS XB1.out); (have xb2 := keep hS XB2.out); clear hS; go_simp; first | done | exact rfl)))); (case put454 => (simp only [Act.put, List.setIfInBounds_toArray, List.set_cons_zero, List.set_cons_succ]; first | done | exact rfl)); (case' next454 => skip)
            (refine' grow_lit (u := .bool true) rfl ?wtqna ?runqna ?putqna ?nextqna; (case wtqna => rfl); (case runqna => (intro w' hS H; (have g := guard_rarc); (have q := ((neq_rarc A.1 A.2.1 A.2.2 B.1 B.2.1 B.2.2 w').trans (by rw [HNE.out]; rfl) : _ = Result.ok (.bool true) w')); clear H hS; go_simp; first | done | exact fun h1 h2 h3 => HAB.out (Prod.ext h1 (Prod.ext h2 h3)))); (case putqna => (simp only [Act.put, List.setIfInBounds_toArray, List.set_cons_zero, List.set_cons_succ]; first | done | exact rfl)); (case' nextqna => skip))
            intro w1 hb _
            have HB1 := Lib.hid (HBr.out.trans (hb.mono HBr.out.size))
            clear hb hGS
            go_wp2_with fail
            go_ret
            exact ⟨ret_bool HR.out.symm, B0.out.trans (HB1.out.mono B0.out.size)⟩
        · obtain rfl : k = a.a.length := by omega
          have HEa := Lib.hid (take_all HLa.out.symm HT.out)
          go_wp2_with fail
          clear c0 c1 c2
          go_loopw [7] (fun i wr => ∃ k : Nat, k ≤ a.t.length ∧ i = .int .i64 k ∧ Hid (a.t.take k = b.t.take k) ∧ Hid (Below W0.heap.size W0 wr)) (fun i _ => a.t.length - (intOf i).toNat)
          case atStart => exact ⟨0, Nat.zero_le _, rfl, Lib.hid rfl, HBr⟩
          case round =>
            obtain ⟨k, hk, rfl, HT, HBr⟩ := hrel
            have K1r := Lib.hid (K1.out.keep HBr.out)
            have K2r := Lib.hid (K2.out.keep HBr.out)
            obtain ⟨c0, c1, c2, -, -, -⟩ := K1r.out.o3
            by_cases hlt : k < a.t.length
            · have hlt2 : k < b.t.length := by have := HLt.out; omega
              have hli : (k : Int) < (a.t.length : Int) := by omega
              have hle : a.t.length ≤ 9223372036854775807 := H1.out.t.le
              obtain ⟨ab, ao, au, e1, x0, x1, x2, xt⟩ := (H1.out.below HBr.out).t.at hlt
              obtain ⟨bb, bo, bu, e2, y0, y1, y2, yt⟩ := (H2.out.below HBr.out).t.at hlt2
              obtain ⟨A, eA⟩ : ∃ A, a.t[k] = A := ⟨_, rfl⟩
              obtain ⟨B, eB⟩ : ∃ B, b.t[k] = B := ⟨_, rfl⟩
              rw [eA] at x0 x1 xt
              rw [eB] at y0 y1 yt
              subst e1
              subst e2
              have XA0 := Lib.hid x0
              have XA1 := Lib.hid x1
              have XA2 := Lib.hid x2
              have XAT := Lib.hid xt
              have XB0 := Lib.hid y0
              have XB1 := Lib.hid y1
              have XB2 := Lib.hid y2
              have XBT := Lib.hid yt
              by_cases hAB : A.1 = B.1 ∧ A.2.1 = B.2.1 ∧ A.2.2 = B.2.2
              · have HQ : Hid (decide (A.1 = B.1 ∧ A.2.1 = B.2.1 ∧ A.2.2 = B.2.2) = true) := Lib.hid (by simpa using hAB)
                have HN : Hid (a.t.take (k + 1) = b.t.take (k + 1)) := Lib.hid (take_eq_succ hlt hlt2 HT.out (by rw [eA, eB]; exact Prod.ext hAB.1 (Prod.ext hAB.2.1 hAB.2.2)))
                clear x0 x1 x2 y0 y1 y2 xt yt eA eB hAB
                go_wp2_with fail
                clear c0 c1 c2
                have hGS : Grows (fun w' => Below wr.heap.size wr w') := Grows.below wr
                refine' wp_growL _ (fun w' => Below wr.heap.size wr w') [[], [0], [], [1, 2], [3], [], [5], [], [6, 7], [8], [4, 9], [10]] (Fact.lit _ :: Fact.lit _ :: Fact.lit _ :: Fact.lit _ :: Fact.lit _ :: Fact.lit _ :: Fact.lit _ :: Fact.lit _ :: Fact.lit _ :: Fact.lit _ :: Fact.lit _ :: Fact.lit _ :: []) (by kernel_rfl) rfl (by kernel_rfl) (Below.refl _ _).drew ?seqet
                case' seqet => skip
                (first | (refine' grow_skip rfl ?wt455 ?put455 ?next455; (case wt455 => rfl)) | (refine' grow_lit rfl ?wt455 ?run455 ?put455 ?next455; (case wt455 => rfl); (case run455 => (intro w' hS H; clear H; (obtain ⟨c0, c1, c2, -, -, -⟩ := (K1r.out.keep hS).o3); (obtain ⟨d0, d1, d2, -, -, -⟩ := (K2r.out.keep hS).o3); (have xa0 := keep hS XA0.out); (have xa1 := keep hS XA1.out); (have xa2 := keep hS XA2.out); (have xb0 := keep hS XB0.out); (have xb1 := keep hS XB1.out); (have xb2 := keep hS XB2.out); clear hS; go_simp; first | done | exact rfl)))); (case put455 => (simp only [Act.put, List.setIfInBounds_toArray, List.set_cons_zero, List.set_cons_succ]; first | done | exact rfl)); (case' next455 => skip)
                (first | (refine' grow_skip rfl ?wt456 ?put456 ?next456; (case wt456 => rfl)) | (refine' grow_lit rfl ?wt456 ?run456 ?put456 ?next456; (case wt456 => rfl); (case run456 => (intro w' hS H; clear H; (obtain ⟨c0, c1, c2, -, -, -⟩ := (K1r.out.keep hS).o3); (obtain ⟨d0, d1, d2, -, -, -⟩ := (K2r.out.keep hS).o3); (have xa0 := keep hS XA0.out); (have xa1 := keep hS XA1.out); (have xa2 := keep hS XA2.out); (have xb0 := keep hS XB0.out); (have xb1 := keep hS XB1.out); (have xb2 := keep hS XB2.out); clear hS; go_simp; first | done | exact rfl)))); (case put456 => (simp only [Act.put, List.setIfInBounds_toArray, List.set_cons_zero, List.set_cons_succ]; first | done | exact rfl)); (case' next456 => skip)
                (first | (refine' grow_skip rfl ?wt457 ?put457 ?next457; (case wt457 => rfl)) | (refine' grow_lit rfl ?wt457 ?run457 ?put457 ?next457; (case wt457 => rfl); (case run457 => (intro w' hS H; clear H; (obtain ⟨c0, c1, c2, -, -, -⟩ := (K1r.out.keep hS).o3); (obtain ⟨d0, d1, d2, -, -, -⟩ := (K2r.out.keep hS).o3); (have xa0 := keep hS XA0.out); (have xa1 := keep hS XA1.out); (have xa2 := keep hS XA2.out); (have xb0 := keep hS XB0.out); (have xb1 := keep hS XB1.out); (have xb2 := keep hS XB2.out); clear hS; go_simp; first | done | exact rfl)))); (case put457 => (simp only [Act.put, List.setIfInBounds_toArray, List.set_cons_zero, List.set_cons_succ]; first | done | exact rfl)); (case' next457 => skip)
                (first | (refine' grow_skip rfl ?wt458 ?put458 ?next458; (case wt458 => rfl)) | (refine' grow_lit rfl ?wt458 ?run458 ?put458 ?next458; (case wt458 => rfl); (case run458 => (intro w' hS H; clear H; (obtain ⟨c0, c1, c2, -, -, -⟩ := (K1r.out.keep hS).o3); (obtain ⟨d0, d1, d2, -, -, -⟩ := (K2r.out.keep hS).o3); (have xa0 := keep hS XA0.out); (have xa1 := keep hS XA1.out); (have xa2 := keep hS XA2.out); (have xb0 := keep hS XB0.out); (have xb1 := keep hS XB1.out); (have xb2 := keep hS XB2.out); clear hS; go_simp; first | done | exact rfl)))); (case put458 => (simp only [Act.put, List.setIfInBounds_toArray, List.set_cons_zero, List.set_cons_succ]; first | done | exact rfl)); (case' next458 => skip)
                (first | (refine' grow_skip rfl ?wt459 ?put459 ?next459; (case wt459 => rfl)) | (refine' grow_lit rfl ?wt459 ?run459 ?put459 ?next459; (case wt459 => rfl); (case run459 => (intro w' hS H; clear H; (obtain ⟨c0, c1, c2, -, -, -⟩ := (K1r.out.keep hS).o3); (obtain ⟨d0, d1, d2, -, -, -⟩ := (K2r.out.keep hS).o3); (have xa0 := keep hS XA0.out); (have xa1 := keep hS XA1.out); (have xa2 := keep hS XA2.out); (have xb0 := keep hS XB0.out); (have xb1 := keep hS XB1.out); (have xb2 := keep hS XB2.out); clear hS; go_simp; first | done | exact rfl)))); (case put459 => (simp only [Act.put, List.setIfInBounds_toArray, List.set_cons_zero, List.set_cons_succ]; first | done | exact rfl)); (case' next459 => skip)
                (first | (refine' grow_skip rfl ?wt460 ?put460 ?next460; (case wt460 => rfl)) | (refine' grow_lit rfl ?wt460 ?run460 ?put460 ?next460; (case wt460 => rfl); (case run460 => (intro w' hS H; clear H; (obtain ⟨c0, c1, c2, -, -, -⟩ := (K1r.out.keep hS).o3); (obtain ⟨d0, d1, d2, -, -, -⟩ := (K2r.out.keep hS).o3); (have xa0 := keep hS XA0.out); (have xa1 := keep hS XA1.out); (have xa2 := keep hS XA2.out); (have xb0 := keep hS XB0.out); (have xb1 := keep hS XB1.out); (have xb2 := keep hS XB2.out); clear hS; go_simp; first | done | exact rfl)))); (case put460 => (simp only [Act.put, List.setIfInBounds_toArray, List.set_cons_zero, List.set_cons_succ]; first | done | exact rfl)); (case' next460 => skip)
                (first | (refine' grow_skip rfl ?wt461 ?put461 ?next461; (case wt461 => rfl)) | (refine' grow_lit rfl ?wt461 ?run461 ?put461 ?next461; (case wt461 => rfl); (case run461 => (intro w' hS H; clear H; (obtain ⟨c0, c1, c2, -, -, -⟩ := (K1r.out.keep hS).o3); (obtain ⟨d0, d1, d2, -, -, -⟩ := (K2r.out.keep hS).o3); (have xa0 := keep hS XA0.out); (have xa1 := keep hS XA1.out); (have xa2 := keep hS XA2.out); (have xb0 := keep hS XB0.out); (have xb1 := keep hS XB1.out); (have xb2 := keep hS XB2.out); clear hS; go_simp; first | done | exact rfl)))); (case put461 => (simp only [Act.put, List.setIfInBounds_toArray, List.set_cons_zero, List.set_cons_succ]; first | done | exact rfl)); (case' next461 => skip)
                (first | (refine' grow_skip rfl ?wt462 ?put462 ?next462; (case wt462 => rfl)) | (refine' grow_lit rfl ?wt462 ?run462 ?put462 ?next462; (case wt462 => rfl); (case run462 => (intro w' hS H; clear H; (obtain ⟨c0, c1, c2, -, -, -⟩ := (K1r.out.keep hS).o3); (obtain ⟨d0, d1, d2, -, -, -⟩ := (K2r.out.keep hS).o3); (have xa0 := keep hS XA0.out); (have xa1 := keep hS XA1.out); (have xa2 := keep hS XA2.out); (have xb0 := keep hS XB0.out); (have xb1 := keep hS XB1.out); (have xb2 := keep hS XB2.out); clear hS; go_simp; first | done | exact rfl)))); (case put462 => (simp only [Act.put, List.setIfInBounds_toArray, List.set_cons_zero, List.set_cons_succ]; first | done | exact rfl)); (case' next462 => skip)
                (first | (refine' grow_skip rfl ?wt463 ?put463 ?next463; (case wt463 => rfl)) | (refine' grow_lit rfl ?wt463 ?run463 ?put463 ?next463; (case wt463 => rfl); (case run463 => (intro w' hS H; clear H; (obtain ⟨c0, c1, c2, -, -, -⟩ := (K1r.out.keep hS).o3); (obtain ⟨d0, d1, d2, -, -, -⟩ := (K2r.out.keep hS).o3); (have xa0 := keep hS XA0.out); (have xa1 := keep hS XA1.out); (have xa2 := keep hS XA2.out); (have xb0 := keep hS XB0.out); (have xb1 := keep hS XB1.out); (have xb2 := keep hS XB2.out); clear hS; go_simp; first | done | exact rfl)))); (case put463 => (simp only [Act.put, List.setIfInBounds_toArray, List.set_cons_zero, List.set_cons_succ]; first | done | exact rfl)); (case' next463 => skip)
                (first | (refine' grow_skip rfl ?wt464 ?put464 ?next464; (case wt464 => rfl)) | (refine' grow_lit rfl ?wt464 ?run464 ?put464 ?next464; (case wt464 => rfl); (case run464 => (intro w' hS H; clear H; (obtain ⟨c0, c1, c2, -, -, -⟩ := (K1r.out.keep hS).o3); (obtain ⟨d0, d1, d2, -, -, -⟩ := (K2r.out.keep hS).o3); (have xa0 := keep hS XA0.out); (have xa1 := keep hS XA1.out); (have xa2 := keep hS XA2.out); (have xb0 := keep hS XB0.out); (have xb1 := keep hS XB1.out); (have xb2 := keep hS XB2.out); clear hS; go_simp; first | done | exact rfl)))); (case put464 => (simp only [Act.put, List.setIfInBounds_toArray, List.set_cons_zero, List.set_cons_succ]; first | done | exact rfl)); (case' next464 => skip)
                (refine' grow_call (u := .bool true) rfl Tryd.func51 (by kernel_rfl) rfl hGS rfl ?wt477 ?run477 ?put477 ?next477; (case wt477 => rfl); (case run477 => (intro w' hS H; exact (rsame_any A.1 A.2.1 B.1 B.2.1 _ _ A.2.2 B.2.2 w' (XAT.out.below hS) (XBT.out.below hS)).mono (fun e w2 h => ⟨h.1.trans (by rw [HQ.out]), h.2⟩))); (case put477 => (simp only [Act.put, List.setIfInBounds_toArray, List.set_cons_zero, List.set_cons_succ]; first | done | exact rfl)); (case' next477 => skip))
                (first | (refine' grow_skip rfl ?wt465 ?put465 ?next465; (case wt465 => rfl)) | (refine' grow_lit rfl ?wt465 ?run465 ?put465 ?next465; (case wt465 => rfl); (case run465 => (intro w' hS H; clear H; (obtain ⟨c0, c1, c2, -, -, -⟩ := (K1r.out.keep hS).o3); (obtain ⟨d0, d1, d2, -, -, -⟩ := (K2r.out.keep hS).o3); (have xa0 := keep hS XA0.out); (have xa1 := keep hS XA1.out); (have xa2 := keep hS XA2.out); (have xb0 := keep hS XB0.out); (have xb1 := keep hS XB1.out); (have xb2 := keep hS XB2.out); clear hS; go_simp; first | done | exact rfl)))); (case put465 => (simp only [Act.put, List.setIfInBounds_toArray, List.set_cons_zero, List.set_cons_succ]; first | done | exact rfl)); (case' next465 => skip)
                intro w1 hb _
                have HB1 := Lib.hid (HBr.out.trans (hb.mono HBr.out.size))
                clear hb hGS
                go_wp2_with fail
                go_roundw
                case rel => exact ⟨k + 1, by omega, by go_num, HN, HB1⟩
                case measure => simp [intOf]; omega
              · have HQ : Hid (decide (A.1 = B.1 ∧ A.2.1 = B.2.1 ∧ A.2.2 = B.2.2) = false) := Lib.hid (decide_eq_false hAB)
                have HR : Hid (sameN a b = false) := Lib.hid (decide_eq_false (fun ⟨e1, e2, e3⟩ => getElem_ne hlt hlt2 (by rw [eA, eB]; exact fun e => hAB ⟨congrArg (·.1) e, congrArg (·.2.1) e, congrArg (·.2.2) e⟩) e3))
                clear x0 x1 x2 y0 y1 y2 xt yt eA eB hAB
                go_wp2_with fail
                clear c0 c1 c2
                have hGS : Grows (fun w' => Below wr.heap.size wr w') := Grows.below wr
                refine' wp_growL _ (fun w' => Below wr.heap.size wr w') [[], [0], [], [1, 2], [3], [], [5], [], [6, 7], [8], [4, 9], [10]] (Fact.lit _ :: Fact.lit _ :: Fact.lit _ :: Fact.lit _ :: Fact.lit _ :: Fact.lit _ :: Fact.lit _ :: Fact.lit _ :: Fact.lit _ :: Fact.lit _ :: Fact.lit _ :: Fact.lit _ :: []) (by kernel_rfl) rfl (by kernel_rfl) (Below.refl _ _).drew ?seqnt
                case' seqnt => skip
                (first | (refine' grow_skip rfl ?wt466 ?put466 ?next466; (case wt466 => rfl)) | (refine' grow_lit rfl ?wt466 ?run466 ?put466 ?next466; (case wt466 => rfl); (case run466 => (intro w' hS H; clear H; (obtain ⟨c0, c1, c2, -, -, -⟩ := (K1r.out.keep hS).o3); (obtain ⟨d0, d1, d2, -, -, -⟩ := (K2r.out.keep hS).o3); (have xa0 := keep hS XA0.out); (have xa1 := keep hS XA1.out); (have xa2 := keep hS XA2.out); (have xb0 := keep hS XB0.out); (have xb1 := keep hS XB1.out); (have xb2 := keep hS XB2.out); clear hS; go_simp; first | done | exact rfl)))); (case put466 => (simp only [Act.put, List.setIfInBounds_toArray, List.set_cons_zero, List.set_cons_succ]; first | done | exact rfl)); (case' next466 => skip)
                (first | (refine' grow_skip rfl ?wt467 ?put467 ?next467; (case wt467 => rfl)) | (refine' grow_lit rfl ?wt467 ?run467 ?put467 ?next467; (case wt467 => rfl); (case run467 => (intro w' hS H; clear H; (obtain ⟨c0, c1, c2, -, -, -⟩ := (K1r.out.keep hS).o3); (obtain ⟨d0, d1, d2, -, -, -⟩ := (K2r.out.keep hS).o3); (have xa0 := keep hS XA0.out); (have xa1 := keep hS XA1.out); (have xa2 := keep hS XA2.out); (have xb0 := keep hS XB0.out); (have xb1 := keep hS XB1.out); (have xb2 := keep hS XB2.out); clear hS; go_simp; first | done | exact rfl)))); (case put467 => (simp only [Act.put, List.setIfInBounds_toArray, List.set_cons_zero, List.set_cons_succ]; first | done | exact rfl)); (case' next467 => skip)
                (first | (refine' grow_skip rfl ?wt468 ?put468 ?next468; (case wt468 => rfl)) | (refine' grow_lit rfl ?wt468 ?run468 ?put468 ?next468; (case wt468 => rfl); (case run468 => (intro w' hS H; clear H; (obtain ⟨c0, c1, c2, -, -, -⟩ := (K1r.out.keep hS).o3); (obtain ⟨d0, d1, d2, -, -, -⟩ := (K2r.out.keep hS).o3); (have xa0 := keep hS XA0.out); (have xa1 := keep hS XA1.out); (have xa2 := keep hS XA2.out); (have xb0 := keep hS XB0.out); (have xb1 := keep hS XB1.out); (have xb2 := keep hS XB2.out); clear hS; go_simp; first | done | exact rfl)))); (case put468 => (simp only [Act.put, List.setIfInBounds_toArray, List.set_cons_zero, List.set_cons_succ]; first | done | exact rfl)); (case' next468 => skip)
                (first | (refine' grow_skip rfl ?wt469 ?put469 ?next469; (case wt469 => rfl)) | (refine' grow_lit rfl ?wt469 ?run469 ?put469 ?next469; (case wt469 => rfl); (case run469 => (intro w' hS H; clear H; (obtain ⟨c0, c1, c2, -, -, -⟩ := (K1r.out.keep hS).o3); (obtain ⟨d0, d1, d2, -, -, -⟩ := (K2r.out.keep hS).o3); (have xa0 := keep hS XA0.out); (have xa1 := keep hS XA1.out); (have xa2 := keep hS XA2.out); (have xb0 := keep hS XB0.out); (have xb1 := keep hS XB1.out); (have xb2 := keep hS XB2.out); clear hS; go_simp; first | done | exact rfl)))); (case put469 => (simp only [Act.put, List.setIfInBounds_toArray, List.set_cons_zero, List.set_cons_succ]; first | done | exact rfl)); (case' next469 => skip)
                (first | (refine' grow_skip rfl ?wt470 ?put470 ?next470; (case wt470 => rfl)) | (refine' grow_lit rfl ?wt470 ?run470 ?put470 ?next470; (case wt470 => rfl); (case run470 => (intro w' hS H; clear H; (obtain ⟨c0, c1, c2, -, -, -⟩ := (K1r.out.keep hS).o3); (obtain ⟨d0, d1, d2, -, -, -⟩ := (K2r.out.keep hS).o3); (have xa0 := keep hS XA0.out); (have xa1 := keep hS XA1.out); (have xa2 := keep hS XA2.out); (have xb0 := keep hS XB0.out); (have xb1 := keep hS XB1.out); (have xb2 := keep hS XB2.out); clear hS; go_simp; first | done | exact rfl)))); (case put470 => (simp only [Act.put, List.setIfInBounds_toArray, List.set_cons_zero, List.set_cons_succ]; first | done | exact rfl)); (case' next470 => skip)
                (first | (refine' grow_skip rfl ?wt471 ?put471 ?next471; (case wt471 => rfl)) | (refine' grow_lit rfl ?wt471 ?run471 ?put471 ?next471; (case wt471 => rfl); (case run471 => (intro w' hS H; clear H; (obtain ⟨c0, c1, c2, -, -, -⟩ := (K1r.out.keep hS).o3); (obtain ⟨d0, d1, d2, -, -, -⟩ := (K2r.out.keep hS).o3); (have xa0 := keep hS XA0.out); (have xa1 := keep hS XA1.out); (have xa2 := keep hS XA2.out); (have xb0 := keep hS XB0.out); (have xb1 := keep hS XB1.out); (have xb2 := keep hS XB2.out); clear hS; go_simp; first | done | exact rfl)))); (case put471 => (simp only [Act.put, List.setIfInBounds_toArray, List.set_cons_zero, List.set_cons_succ]; first | done | exact rfl)); (case' next471 => skip)
                (first | (refine' grow_skip rfl ?wt472 ?put472 ?next472; (case wt472 => rfl)) | (refine' grow_lit rfl ?wt472 ?run472 ?put472 ?next472; (case wt472 => rfl); (case run472 => (intro w' hS H; clear H; (obtain ⟨c0, c1, c2, -, -, -⟩ := (K1r.out.keep hS).o3); (obtain ⟨d0, d1, d2, -, -, -⟩ := (K2r.out.keep hS).o3); (have xa0 := keep hS XA0.out); (have xa1 := keep hS XA1.out); (have xa2 := keep hS XA2.out); (have xb0 := keep hS XB0.out); (have xb1 := keep hS XB1.out); (have xb2 := keep hS XB2.out); clear hS; go_simp; first | done | exact rfl)))); (case put472 => (simp only [Act.put, List.setIfInBounds_toArray, List.set_cons_zero, List.set_cons_succ]; first | done | exact rfl)); (case' next472 => skip)
                (first | (refine' grow_skip rfl ?wt473 ?put473 ?next473; (case wt473 => rfl)) | (refine' grow_lit rfl ?wt473 ?run473 ?put473 ?next473; (case wt473 => rfl); (case run473 => (intro w' hS H; clear H; (obtain ⟨c0, c1, c2, -, -, -⟩ := (K1r.out.keep hS).o3); (obtain ⟨d0, d1, d2, -, -, -⟩ := (K2r.out.keep hS).o3); (have xa0 := keep hS XA0.out); (have xa1 := keep hS XA1.out); (have xa2 := keep hS XA2.out); (have xb0 := keep hS XB0.out); (have xb1 := keep hS XB1.out); (have xb2 := keep hS XB2.out); clear hS; go_simp; first | done | exact rfl)))); (case put473 => (simp only [Act.put, List.setIfInBounds_toArray, List.set_cons_zero, List.set_cons_succ]; first | done | exact rfl)); (case' next473 => skip)
                (first | (refine' grow_skip rfl ?wt474 ?put474 ?next474; (case wt474 => rfl)) | (refine' grow_lit rfl ?wt474 ?run474 ?put474 ?next474; (case wt474 => rfl); (case run474 => (intro w' hS H; clear H; (obtain ⟨c0, c1, c2, -, -, -⟩ := (K1r.out.keep hS).o3); (obtain ⟨d0, d1, d2, -, -, -⟩ := (K2r.out.keep hS).o3); (have xa0 := keep hS XA0.out); (have xa1 := keep hS XA1.out); (have xa2 := keep hS XA2.out); (have xb0 := keep hS XB0.out); (have xb1 := keep hS XB1.out); (have xb2 := keep hS XB2.out); clear hS; go_simp; first | done | exact rfl)))); (case put474 => (simp only [Act.put, List.setIfInBounds_toArray, List.set_cons_zero, List.set_cons_succ]; first | done | exact rfl)); (case' next474 => skip)
                (first | (refine' grow_skip rfl ?wt475 ?put475 ?next475; (case wt475 => rfl)) | (refine' grow_lit rfl ?wt475 ?run475 ?put475 ?next475; (case wt475 => rfl); (case run475 => (intro w' hS H; clear H; (obtain ⟨c0, c1, c2, -, -, -⟩ := (K1r.out.keep hS).o3); (obtain ⟨d0, d1, d2, -, -, -⟩ := (K2r.out.keep hS).o3); (have xa0 := keep hS XA0.out); (have xa1 := keep hS XA1.out); (have xa2 := keep hS XA2.out); (have xb0 := keep hS XB0.out); (have xb1 := keep hS XB1.out); (have xb2 := keep hS XB2.out); clear hS; go_simp; first | done | exact rfl)))); (case put475 => (simp only [Act.put, List.setIfInBounds_toArray, List.set_cons_zero, List.set_cons_succ]; first | done | exact rfl)); (case' next475 => skip)
                (refine' grow_call (u := .bool false) rfl Tryd.func51 (by kernel_rfl) rfl hGS rfl ?wt478 ?run478 ?put478 ?next478; (case wt478 => rfl); (case run478 => (intro w' hS H; exact (rsame_any A.1 A.2.1 B.1 B.2.1 _ _ A.2.2 B.2.2 w' (XAT.out.below hS) (XBT.out.below hS)).mono (fun e w2 h => ⟨h.1.trans (by rw [HQ.out]), h.2⟩))); (case put478 => (simp only [Act.put, List.setIfInBounds_toArray, List.set_cons_zero, List.set_cons_succ]; first | done | exact rfl)); (case' next478 => skip))
                (first | (refine' grow_skip rfl ?wt476 ?put476 ?next476; (case wt476 => rfl)) | (refine' grow_lit rfl ?wt476 ?run476 ?put476 ?next476; (case wt476 => rfl); (case run476 => (intro w' hS H; clear H; (obtain ⟨c0, c1, c2, -, -, -⟩ := (K1r.out.keep hS).o3); (obtain ⟨d0, d1, d2, -, -, -⟩ := (K2r.out.keep hS).o3); (have xa0 := keep hS XA0.out); (have xa1 := keep hS XA1.out); (have xa2 := keep hS XA2.out); (have xb0 := keep hS XB0.out); (have xb1 := keep hS XB1.out); (have xb2 := keep hS XB2.out); clear hS; go_simp; first | done | exact rfl)))); (case put476 => (simp only [Act.put, List.setIfInBounds_toArray, List.set_cons_zero, List.set_cons_succ]; first | done | exact rfl)); (case' next476 => skip)
                intro w1 hb _
                have HB1 := Lib.hid (HBr.out.trans (hb.mono HBr.out.size))
                clear hb hGS
                go_wp2_with fail
                go_ret
                exact ⟨ret_bool HR.out.symm, B0.out.trans (HB1.out.mono B0.out.size)⟩
            · have HR : Hid (sameN a b = true) := Lib.hid (by
                obtain rfl : k = a.t.length := by omega
                exact decide_eq_true ⟨HEv.out, HEa.out, take_all HLt.out.symm HT.out⟩)
              have hli : ¬ (k : Int) < (a.t.length : Int) := by omega
              go_wp2_with fail
              go_ret
              exact ⟨ret_bool HR.out.symm, B0.out.trans (HBr.out.mono B0.out.size)⟩

theorem rsamenet_any (a b : NetD) (vq aq tq : Option Addr) (vc ac tc : Nat) (vq2 aq2 tq2 : Option Addr) (vc2 ac2 tc2 : Nat) (w : World) (h : NetS w a vq aq tq vc ac tc) (h2 : NetS w b vq2 aq2 tq2 vc2 ac2 tc2) : Calls Tryd.prog 17 #[netVal a vq aq tq vc ac tc, netVal b vq2 aq2 tq2 vc2 ac2 tc2] w fun e w' => e = .returned (.bool (sameN a b)) ∧ Below w.heap.size w w' := by
  by_cases hv : a.v.length = b.v.length
  · by_cases ha : a.a.length = b.a.length
    · by_cases ht : a.t.length = b.t.length
      · exact rsame_eq a b vq aq tq vc ac tc vq2 aq2 tq2 vc2 ac2 tc2 w h h2 hv ha ht
      · exact rsame_t a b vq aq tq vc ac tc vq2 aq2 tq2 vc2 ac2 tc2 w hv ha ht
    · exact rsame_a a b vq aq tq vc ac tc vq2 aq2 tq2 vc2 ac2 tc2 w hv ha
  · exact rsame_v a b vq aq tq vc ac tc vq2 aq2 tq2 vc2 ac2 tc2 w hv

end Go.Proofs.YtbdompngabokgaaDoor
