/-
  The document's nets: are two alike?
-/
import Derived.Test.YtgehjkcjpbdoaaaDoorStrEq
import Derived.Test.YtgehjkcjpbdoaaaDoorA2
import Derived.Test.YtgehjkcjpbdoaaaDoorGrow
namespace Go.Proofs.YtgehjkcjpbdoaaaDoor
open Go.RowKit

/-- Are two nets alike? -/
def sameN (a b : NetD) : Bool := decide (a.v = b.v ∧ a.a = b.a ∧ a.t = b.t)
theorem take_eq_succ {α : Type} {l m : List α} {k : Nat} (hl : k < l.length) (hm : k < m.length) (h : l.take k = m.take k) (he : l[k] = m[k]) : l.take (k + 1) = m.take (k + 1) := by
  rw [take_snoc l k hl, take_snoc m k hm, h, he]
theorem take_all {α : Type} {l m : List α} (hlen : m.length = l.length) (h : l.take l.length = m.take l.length) : l = m := by
  rw [List.take_length] at h
  rw [h, ← hlen, List.take_length]
theorem getElem_ne {α : Type} {l m : List α} {k : Nat} (hl : k < l.length) (hm : k < m.length) (h : ¬ l[k] = m[k]) : ¬ l = m := fun e => h (by subst e; rfl)

set_option maxHeartbeats 1000000 in
set_option maxRecDepth 100000 in
theorem rsame_v (a b : NetD) (vq aq tq : Option Addr) (vc ac tc : Nat) (vq2 aq2 tq2 : Option Addr) (vc2 ac2 tc2 : Nat) (w : World) (hne : ¬ a.v.length = b.v.length) : Calls Tryd.prog 12 #[netVal a vq aq tq vc ac tc, netVal b vq2 aq2 tq2 vc2 ac2 tc2] w fun e w' => e = .returned (.bool (sameN a b)) ∧ Below w.heap.size w w' := by
  have n1 : (a.v.length == b.v.length) = false := by simpa using hne
  have n2 : (((a.v.length : Nat) : Int) == ((b.v.length : Nat) : Int)) = false := by simp; omega
  have HR : Hid (sameN a b = false) := Lib.hid (decide_eq_false (fun ⟨e1, e2, e3⟩ => hne (by rw [e1])))
  go_enter Tryd.func12, Tryd.ntmps12
  go_wp2_with fail
  go_ret
  exact ⟨ret_bool HR.out.symm, below_alloc2 _ _⟩

set_option maxHeartbeats 1000000 in
set_option maxRecDepth 100000 in
theorem rsame_a (a b : NetD) (vq aq tq : Option Addr) (vc ac tc : Nat) (vq2 aq2 tq2 : Option Addr) (vc2 ac2 tc2 : Nat) (w : World) (hv : a.v.length = b.v.length) (hne : ¬ a.a.length = b.a.length) : Calls Tryd.prog 12 #[netVal a vq aq tq vc ac tc, netVal b vq2 aq2 tq2 vc2 ac2 tc2] w fun e w' => e = .returned (.bool (sameN a b)) ∧ Below w.heap.size w w' := by
  have n1 : (a.a.length == b.a.length) = false := by simpa using hne
  have n2 : (((a.a.length : Nat) : Int) == ((b.a.length : Nat) : Int)) = false := by simp; omega
  have HR : Hid (sameN a b = false) := Lib.hid (decide_eq_false (fun ⟨e1, e2, e3⟩ => hne (by rw [e2])))
  unfold netVal
  rw [show b.v.length = a.v.length from (hv).symm]
  go_enter Tryd.func12, Tryd.ntmps12
  go_wp2_with fail
  go_ret
  exact ⟨ret_bool HR.out.symm, below_alloc2 _ _⟩

set_option maxHeartbeats 1000000 in
set_option maxRecDepth 100000 in
theorem rsame_t (a b : NetD) (vq aq tq : Option Addr) (vc ac tc : Nat) (vq2 aq2 tq2 : Option Addr) (vc2 ac2 tc2 : Nat) (w : World) (hv : a.v.length = b.v.length) (ha : a.a.length = b.a.length) (hne : ¬ a.t.length = b.t.length) : Calls Tryd.prog 12 #[netVal a vq aq tq vc ac tc, netVal b vq2 aq2 tq2 vc2 ac2 tc2] w fun e w' => e = .returned (.bool (sameN a b)) ∧ Below w.heap.size w w' := by
  have n1 : (a.t.length == b.t.length) = false := by simpa using hne
  have n2 : (((a.t.length : Nat) : Int) == ((b.t.length : Nat) : Int)) = false := by simp; omega
  have HR : Hid (sameN a b = false) := Lib.hid (decide_eq_false (fun ⟨e1, e2, e3⟩ => hne (by rw [e3])))
  unfold netVal
  rw [show b.v.length = a.v.length from (hv).symm]
  rw [show b.a.length = a.a.length from (ha).symm]
  go_enter Tryd.func12, Tryd.ntmps12
  go_wp2_with fail
  go_ret
  exact ⟨ret_bool HR.out.symm, below_alloc2 _ _⟩

set_option maxHeartbeats 4000000 in
set_option maxRecDepth 100000 in
theorem rsame_eq (a b : NetD) (vq aq tq : Option Addr) (vc ac tc : Nat) (vq2 aq2 tq2 : Option Addr) (vc2 ac2 tc2 : Nat) (w : World) (h : NetS w a vq aq tq vc ac tc) (h2 : NetS w b vq2 aq2 tq2 vc2 ac2 tc2) (hv : a.v.length = b.v.length) (ha : a.a.length = b.a.length) (ht : a.t.length = b.t.length) : Calls Tryd.prog 12 #[netVal a vq aq tq vc ac tc, netVal b vq2 aq2 tq2 vc2 ac2 tc2] w fun e w' => e = .returned (.bool (sameN a b)) ∧ Below w.heap.size w w' := by
  unfold netVal
  rw [show b.v.length = a.v.length from (hv).symm]
  rw [show b.a.length = a.a.length from (ha).symm]
  rw [show b.t.length = a.t.length from (ht).symm]
  have HLv := Lib.hid hv
  have HLa := Lib.hid ha
  have HLt := Lib.hid ht
  clear hv ha ht
  go_enter Tryd.func12, Tryd.ntmps12
  go_wp2_with fail
  obtain ⟨W0, hW0⟩ := named ((w.alloc (.cells #[.slice vq a.v.length vc, .slice aq a.a.length ac, .slice tq a.t.length tc] 26)).alloc (.cells #[.slice vq2 a.v.length vc2, .slice aq2 a.a.length ac2, .slice tq2 a.t.length tc2] 26))
  rw [← hW0]
  have B0 : Hid (Below w.heap.size w W0) := by rw [hW0]; exact Lib.hid (below_alloc2 _ _)
  have K1 : Hid (Blk W0 w.heap.size #[.slice vq a.v.length vc, .slice aq a.a.length ac, .slice tq a.t.length tc] 26) := by rw [hW0]; exact Lib.hid ((Blk.new _ _ _ _ rfl).old _)
  have K2 : Hid (Blk W0 (w.heap.size + 1) #[.slice vq2 a.v.length vc2, .slice aq2 a.a.length ac2, .slice tq2 a.t.length tc2] 26) := by rw [hW0]; exact Lib.hid (Blk.new _ _ _ _ (by simp))
  have H1 := Lib.hid (h.below B0.out)
  have H2 := Lib.hid (h2.below B0.out)
  clear h h2 hW0
  go_loopw [5] (fun i wr => ∃ k : Nat, k ≤ a.v.length ∧ i = .int .i64 k ∧ Hid (a.v.take k = b.v.take k) ∧ Hid (Below W0.heap.size W0 wr)) (fun i _ => a.v.length - (intOf i).toNat)
  case atStart => exact ⟨0, Nat.zero_le _, rfl, Lib.hid rfl, Lib.hid (Below.refl _ _)⟩
  case round =>
    obtain ⟨k, hk, rfl, HT, HBr⟩ := hrel
    have K1r := Lib.hid (K1.out.keep HBr.out)
    have K2r := Lib.hid (K2.out.keep HBr.out)
    obtain ⟨c0, c1, c2, -, -, -⟩ := K1r.out.o3
    by_cases hlt : k < a.v.length
    · have hlt2 : k < b.v.length := by have := HLv.out; omega
      have hli : (k : Int) < (a.v.length : Int) := by omega
      have hle : a.v.length ≤ 9223372036854775807 := H1.out.v.le
      obtain ⟨ab, ao, e1, x0, x1, x2⟩ := (H1.out.below HBr.out).v.at hlt
      obtain ⟨bb, bo, e2, y0, y1, y2⟩ := (H2.out.below HBr.out).v.at hlt2
      obtain ⟨A, eA⟩ : ∃ A, a.v[k] = A := ⟨_, rfl⟩
      obtain ⟨B, eB⟩ : ∃ B, b.v[k] = B := ⟨_, rfl⟩
      rw [eA] at x0 x1 x2
      rw [eB] at y0 y1 y2
      subst e1
      subst e2
      have XA0 := Lib.hid x0
      have XA1 := Lib.hid x1
      have XA2 := Lib.hid x2
      by_cases hAB : A = B
      · subst hAB
        have XB0 := Lib.hid y0
        have XB1 := Lib.hid y1
        have XB2 := Lib.hid y2
        have HN : Hid (a.v.take (k + 1) = b.v.take (k + 1)) := Lib.hid (take_eq_succ hlt hlt2 HT.out (eA.trans eB.symm))
        clear x0 x1 x2 y0 y1 y2 eA eB
        go_wp2_with fail
        clear c0 c1 c2
        have hGS : Grows (fun w' => Below wr.heap.size wr w') := Grows.below wr
        refine' wp_growL _ (fun w' => Below wr.heap.size wr w') [[], [0], [], [1, 2], [3], [], [5], [], [6, 7], [8], [4, 9]] (Fact.lit _ :: Fact.lit _ :: Fact.lit _ :: Fact.lit _ :: Fact.lit _ :: Fact.lit _ :: Fact.lit _ :: Fact.lit _ :: Fact.lit _ :: Fact.lit _ :: Fact.lit _ :: []) (by kernel_rfl) rfl (by kernel_rfl) (Below.refl _ _).drew ?seqev
        case' seqev => skip
        iterate 10 ((first | (apply grow_skip; (case hf => rfl); (case hw => rfl)) | (apply grow_lit; (case hf => rfl); (case hw => rfl); (case hrun => (intro w' hS H; clear H; (obtain ⟨c0, c1, c2, -, -, -⟩ := (K1r.out.keep hS).o3); (obtain ⟨d0, d1, d2, -, -, -⟩ := (K2r.out.keep hS).o3); (have xa0 := keep hS XA0.out); (have xa1 := keep hS XA1.out); (have xa2 := keep hS XA2.out); (have xb0 := keep hS XB0.out); (have xb1 := keep hS XB1.out); (have xb2 := keep hS XB2.out); clear hS; go_simp; first | done | exact rfl)))); (case hc => (simp only [Act.put, List.setIfInBounds_toArray, List.set_cons_zero, List.set_cons_succ]; first | done | exact rfl)); (try (case hj => rfl)))
        (refine' grow_lit (u := .bool false) rfl ?wtqev ?runqev ?putqev ?nextqev; (case wtqev => rfl); (case runqev => (intro w' hS H; (have g := guard_rvert); (have q := neq_rvert A.1 A.2.1 A.2.2 A.1 A.2.1 A.2.2 w'); clear H hS; go_simp)); (case putqev => (simp only [Act.put, List.setIfInBounds_toArray, List.set_cons_zero, List.set_cons_succ]; first | done | exact rfl)); (case' nextqev => skip))
        intro w1 hb _
        have HB1 := Lib.hid (HBr.out.trans (hb.mono HBr.out.size))
        clear hb hGS
        go_wp2_with fail
        go_roundw
        case rel => exact ⟨k + 1, by omega, by go_num, HN, HB1⟩
        case measure => simp [intOf]; omega
      · have XB0 := Lib.hid y0
        have XB1 := Lib.hid y1
        have XB2 := Lib.hid y2
        have HR : Hid (sameN a b = false) := Lib.hid (decide_eq_false (fun ⟨e1, e2, e3⟩ => getElem_ne hlt hlt2 (by rw [eA, eB]; exact hAB) e1))
        have HAB := Lib.hid hAB
        have HNE : Hid ((A.1 == B.1 && A.2.1 == B.2.1 && A.2.2 == B.2.2) = false) := Lib.hid (by
          cases hh : (A.1 == B.1 && A.2.1 == B.2.1 && A.2.2 == B.2.2) with
          | false => rfl
          | true =>
            simp only [Bool.and_eq_true, beq_iff_eq] at hh
            exact absurd (Prod.ext hh.1.1 (Prod.ext hh.1.2 hh.2)) hAB)
        clear x0 x1 x2 y0 y1 y2 eA eB hAB
        go_wp2_with fail
        clear c0 c1 c2
        have hGS : Grows (fun w' => Below wr.heap.size wr w') := Grows.below wr
        refine' wp_growL _ (fun w' => Below wr.heap.size wr w') [[], [0], [], [1, 2], [3], [], [5], [], [6, 7], [8], [4, 9]] (Fact.lit _ :: Fact.lit _ :: Fact.lit _ :: Fact.lit _ :: Fact.lit _ :: Fact.lit _ :: Fact.lit _ :: Fact.lit _ :: Fact.lit _ :: Fact.lit _ :: Fact.lit _ :: []) (by kernel_rfl) rfl (by kernel_rfl) (Below.refl _ _).drew ?seqnv
        case' seqnv => skip
        iterate 10 ((first | (apply grow_skip; (case hf => rfl); (case hw => rfl)) | (apply grow_lit; (case hf => rfl); (case hw => rfl); (case hrun => (intro w' hS H; clear H; (obtain ⟨c0, c1, c2, -, -, -⟩ := (K1r.out.keep hS).o3); (obtain ⟨d0, d1, d2, -, -, -⟩ := (K2r.out.keep hS).o3); (have xa0 := keep hS XA0.out); (have xa1 := keep hS XA1.out); (have xa2 := keep hS XA2.out); (have xb0 := keep hS XB0.out); (have xb1 := keep hS XB1.out); (have xb2 := keep hS XB2.out); clear hS; go_simp; first | done | exact rfl)))); (case hc => (simp only [Act.put, List.setIfInBounds_toArray, List.set_cons_zero, List.set_cons_succ]; first | done | exact rfl)); (try (case hj => rfl)))
        (refine' grow_lit (u := .bool true) rfl ?wtqnv ?runqnv ?putqnv ?nextqnv; (case wtqnv => rfl); (case runqnv => (intro w' hS H; (have g := guard_rvert); (have q := ((neq_rvert A.1 A.2.1 A.2.2 B.1 B.2.1 B.2.2 w').trans (by rw [HNE.out]; rfl) : _ = Result.ok (.bool true) w')); clear H hS; go_simp; first | done | exact fun h1 h2 h3 => HAB.out (Prod.ext h1 (Prod.ext h2 h3)))); (case putqnv => (simp only [Act.put, List.setIfInBounds_toArray, List.set_cons_zero, List.set_cons_succ]; first | done | exact rfl)); (case' nextqnv => skip))
        intro w1 hb _
        have HB1 := Lib.hid (HBr.out.trans (hb.mono HBr.out.size))
        clear hb hGS
        go_wp2_with fail
        go_ret
        exact ⟨ret_bool HR.out.symm, B0.out.trans (HB1.out.mono B0.out.size)⟩
    · obtain rfl : k = a.v.length := by omega
      have HEv := Lib.hid (take_all HLv.out.symm HT.out)
      go_wp2_with fail
      clear c0 c1 c2
      go_loopw [6] (fun i wr => ∃ k : Nat, k ≤ a.a.length ∧ i = .int .i64 k ∧ Hid (a.a.take k = b.a.take k) ∧ Hid (Below W0.heap.size W0 wr)) (fun i _ => a.a.length - (intOf i).toNat)
      case atStart => exact ⟨0, Nat.zero_le _, rfl, Lib.hid rfl, HBr⟩
      case round =>
        obtain ⟨k, hk, rfl, HT, HBr⟩ := hrel
        have K1r := Lib.hid (K1.out.keep HBr.out)
        have K2r := Lib.hid (K2.out.keep HBr.out)
        obtain ⟨c0, c1, c2, -, -, -⟩ := K1r.out.o3
        by_cases hlt : k < a.a.length
        · have hlt2 : k < b.a.length := by have := HLa.out; omega
          have hli : (k : Int) < (a.a.length : Int) := by omega
          have hle : a.a.length ≤ 9223372036854775807 := H1.out.a.le
          obtain ⟨ab, ao, e1, x0, x1, x2⟩ := (H1.out.below HBr.out).a.at hlt
          obtain ⟨bb, bo, e2, y0, y1, y2⟩ := (H2.out.below HBr.out).a.at hlt2
          obtain ⟨A, eA⟩ : ∃ A, a.a[k] = A := ⟨_, rfl⟩
          obtain ⟨B, eB⟩ : ∃ B, b.a[k] = B := ⟨_, rfl⟩
          rw [eA] at x0 x1 x2
          rw [eB] at y0 y1 y2
          subst e1
          subst e2
          have XA0 := Lib.hid x0
          have XA1 := Lib.hid x1
          have XA2 := Lib.hid x2
          by_cases hAB : A = B
          · subst hAB
            have XB0 := Lib.hid y0
            have XB1 := Lib.hid y1
            have XB2 := Lib.hid y2
            have HN : Hid (a.a.take (k + 1) = b.a.take (k + 1)) := Lib.hid (take_eq_succ hlt hlt2 HT.out (eA.trans eB.symm))
            clear x0 x1 x2 y0 y1 y2 eA eB
            go_wp2_with fail
            clear c0 c1 c2
            have hGS : Grows (fun w' => Below wr.heap.size wr w') := Grows.below wr
            refine' wp_growL _ (fun w' => Below wr.heap.size wr w') [[], [0], [], [1, 2], [3], [], [5], [], [6, 7], [8], [4, 9]] (Fact.lit _ :: Fact.lit _ :: Fact.lit _ :: Fact.lit _ :: Fact.lit _ :: Fact.lit _ :: Fact.lit _ :: Fact.lit _ :: Fact.lit _ :: Fact.lit _ :: Fact.lit _ :: []) (by kernel_rfl) rfl (by kernel_rfl) (Below.refl _ _).drew ?seqea
            case' seqea => skip
            iterate 10 ((first | (apply grow_skip; (case hf => rfl); (case hw => rfl)) | (apply grow_lit; (case hf => rfl); (case hw => rfl); (case hrun => (intro w' hS H; clear H; (obtain ⟨c0, c1, c2, -, -, -⟩ := (K1r.out.keep hS).o3); (obtain ⟨d0, d1, d2, -, -, -⟩ := (K2r.out.keep hS).o3); (have xa0 := keep hS XA0.out); (have xa1 := keep hS XA1.out); (have xa2 := keep hS XA2.out); (have xb0 := keep hS XB0.out); (have xb1 := keep hS XB1.out); (have xb2 := keep hS XB2.out); clear hS; go_simp; first | done | exact rfl)))); (case hc => (simp only [Act.put, List.setIfInBounds_toArray, List.set_cons_zero, List.set_cons_succ]; first | done | exact rfl)); (try (case hj => rfl)))
            (refine' grow_lit (u := .bool false) rfl ?wtqea ?runqea ?putqea ?nextqea; (case wtqea => rfl); (case runqea => (intro w' hS H; (have g := guard_rarc); (have q := neq_rarc A.1 A.2.1 A.2.2 A.1 A.2.1 A.2.2 w'); clear H hS; go_simp)); (case putqea => (simp only [Act.put, List.setIfInBounds_toArray, List.set_cons_zero, List.set_cons_succ]; first | done | exact rfl)); (case' nextqea => skip))
            intro w1 hb _
            have HB1 := Lib.hid (HBr.out.trans (hb.mono HBr.out.size))
            clear hb hGS
            go_wp2_with fail
            go_roundw
            case rel => exact ⟨k + 1, by omega, by go_num, HN, HB1⟩
            case measure => simp [intOf]; omega
          · have XB0 := Lib.hid y0
            have XB1 := Lib.hid y1
            have XB2 := Lib.hid y2
            have HR : Hid (sameN a b = false) := Lib.hid (decide_eq_false (fun ⟨e1, e2, e3⟩ => getElem_ne hlt hlt2 (by rw [eA, eB]; exact hAB) e2))
            have HAB := Lib.hid hAB
            have HNE : Hid ((A.1 == B.1 && A.2.1 == B.2.1 && A.2.2 == B.2.2) = false) := Lib.hid (by
              cases hh : (A.1 == B.1 && A.2.1 == B.2.1 && A.2.2 == B.2.2) with
              | false => rfl
              | true =>
                simp only [Bool.and_eq_true, beq_iff_eq] at hh
                exact absurd (Prod.ext hh.1.1 (Prod.ext hh.1.2 hh.2)) hAB)
            clear x0 x1 x2 y0 y1 y2 eA eB hAB
            go_wp2_with fail
            clear c0 c1 c2
            have hGS : Grows (fun w' => Below wr.heap.size wr w') := Grows.below wr
            refine' wp_growL _ (fun w' => Below wr.heap.size wr w') [[], [0], [], [1, 2], [3], [], [5], [], [6, 7], [8], [4, 9]] (Fact.lit _ :: Fact.lit _ :: Fact.lit _ :: Fact.lit _ :: Fact.lit _ :: Fact.lit _ :: Fact.lit _ :: Fact.lit _ :: Fact.lit _ :: Fact.lit _ :: Fact.lit _ :: []) (by kernel_rfl) rfl (by kernel_rfl) (Below.refl _ _).drew ?seqna
            case' seqna => skip
            iterate 10 ((first | (apply grow_skip; (case hf => rfl); (case hw => rfl)) | (apply grow_lit; (case hf => rfl); (case hw => rfl); (case hrun => (intro w' hS H; clear H; (obtain ⟨c0, c1, c2, -, -, -⟩ := (K1r.out.keep hS).o3); (obtain ⟨d0, d1, d2, -, -, -⟩ := (K2r.out.keep hS).o3); (have xa0 := keep hS XA0.out); (have xa1 := keep hS XA1.out); (have xa2 := keep hS XA2.out); (have xb0 := keep hS XB0.out); (have xb1 := keep hS XB1.out); (have xb2 := keep hS XB2.out); clear hS; go_simp; first | done | exact rfl)))); (case hc => (simp only [Act.put, List.setIfInBounds_toArray, List.set_cons_zero, List.set_cons_succ]; first | done | exact rfl)); (try (case hj => rfl)))
            (refine' grow_lit (u := .bool true) rfl ?wtqna ?runqna ?putqna ?nextqna; (case wtqna => rfl); (case runqna => (intro w' hS H; (have g := guard_rarc); (have q := ((neq_rarc A.1 A.2.1 A.2.2 B.1 B.2.1 B.2.2 w').trans (by rw [HNE.out]; rfl) : _ = Result.ok (.bool true) w')); clear H hS; go_simp; first | done | exact fun h1 h2 h3 => HAB.out (Prod.ext h1 (Prod.ext h2 h3)))); (case putqna => (simp only [Act.put, List.setIfInBounds_toArray, List.set_cons_zero, List.set_cons_succ]; first | done | exact rfl)); (case' nextqna => skip))
            intro w1 hb _
            have HB1 := Lib.hid (HBr.out.trans (hb.mono HBr.out.size))
            clear hb hGS
            go_wp2_with fail
            go_ret
            exact ⟨ret_bool HR.out.symm, B0.out.trans (HB1.out.mono B0.out.size)⟩
        · obtain rfl : k = a.a.length := by omega
          have HEa := Lib.hid (take_all HLa.out.symm HT.out)
          go_wp2_with fail
          clear c0 c1 c2
          go_loopw [7] (fun i wr => ∃ k : Nat, k ≤ a.t.length ∧ i = .int .i64 k ∧ Hid (a.t.take k = b.t.take k) ∧ Hid (Below W0.heap.size W0 wr)) (fun i _ => a.t.length - (intOf i).toNat)
          case atStart => exact ⟨0, Nat.zero_le _, rfl, Lib.hid rfl, HBr⟩
          case round =>
            obtain ⟨k, hk, rfl, HT, HBr⟩ := hrel
            have K1r := Lib.hid (K1.out.keep HBr.out)
            have K2r := Lib.hid (K2.out.keep HBr.out)
            obtain ⟨c0, c1, c2, -, -, -⟩ := K1r.out.o3
            by_cases hlt : k < a.t.length
            · have hlt2 : k < b.t.length := by have := HLt.out; omega
              have hli : (k : Int) < (a.t.length : Int) := by omega
              have hle : a.t.length ≤ 9223372036854775807 := H1.out.t.le
              obtain ⟨ab, ao, au, e1, x0, x1, x2, xt⟩ := (H1.out.below HBr.out).t.at hlt
              obtain ⟨bb, bo, bu, e2, y0, y1, y2, yt⟩ := (H2.out.below HBr.out).t.at hlt2
              obtain ⟨A, eA⟩ : ∃ A, a.t[k] = A := ⟨_, rfl⟩
              obtain ⟨B, eB⟩ : ∃ B, b.t[k] = B := ⟨_, rfl⟩
              rw [eA] at x0 x1 xt
              rw [eB] at y0 y1 yt
              subst e1
              subst e2
              have XA0 := Lib.hid x0
              have XA1 := Lib.hid x1
              have XA2 := Lib.hid x2
              have XAT := Lib.hid xt
              have XB0 := Lib.hid y0
              have XB1 := Lib.hid y1
              have XB2 := Lib.hid y2
              have XBT := Lib.hid yt
              by_cases hAB : A.1 = B.1 ∧ A.2.1 = B.2.1 ∧ A.2.2 = B.2.2
              · have HQ : Hid (decide (A.1 = B.1 ∧ A.2.1 = B.2.1 ∧ A.2.2 = B.2.2) = true) := Lib.hid (by simpa using hAB)
                have HN : Hid (a.t.take (k + 1) = b.t.take (k + 1)) := Lib.hid (take_eq_succ hlt hlt2 HT.out (by rw [eA, eB]; exact Prod.ext hAB.1 (Prod.ext hAB.2.1 hAB.2.2)))
                clear x0 x1 x2 y0 y1 y2 xt yt eA eB hAB
                go_wp2_with fail
                clear c0 c1 c2
                have hGS : Grows (fun w' => Below wr.heap.size wr w') := Grows.below wr
                refine' wp_growL _ (fun w' => Below wr.heap.size wr w') [[], [0], [], [1, 2], [3], [], [5], [], [6, 7], [8], [4, 9], [10]] (Fact.lit _ :: Fact.lit _ :: Fact.lit _ :: Fact.lit _ :: Fact.lit _ :: Fact.lit _ :: Fact.lit _ :: Fact.lit _ :: Fact.lit _ :: Fact.lit _ :: Fact.lit _ :: Fact.lit _ :: []) (by kernel_rfl) rfl (by kernel_rfl) (Below.refl _ _).drew ?seqet
                case' seqet => skip
                iterate 10 ((first | (apply grow_skip; (case hf => rfl); (case hw => rfl)) | (apply grow_lit; (case hf => rfl); (case hw => rfl); (case hrun => (intro w' hS H; clear H; (obtain ⟨c0, c1, c2, -, -, -⟩ := (K1r.out.keep hS).o3); (obtain ⟨d0, d1, d2, -, -, -⟩ := (K2r.out.keep hS).o3); (have xa0 := keep hS XA0.out); (have xa1 := keep hS XA1.out); (have xa2 := keep hS XA2.out); (have xb0 := keep hS XB0.out); (have xb1 := keep hS XB1.out); (have xb2 := keep hS XB2.out); clear hS; go_simp; first | done | exact rfl)))); (case hc => (simp only [Act.put, List.setIfInBounds_toArray, List.set_cons_zero, List.set_cons_succ]; first | done | exact rfl)); (try (case hj => rfl)))
                (refine' grow_call (u := .bool true) rfl Tryd.func38 (by kernel_rfl) rfl hGS rfl ?wt1 ?run1 ?put1 ?next1; (case wt1 => rfl); (case run1 => (intro w' hS H; exact (rsame_any A.1 A.2.1 B.1 B.2.1 _ _ A.2.2 B.2.2 w' (XAT.out.below hS) (XBT.out.below hS)).mono (fun e w2 h => ⟨h.1.trans (by rw [HQ.out]), h.2⟩))); (case put1 => (simp only [Act.put, List.setIfInBounds_toArray, List.set_cons_zero, List.set_cons_succ]; first | done | exact rfl)); (case' next1 => skip))
                iterate 1 ((first | (apply grow_skip; (case hf => rfl); (case hw => rfl)) | (apply grow_lit; (case hf => rfl); (case hw => rfl); (case hrun => (intro w' hS H; clear H; (obtain ⟨c0, c1, c2, -, -, -⟩ := (K1r.out.keep hS).o3); (obtain ⟨d0, d1, d2, -, -, -⟩ := (K2r.out.keep hS).o3); (have xa0 := keep hS XA0.out); (have xa1 := keep hS XA1.out); (have xa2 := keep hS XA2.out); (have xb0 := keep hS XB0.out); (have xb1 := keep hS XB1.out); (have xb2 := keep hS XB2.out); clear hS; go_simp; first | done | exact rfl)))); (case hc => (simp only [Act.put, List.setIfInBounds_toArray, List.set_cons_zero, List.set_cons_succ]; first | done | exact rfl)); (try (case hj => rfl)))
                intro w1 hb _
                have HB1 := Lib.hid (HBr.out.trans (hb.mono HBr.out.size))
                clear hb hGS
                go_wp2_with fail
                go_roundw
                case rel => exact ⟨k + 1, by omega, by go_num, HN, HB1⟩
                case measure => simp [intOf]; omega
              · have HQ : Hid (decide (A.1 = B.1 ∧ A.2.1 = B.2.1 ∧ A.2.2 = B.2.2) = false) := Lib.hid (decide_eq_false hAB)
                have HR : Hid (sameN a b = false) := Lib.hid (decide_eq_false (fun ⟨e1, e2, e3⟩ => getElem_ne hlt hlt2 (by rw [eA, eB]; exact fun e => hAB ⟨congrArg (·.1) e, congrArg (·.2.1) e, congrArg (·.2.2) e⟩) e3))
                clear x0 x1 x2 y0 y1 y2 xt yt eA eB hAB
                go_wp2_with fail
                clear c0 c1 c2
                have hGS : Grows (fun w' => Below wr.heap.size wr w') := Grows.below wr
                refine' wp_growL _ (fun w' => Below wr.heap.size wr w') [[], [0], [], [1, 2], [3], [], [5], [], [6, 7], [8], [4, 9], [10]] (Fact.lit _ :: Fact.lit _ :: Fact.lit _ :: Fact.lit _ :: Fact.lit _ :: Fact.lit _ :: Fact.lit _ :: Fact.lit _ :: Fact.lit _ :: Fact.lit _ :: Fact.lit _ :: Fact.lit _ :: []) (by kernel_rfl) rfl (by kernel_rfl) (Below.refl _ _).drew ?seqnt
                case' seqnt => skip
                iterate 10 ((first | (apply grow_skip; (case hf => rfl); (case hw => rfl)) | (apply grow_lit; (case hf => rfl); (case hw => rfl); (case hrun => (intro w' hS H; clear H; (obtain ⟨c0, c1, c2, -, -, -⟩ := (K1r.out.keep hS).o3); (obtain ⟨d0, d1, d2, -, -, -⟩ := (K2r.out.keep hS).o3); (have xa0 := keep hS XA0.out); (have xa1 := keep hS XA1.out); (have xa2 := keep hS XA2.out); (have xb0 := keep hS XB0.out); (have xb1 := keep hS XB1.out); (have xb2 := keep hS XB2.out); clear hS; go_simp; first | done | exact rfl)))); (case hc => (simp only [Act.put, List.setIfInBounds_toArray, List.set_cons_zero, List.set_cons_succ]; first | done | exact rfl)); (try (case hj => rfl)))
                (refine' grow_call (u := .bool false) rfl Tryd.func38 (by kernel_rfl) rfl hGS rfl ?wt2 ?run2 ?put2 ?next2; (case wt2 => rfl); (case run2 => (intro w' hS H; exact (rsame_any A.1 A.2.1 B.1 B.2.1 _ _ A.2.2 B.2.2 w' (XAT.out.below hS) (XBT.out.below hS)).mono (fun e w2 h => ⟨h.1.trans (by rw [HQ.out]), h.2⟩))); (case put2 => (simp only [Act.put, List.setIfInBounds_toArray, List.set_cons_zero, List.set_cons_succ]; first | done | exact rfl)); (case' next2 => skip))
                iterate 1 ((first | (apply grow_skip; (case hf => rfl); (case hw => rfl)) | (apply grow_lit; (case hf => rfl); (case hw => rfl); (case hrun => (intro w' hS H; clear H; (obtain ⟨c0, c1, c2, -, -, -⟩ := (K1r.out.keep hS).o3); (obtain ⟨d0, d1, d2, -, -, -⟩ := (K2r.out.keep hS).o3); (have xa0 := keep hS XA0.out); (have xa1 := keep hS XA1.out); (have xa2 := keep hS XA2.out); (have xb0 := keep hS XB0.out); (have xb1 := keep hS XB1.out); (have xb2 := keep hS XB2.out); clear hS; go_simp; first | done | exact rfl)))); (case hc => (simp only [Act.put, List.setIfInBounds_toArray, List.set_cons_zero, List.set_cons_succ]; first | done | exact rfl)); (try (case hj => rfl)))
                intro w1 hb _
                have HB1 := Lib.hid (HBr.out.trans (hb.mono HBr.out.size))
                clear hb hGS
                go_wp2_with fail
                go_ret
                exact ⟨ret_bool HR.out.symm, B0.out.trans (HB1.out.mono B0.out.size)⟩
            · have HR : Hid (sameN a b = true) := Lib.hid (by
                obtain rfl : k = a.t.length := by omega
                exact decide_eq_true ⟨HEv.out, HEa.out, take_all HLt.out.symm HT.out⟩)
              have hli : ¬ (k : Int) < (a.t.length : Int) := by omega
              go_wp2_with fail
              go_ret
              exact ⟨ret_bool HR.out.symm, B0.out.trans (HBr.out.mono B0.out.size)⟩

theorem rsamenet_any (a b : NetD) (vq aq tq : Option Addr) (vc ac tc : Nat) (vq2 aq2 tq2 : Option Addr) (vc2 ac2 tc2 : Nat) (w : World) (h : NetS w a vq aq tq vc ac tc) (h2 : NetS w b vq2 aq2 tq2 vc2 ac2 tc2) : Calls Tryd.prog 12 #[netVal a vq aq tq vc ac tc, netVal b vq2 aq2 tq2 vc2 ac2 tc2] w fun e w' => e = .returned (.bool (sameN a b)) ∧ Below w.heap.size w w' := by
  by_cases hv : a.v.length = b.v.length
  · by_cases ha : a.a.length = b.a.length
    · by_cases ht : a.t.length = b.t.length
      · exact rsame_eq a b vq aq tq vc ac tc vq2 aq2 tq2 vc2 ac2 tc2 w h h2 hv ha ht
      · exact rsame_t a b vq aq tq vc ac tc vq2 aq2 tq2 vc2 ac2 tc2 w hv ha ht
    · exact rsame_a a b vq aq tq vc ac tc vq2 aq2 tq2 vc2 ac2 tc2 w hv ha
  · exact rsame_v a b vq aq tq vc ac tc vq2 aq2 tq2 vc2 ac2 tc2 w hv

end Go.Proofs.YtgehjkcjpbdoaaaDoor
