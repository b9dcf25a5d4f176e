/-
  PROVED: an arc, a turn that is changed and changed back leaves the net as it was; changed twice the second counts. For every net, arc, turn and two costs. Conditions: the listed library variable holds what the program's own text lays (the card ties it).
-/
import Derived.Test.YtccnplfkpkfgmaaDoorKnown6
import Derived.Test.YtccnplfkpkfgmaaDoorNetIn
import Derived.Test.YtccnplfkpkfgmaaDoorLaid2
import Derived.Test.YtccnplfkpkfgmaaDoorCards
import Derived.Test.YtccnplfkpkfgmaaDoorTie
import Derived.SevenTiedAt
namespace Go.Proofs.YtccnplfkpkfgmaaDoor
open Go.ChangeShapes Go.WideShapes Go.ChangeAt Go.RowKit
theorem setW_set {n : NetD} {k : Nat} (hk : k < n.a.length) (c d : Int) (hk' : k < (n.a.set k (n.a[k].1, n.a[k].2.1, c)).length) :
    (⟨n.v, (n.a.set k (n.a[k].1, n.a[k].2.1, c)).set k (((n.a.set k (n.a[k].1, n.a[k].2.1, c))[k]'hk').1, ((n.a.set k (n.a[k].1, n.a[k].2.1, c))[k]'hk').2.1, d), n.t⟩ : NetD) = ⟨n.v, n.a.set k (n.a[k].1, n.a[k].2.1, d), n.t⟩ := by simp
theorem setW_id {n : NetD} {k : Nat} (hk : k < n.a.length) : (⟨n.v, n.a.set k (n.a[k].1, n.a[k].2.1, n.a[k].2.2), n.t⟩ : NetD) = n := by
  have : n.a.set k n.a[k] = n.a := List.set_getElem_self hk
  show (⟨n.v, n.a.set k n.a[k], n.t⟩ : NetD) = n
  rw [this]
theorem setT_back {n : NetD} {k : Nat} (hk : k < n.t.length) {i j : Nat} {c d : Int} (hi : i < n.t[k].2.2.length) (hd : n.t[k].2.2[i] = d) (hk' : k < (n.t.set k (n.t[k].1, n.t[k].2.1, n.t[k].2.2.set i c)).length) (hj : j = i) :
    (⟨n.v, n.a, (n.t.set k (n.t[k].1, n.t[k].2.1, n.t[k].2.2.set i c)).set k (((n.t.set k (n.t[k].1, n.t[k].2.1, n.t[k].2.2.set i c))[k]'hk').1, ((n.t.set k (n.t[k].1, n.t[k].2.1, n.t[k].2.2.set i c))[k]'hk').2.1, ((n.t.set k (n.t[k].1, n.t[k].2.1, n.t[k].2.2.set i c))[k]'hk').2.2.set j d)⟩ : NetD) = n := by
  subst hj
  subst hd
  have h1 : n.t[k].2.2.set j n.t[k].2.2[j] = n.t[k].2.2 := List.set_getElem_self hi
  have h2 : n.t.set k n.t[k] = n.t := List.set_getElem_self hk
  simp only [List.getElem_set_self, List.set_set]
  rw [h1]
  show (⟨n.v, n.a, n.t.set k n.t[k]⟩ : NetD) = n
  rw [h2]

set_option maxHeartbeats 8000000 in
set_option maxRecDepth 100000 in
theorem gback_no (v : Value) (n : NetD) (a_ t_ p_ c d : Int) (w : World) (hg : ErrT w) (hv : NetV w v n) (hin : InNet n) (hm : mayN n = false) :
    Calls Tryd.prog 5 #[v, .int .u16 a_, .int .u16 t_, .int .u16 p_, .int .i64 c, .int .i64 d] w fun e w' => e = .returned (.bool true) ∧ Below w.heap.size w w' := by
  obtain ⟨vq, aq, tq, vc, ac, tc, rfl, -⟩ := hv.shape
  have HG := Lib.hid hg
  have HV := Lib.hid hv
  have HIN := Lib.hid hin
  have HM := Lib.hid hm
  clear hg hv hin hm
  go_enter Tryd.func5, Tryd.ntmps5
  go_wp2_with fail
  obtain ⟨W0, hW0⟩ := named (w.alloc (.cells #[.slice vq n.v.length vc, .slice aq n.a.length ac, .slice tq n.t.length tc] 26))
  rw [← hW0]
  have B0 : Hid (Below w.heap.size w W0) := by rw [hW0]; exact Lib.hid (below_new _)
  have KA : Hid (Blk W0 w.heap.size #[.slice vq n.v.length vc, .slice aq n.a.length ac, .slice tq n.t.length tc] 26) := by rw [hW0]; exact Lib.hid (Blk.new _ _ _ _ rfl)
  clear hW0
  refine (known6_any _ (HG.out.below HG.out.lt B0.out)).mono ?_
  rintro e w' ⟨rfl, hb⟩
  have KA_ := Lib.hid (KA.out.keep hb)
  have B_ := Lib.hid (bOn6 B0.out hb)
  clear KA
  have KA := KA_
  clear KA_
  clear B0
  have B0 := B_
  clear B_ hb 
  obtain ⟨ka0, ka1, ka2, -, -, -⟩ := KA.out.o3
  go_wp2_with fail
  clear ka0 ka1 ka2
  refine (vmay (HV.out.below B0.out) HIN.out HM.out).mono ?_
  rintro e w' ⟨rfl, hb⟩
  have KA_ := Lib.hid (KA.out.keep hb)
  have B_ := Lib.hid (bOn6 B0.out hb)
  clear KA
  have KA := KA_
  clear KA_
  clear B0
  have B0 := B_
  clear B_ hb 
  obtain ⟨ka0, ka1, ka2, -, -, -⟩ := KA.out.o3
  go_wp2_with fail
  clear ka0 ka1 ka2
  go_ret
  exact ⟨rfl, B0.out⟩

set_option maxHeartbeats 8000000 in
set_option maxRecDepth 100000 in
theorem gback_empty (v : Value) (n : NetD) (a_ t_ p_ c d : Int) (w : World) (hg : ErrT w) (hv : NetV w v n) (hin : InNet n) (hm : mayN n = true) (he : n.a.length = 0) :
    Calls Tryd.prog 5 #[v, .int .u16 a_, .int .u16 t_, .int .u16 p_, .int .i64 c, .int .i64 d] w fun e w' => e = .returned (.bool true) ∧ Below w.heap.size w w' := by
  obtain ⟨vq, aq, tq, vc, ac, tc, rfl, -⟩ := hv.shape
  have HG := Lib.hid hg
  have HV := Lib.hid hv
  have HIN := Lib.hid hin
  have HM := Lib.hid hm
  clear hg hv hin hm
  have HZ : Hid ((n.a.length : Int) = 0) := Lib.hid (by omega)
  clear he
  go_enter Tryd.func5, Tryd.ntmps5
  go_wp2_with fail
  obtain ⟨W0, hW0⟩ := named (w.alloc (.cells #[.slice vq n.v.length vc, .slice aq n.a.length ac, .slice tq n.t.length tc] 26))
  rw [← hW0]
  have B0 : Hid (Below w.heap.size w W0) := by rw [hW0]; exact Lib.hid (below_new _)
  have KA : Hid (Blk W0 w.heap.size #[.slice vq n.v.length vc, .slice aq n.a.length ac, .slice tq n.t.length tc] 26) := by rw [hW0]; exact Lib.hid (Blk.new _ _ _ _ rfl)
  clear hW0
  refine (known6_any _ (HG.out.below HG.out.lt B0.out)).mono ?_
  rintro e w' ⟨rfl, hb⟩
  have KA_ := Lib.hid (KA.out.keep hb)
  have B_ := Lib.hid (bOn6 B0.out hb)
  clear KA
  have KA := KA_
  clear KA_
  clear B0
  have B0 := B_
  clear B_ hb 
  obtain ⟨ka0, ka1, ka2, -, -, -⟩ := KA.out.o3
  go_wp2_with fail
  clear ka0 ka1 ka2
  refine (vmay (HV.out.below B0.out) HIN.out HM.out).mono ?_
  rintro e w' ⟨rfl, hb⟩
  have KA_ := Lib.hid (KA.out.keep hb)
  have B_ := Lib.hid (bOn6 B0.out hb)
  clear KA
  have KA := KA_
  clear KA_
  clear B0
  have B0 := B_
  clear B_ hb 
  have hz := HZ.out
  obtain ⟨ka0, ka1, ka2, -, -, -⟩ := KA.out.o3
  go_wp2_with fail
  clear ka0 ka1 ka2
  go_ret
  exact ⟨rfl, B0.out⟩

set_option maxHeartbeats 8000000 in
set_option maxRecDepth 100000 in
theorem gback_c (v : Value) (n : NetD) (a_ t_ p_ c d : Int) (w : World) (hg : ErrT w) (hv : NetV w v n) (hin : InNet n) (hc0 : -9223372036854775808 ≤ c ∧ c ≤ 9223372036854775807) (hm : mayN n = true) (he : ¬ n.a.length = 0) (hc : wgt c = false) :
    Calls Tryd.prog 5 #[v, .int .u16 a_, .int .u16 t_, .int .u16 p_, .int .i64 c, .int .i64 d] w fun e w' => e = .returned (.bool true) ∧ Below w.heap.size w w' := by
  obtain ⟨vq, aq, tq, vc, ac, tc, rfl, -⟩ := hv.shape
  have HG := Lib.hid hg
  have HV := Lib.hid hv
  have HIN := Lib.hid hin
  have HM := Lib.hid hm
  clear hg hv hin hm
  have hz : ¬ (n.a.length : Int) = 0 := by omega
  have HC0 := Lib.hid hc0
  have HC := Lib.hid hc
  clear hc0 hc
  go_enter Tryd.func5, Tryd.ntmps5
  go_wp2_with fail
  obtain ⟨W0, hW0⟩ := named (w.alloc (.cells #[.slice vq n.v.length vc, .slice aq n.a.length ac, .slice tq n.t.length tc] 26))
  rw [← hW0]
  have B0 : Hid (Below w.heap.size w W0) := by rw [hW0]; exact Lib.hid (below_new _)
  have KA : Hid (Blk W0 w.heap.size #[.slice vq n.v.length vc, .slice aq n.a.length ac, .slice tq n.t.length tc] 26) := by rw [hW0]; exact Lib.hid (Blk.new _ _ _ _ rfl)
  clear hW0
  refine (known6_any _ (HG.out.below HG.out.lt B0.out)).mono ?_
  rintro e w' ⟨rfl, hb⟩
  have KA_ := Lib.hid (KA.out.keep hb)
  have B_ := Lib.hid (bOn6 B0.out hb)
  clear KA
  have KA := KA_
  clear KA_
  clear B0
  have B0 := B_
  clear B_ hb 
  obtain ⟨ka0, ka1, ka2, -, -, -⟩ := KA.out.o3
  go_wp2_with fail
  clear ka0 ka1 ka2
  refine (vmay (HV.out.below B0.out) HIN.out HM.out).mono ?_
  rintro e w' ⟨rfl, hb⟩
  have KA_ := Lib.hid (KA.out.keep hb)
  have B_ := Lib.hid (bOn6 B0.out hb)
  clear KA
  have KA := KA_
  clear KA_
  clear B0
  have B0 := B_
  clear B_ hb 
  obtain ⟨ka0, ka1, ka2, -, -, -⟩ := KA.out.o3
  go_wp2_with fail
  clear ka0 ka1 ka2
  refine (rweight_is c false _ HC0.out.1 HC0.out.2 HC.out).mono ?_
  rintro e w' ⟨rfl, rfl⟩
  have hb := Below.refl w'.heap.size w'
  have KA_ := Lib.hid (KA.out.keep hb)
  have B_ := Lib.hid (bOn6 B0.out hb)
  clear KA
  have KA := KA_
  clear KA_
  clear B0
  have B0 := B_
  clear B_ hb 
  obtain ⟨ka0, ka1, ka2, -, -, -⟩ := KA.out.o3
  go_wp2_with fail
  clear ka0 ka1 ka2
  go_ret
  exact ⟨rfl, B0.out⟩

set_option maxHeartbeats 8000000 in
set_option maxRecDepth 100000 in
theorem gback_d (v : Value) (n : NetD) (a_ t_ p_ c d : Int) (w : World) (hg : ErrT w) (hv : NetV w v n) (hin : InNet n) (hc0 : -9223372036854775808 ≤ c ∧ c ≤ 9223372036854775807) (hd0 : -9223372036854775808 ≤ d ∧ d ≤ 9223372036854775807) (hm : mayN n = true) (he : ¬ n.a.length = 0) (hc : wgt c = true) (hd : wgt d = false) :
    Calls Tryd.prog 5 #[v, .int .u16 a_, .int .u16 t_, .int .u16 p_, .int .i64 c, .int .i64 d] w fun e w' => e = .returned (.bool true) ∧ Below w.heap.size w w' := by
  obtain ⟨vq, aq, tq, vc, ac, tc, rfl, -⟩ := hv.shape
  have HG := Lib.hid hg
  have HV := Lib.hid hv
  have HIN := Lib.hid hin
  have HM := Lib.hid hm
  clear hg hv hin hm
  have hz : ¬ (n.a.length : Int) = 0 := by omega
  have HC0 := Lib.hid hc0
  have HC := Lib.hid hc
  have HD0 := Lib.hid hd0
  have HD := Lib.hid hd
  clear hc0 hd0 hc hd
  go_enter Tryd.func5, Tryd.ntmps5
  go_wp2_with fail
  obtain ⟨W0, hW0⟩ := named (w.alloc (.cells #[.slice vq n.v.length vc, .slice aq n.a.length ac, .slice tq n.t.length tc] 26))
  rw [← hW0]
  have B0 : Hid (Below w.heap.size w W0) := by rw [hW0]; exact Lib.hid (below_new _)
  have KA : Hid (Blk W0 w.heap.size #[.slice vq n.v.length vc, .slice aq n.a.length ac, .slice tq n.t.length tc] 26) := by rw [hW0]; exact Lib.hid (Blk.new _ _ _ _ rfl)
  clear hW0
  refine (known6_any _ (HG.out.below HG.out.lt B0.out)).mono ?_
  rintro e w' ⟨rfl, hb⟩
  have KA_ := Lib.hid (KA.out.keep hb)
  have B_ := Lib.hid (bOn6 B0.out hb)
  clear KA
  have KA := KA_
  clear KA_
  clear B0
  have B0 := B_
  clear B_ hb 
  obtain ⟨ka0, ka1, ka2, -, -, -⟩ := KA.out.o3
  go_wp2_with fail
  clear ka0 ka1 ka2
  refine (vmay (HV.out.below B0.out) HIN.out HM.out).mono ?_
  rintro e w' ⟨rfl, hb⟩
  have KA_ := Lib.hid (KA.out.keep hb)
  have B_ := Lib.hid (bOn6 B0.out hb)
  clear KA
  have KA := KA_
  clear KA_
  clear B0
  have B0 := B_
  clear B_ hb 
  obtain ⟨ka0, ka1, ka2, -, -, -⟩ := KA.out.o3
  go_wp2_with fail
  clear ka0 ka1 ka2
  refine (rweight_is c true _ HC0.out.1 HC0.out.2 HC.out).mono ?_
  rintro e w' ⟨rfl, rfl⟩
  have hb := Below.refl w'.heap.size w'
  have KA_ := Lib.hid (KA.out.keep hb)
  have B_ := Lib.hid (bOn6 B0.out hb)
  clear KA
  have KA := KA_
  clear KA_
  clear B0
  have B0 := B_
  clear B_ hb 
  obtain ⟨ka0, ka1, ka2, -, -, -⟩ := KA.out.o3
  go_wp2_with fail
  clear ka0 ka1 ka2
  refine (rweight_is d false _ HD0.out.1 HD0.out.2 HD.out).mono ?_
  rintro e w' ⟨rfl, rfl⟩
  have hb := Below.refl w'.heap.size w'
  have KA_ := Lib.hid (KA.out.keep hb)
  have B_ := Lib.hid (bOn6 B0.out hb)
  clear KA
  have KA := KA_
  clear KA_
  clear B0
  have B0 := B_
  clear B_ hb 
  obtain ⟨ka0, ka1, ka2, -, -, -⟩ := KA.out.o3
  go_wp2_with fail
  clear ka0 ka1 ka2
  go_ret
  exact ⟨rfl, B0.out⟩
/-- The two changes of a turn, and back, in a region that draws its order. -/
structure GG.BackS (j l : Nat) (w0 W0 : World) (p : Nat) (va vt : Value) (n m : NetD) (dn : Nat → Bool) (s : Nat) (w : World) : Prop where
  k : Keep (Off [va, vt]) W0 w
  z : dn j = false → s = 0
  le : dn l = false → s ≤ 1
  g0 : s = 0 → Gr1 w0 w p n va vt
  g1 : s = 1 → Gr1 w0 w p m va vt
  g2 : 2 ≤ s → Gr1 w0 w p n va vt
  d2 : dn l = true → 2 ≤ s
def GG.RlN (s : Nat) (_ : World) (s' : Nat) (_ : World) : Prop := s ≤ s'
namespace GG.BackS
variable {j l : Nat} {w0 W0 w w' : World} {p : Nat} {va vt : Value} {n m : NetD} {dn : Nat → Bool} {s : Nat}
theorem start (h : Gr1 w0 W0 p n va vt) : GG.BackS j l w0 W0 p va vt n m (fun _ => false) 0 W0.drew :=
  ⟨Keep.of (Below.refl _ _).drew, fun _ => rfl, fun _ => Nat.zero_le _, fun _ => h.old (Below.refl _ _).drew, fun h => (by cases h), fun h => (by omega), fun h => (by cases h)⟩
theorem b (h : GG.BackS j l w0 W0 p va vt n m dn s w) : Below w0.heap.size w0 w := by
  rcases Nat.lt_or_ge s 2 with h2 | h2
  · rcases Nat.lt_or_ge s 1 with h1 | h1
    · exact (h.g0 (by omega)).b
    · exact (h.g1 (by omega)).b
  · exact (h.g2 h2).b
theorem a0 (h : GG.BackS j l w0 W0 p va vt n m dn s w) (hd : dn j = false) : Gr1 w0 w p n va vt := h.g0 (h.z hd)
theorem a1 (h : GG.BackS j l w0 W0 p va vt n m dn s w) (hs : 1 ≤ s) (hd : dn l = false) : Gr1 w0 w p m va vt := h.g1 (by have := h.le hd; omega)
theorem a2 (h : GG.BackS j l w0 W0 p va vt n m dn s w) (hd : dn l = true) : Gr1 w0 w p n va vt := h.g2 (h.d2 hd)
theorem step (h : GG.BackS j l w0 W0 p va vt n m dn s w) {i : Nat} (hj : j ≠ i) (hl : l ≠ i) : GG.BackS j l w0 W0 p va vt n m (GG.doneG dn i) s w := by
  have e1 : GG.doneG dn i j = dn j := if_neg hj
  have e2 : GG.doneG dn i l = dn l := if_neg hl
  exact ⟨h.k, fun h1 => h.z (by rw [← e1]; exact h1), fun h1 => h.le (by rw [← e2]; exact h1), h.g0, h.g1, h.g2, fun h1 => h.d2 (by rw [← e2]; exact h1)⟩
theorem still {i : Nat} (hj : j ≠ i) (hl : l ≠ i) : GG.Still (GG.BackS j l w0 W0 p va vt n m) GG.RlN i := ⟨fun _ _ _ h => h.step hj hl, fun _ _ => Nat.le_refl _⟩
theorem one (h : GG.BackS j l w0 W0 p va vt n m dn s w) (hlj : l ≠ j) (hd : dn j = false) (hg : Gr1 w0 w' p m va vt) (hk : Keep (Off [va, vt]) w w') : GG.BackS j l w0 W0 p va vt n m (GG.doneG dn j) 1 w' :=
  ⟨h.k.trans hk, fun e => (by rw [show GG.doneG dn j j = true from if_pos rfl] at e; cases e), fun _ => Nat.le_refl _, fun e => (by cases e), fun _ => hg, fun e => (by omega), fun e => (by
    rw [show GG.doneG dn j l = dn l from if_neg hlj] at e
    have h1 := h.d2 e
    have h2 := h.z hd
    omega)⟩
theorem two (h : GG.BackS j l w0 W0 p va vt n m dn s w) (hjl : j ≠ l) (hs : 1 ≤ s) (hg : Gr1 w0 w' p n va vt) (hk : Keep (Off [va, vt]) w w') : GG.BackS j l w0 W0 p va vt n m (GG.doneG dn l) 2 w' :=
  ⟨h.k.trans hk, fun e => (by rw [show GG.doneG dn l j = dn j from if_neg hjl] at e; have := h.z e; omega), fun e => (by rw [show GG.doneG dn l l = true from if_pos rfl] at e; cases e), fun e => (by cases e), fun e => (by cases e), fun _ => hg, fun _ => Nat.le_refl _⟩
end GG.BackS

set_option maxHeartbeats 8000000 in
set_option maxRecDepth 100000 in
theorem gback_zero (v : Value) (n : NetD) (a_ t_ p_ c d : Int) (w : World) (hg : ErrT w) (hv : NetV w v n) (hin : InNet n) (hc0 : -9223372036854775808 ≤ c ∧ c ≤ 9223372036854775807) (hd0 : -9223372036854775808 ≤ d ∧ d ≤ 9223372036854775807) (ka kt : Nat) (hm : mayN n = true) (hka : ka < n.a.length) (hkt : kt < n.t.length) (ha0 : 0 ≤ a_) (ha1 : a_ ≤ 65535) (hma : a_.tmod (n.a.length : Int) = ka) (ht0 : 0 ≤ t_) (ht1 : t_ ≤ 65535) (hmt : t_.tmod (n.t.length : Int) = kt) (hc : wgt c = true) (hd : wgt d = true) (hlz : n.t[kt].2.2.length = 0) :
    Calls Tryd.prog 5 #[v, .int .u16 a_, .int .u16 t_, .int .u16 p_, .int .i64 c, .int .i64 d] w fun e w' => e = .returned (.bool true) ∧ Below w.heap.size w w' := by
  obtain ⟨vq, aq, tq, vc, ac, tc, rfl, -⟩ := hv.shape
  obtain ⟨hf, hok, hgd⟩ := may_of hm
  have GN : Hid (GrN n) := Lib.hid ⟨hgd, hf, hin⟩
  have HOK := Lib.hid hok
  obtain ⟨ab, ao, rfl, -, -, x2⟩ := hv.s.a.at hka
  obtain ⟨tb, tof, tu, rfl, z0, z1, z2, hu⟩ := hv.s.t.at hkt
  obtain ⟨uq, uc, rfl⟩ := hu.shape
  obtain ⟨g0, g1, g2, g3, g4⟩ := hgd.arcs ka hka
  have hck := hgd.tabs kt hkt
  obtain ⟨q0, q1, q2, q3, hlen, hall⟩ := chkT_ok (I := n.t[kt].1) (O := n.t[kt].2.1) (l := n.t[kt].2.2) (by rw [hck])
  obtain ⟨AW, eAW⟩ : ∃ x, n.a[ka].2.2 = x := ⟨_, rfl⟩
  obtain ⟨T0, eT0⟩ : ∃ x, n.t[kt].1 = x := ⟨_, rfl⟩
  obtain ⟨T1, eT1⟩ : ∃ x, n.t[kt].2.1 = x := ⟨_, rfl⟩
  obtain ⟨LL, eLL⟩ : ∃ x, n.t[kt].2.2.length = x := ⟨_, rfl⟩
  rw [eAW] at x2 g4
  rw [eT0] at z0
  rw [eT1] at z1
  have HLP : Hid (¬ (0 : Int) < (LL : Int)) := Lib.hid (by omega)
  clear hlz
  rw [eLL] at z2
  have X2 := Lib.hid x2
  have Z0 := Lib.hid z0
  have Z1 := Lib.hid z1
  have Z2 := Lib.hid z2
  have EAW := Lib.hid eAW
  have HAW := Lib.hid g4
  have HC0 := Lib.hid hc0
  have HD0 := Lib.hid hd0
  have HC := Lib.hid hc
  have HD := Lib.hid hd
  have hz : ¬ (n.a.length : Int) = 0 := by omega
  have hz2 : ¬ (n.t.length : Int) = 0 := by omega
  have HKAI : Hid ((ka : Int) < (n.a.length : Int) ∧ (kt : Int) < (n.t.length : Int)) := Lib.hid ⟨by omega, by omega⟩
  clear x2 z0 z1 z2 hu g0 g1 g2 g3 g4 hck q0 q1 q2 q3 hlen hall eAW eT0 eT1 eLL hf hok hgd hc0 hd0 hc hd
  have HG := Lib.hid hg
  have HV := Lib.hid hv
  have HIN := Lib.hid hin
  have HM := Lib.hid hm
  clear hg hv hin hm
  go_enter Tryd.func5, Tryd.ntmps5
  go_wp2_with fail
  obtain ⟨W0, hW0⟩ := named (w.alloc (.cells #[.slice vq n.v.length vc, .slice (some ⟨ab, ao, none⟩) n.a.length ac, .slice (some ⟨tb, tof, none⟩) n.t.length tc] 26))
  rw [← hW0]
  have B0 : Hid (Below w.heap.size w W0) := by rw [hW0]; exact Lib.hid (below_new _)
  have KA : Hid (Blk W0 w.heap.size #[.slice vq n.v.length vc, .slice (some ⟨ab, ao, none⟩) n.a.length ac, .slice (some ⟨tb, tof, none⟩) n.t.length tc] 26) := by rw [hW0]; exact Lib.hid (Blk.new _ _ _ _ rfl)
  clear hW0
  refine (known6_any _ (HG.out.below HG.out.lt B0.out)).mono ?_
  rintro e w' ⟨rfl, hb⟩
  have KA_ := Lib.hid (KA.out.keep hb)
  have B_ := Lib.hid (bOn6 B0.out hb)
  clear KA
  have KA := KA_
  clear KA_
  clear B0
  have B0 := B_
  clear B_ hb 
  obtain ⟨ka0, ka1, ka2, -, -, -⟩ := KA.out.o3
  go_wp2_with fail
  clear ka0 ka1 ka2
  refine (vmay (HV.out.below B0.out) HIN.out HM.out).mono ?_
  rintro e w' ⟨rfl, hb⟩
  have KA_ := Lib.hid (KA.out.keep hb)
  have B_ := Lib.hid (bOn6 B0.out hb)
  clear KA
  have KA := KA_
  clear KA_
  clear B0
  have B0 := B_
  clear B_ hb 
  obtain ⟨ka0, ka1, ka2, -, -, -⟩ := KA.out.o3
  go_wp2_with fail
  next hnil => exact absurd (by simp [hnil]) hz
  clear ka0 ka1 ka2
  refine (rweight_is c true _ HC0.out.1 HC0.out.2 HC.out).mono ?_
  rintro e w' ⟨rfl, rfl⟩
  have hb := Below.refl w'.heap.size w'
  have KA_ := Lib.hid (KA.out.keep hb)
  have B_ := Lib.hid (bOn6 B0.out hb)
  clear KA
  have KA := KA_
  clear KA_
  clear B0
  have B0 := B_
  clear B_ hb 
  obtain ⟨ka0, ka1, ka2, -, -, -⟩ := KA.out.o3
  go_wp2_with fail
  clear ka0 ka1 ka2
  refine (rweight_is d true _ HD0.out.1 HD0.out.2 HD.out).mono ?_
  rintro e w' ⟨rfl, rfl⟩
  have hb := Below.refl w'.heap.size w'
  have KA_ := Lib.hid (KA.out.keep hb)
  have B_ := Lib.hid (bOn6 B0.out hb)
  clear KA
  have KA := KA_
  clear KA_
  clear B0
  have B0 := B_
  clear B_ hb 
  obtain ⟨hkai, hkti⟩ := HKAI.out
  obtain ⟨ka0, ka1, ka2, -, -, -⟩ := KA.out.o3
  go_wp2_with fail
  clear ka0 ka1 ka2
  refine (vtoF (HV.out.below B0.out) GN.out.few).mono ?_
  rintro e w' ⟨xv, rfl, hX, hb⟩
  have KA_ := Lib.hid (KA.out.keep hb)
  have B_ := Lib.hid (bOn6 B0.out hb)
  have VX := Lib.hid hX
  clear KA
  have KA := KA_
  clear KA_
  clear B0
  have B0 := B_
  clear B_ hb hX
  go_wp2_with fail
  refine (vNewG B0.out VX.out GN.out HOK.out).mono ?_
  rintro e w' ⟨p, va, vt, rfl, hG, hb⟩
  have KA_ := Lib.hid (KA.out.keep hb)
  have G := Lib.hid hG
  clear KA
  have KA := KA_
  clear KA_
  clear hb hG B0
  obtain ⟨ka0, ka1, ka2, -, -, -⟩ := KA.out.o3
  go_wp2_with fail
  clear ka0 ka1 ka2
  refine (vSetG (k := ka) (c := c) G.out hka HC.out rfl).mono ?_
  rintro e w' ⟨rfl, hG, hk⟩
  have KA_ := Lib.hid (G.out.blk hk KA.out (by decide) (by decide))
  clear G
  have G := Lib.hid hG
  clear KA
  have KA := KA_
  clear KA_
  clear hG hk
  go_wp2_with fail
  refine (vSetG (k := ka) (c := d) G.out (by simpa using hka) HD.out (setW_set hka c d (by simpa using hka))).mono ?_
  rintro e w' ⟨rfl, hG, hk⟩
  have KA_ := Lib.hid (G.out.blk hk KA.out (by decide) (by decide))
  clear G
  have G := Lib.hid hG
  clear KA
  have KA := KA_
  clear KA_
  clear hG hk
  go_wp2_with fail
  refine (vWeight (k := ka) G.out.g (by simpa using hka) (X := d) (by simp)).mono ?_
  rintro e w' ⟨rfl, hb⟩
  have KA_ := Lib.hid (KA.out.keep hb)
  have G_ := Lib.hid (G.out.old hb)
  clear KA
  have KA := KA_
  clear KA_
  clear G
  have G := G_
  clear G_ hb
  have x2 := keep G.out.b X2.out
  have hab := World.block_lt_of_cell? w' _ x2
  obtain ⟨ka0, ka1, ka2, -, -, -⟩ := KA.out.o3
  go_wp2_with fail
  clear ka0 ka1 ka2
  clear x2 hab
  refine (vSetG (m := n) (k := ka) (c := AW) G.out (by simpa using hka) HAW.out (by rw [← EAW.out]; exact (setW_set hka d _ (by simpa using hka)).trans (setW_id hka))).mono ?_
  rintro e w' ⟨rfl, hG, hk⟩
  have KA_ := Lib.hid (G.out.blk hk KA.out (by decide) (by decide))
  clear G
  have G := Lib.hid hG
  clear KA
  have KA := KA_
  clear KA_
  clear hG hk
  have hLp := HLP.out
  have z0 := keep G.out.b Z0.out
  have z1 := keep G.out.b Z1.out
  have z2 := keep G.out.b Z2.out
  have htb := World.block_lt_of_cell? w' _ z0
  obtain ⟨kz0, -, -, -, -, -⟩ := KA.out.o3
  have hkz := World.block_lt_of_cell? w' _ kz0
  clear kz0
  obtain ⟨ka0, ka1, ka2, -, -, -⟩ := KA.out.o3
  go_wp2_with fail
  clear ka0 ka1 ka2
  clear z0 z1 z2 htb hkz
  obtain ⟨W_, hW_⟩ := named (w'.alloc (.cells #[.int .i64 T0, .int .i64 T1, .slice uq LL uc] 77))
  rw [← hW_]
  have hb : Below w'.heap.size w' W_ := by rw [hW_]; exact below_new _
  have KA_ := Lib.hid (KA.out.keep hb)
  have G_ := Lib.hid (G.out.old hb)
  have KX : Hid (Blk W_ w'.heap.size #[.int .i64 T0, .int .i64 T1, .slice uq LL uc] 77) := by rw [hW_]; exact Lib.hid (Blk.new _ _ _ _ rfl)
  clear KA
  have KA := KA_
  clear KA_
  clear G
  have G := G_
  clear G_ hb hW_
  refine (same6_any G.out.g GN.out (HV.out.below G.out.b)).mono ?_
  rintro e w' ⟨rfl, hb⟩
  have KA_ := Lib.hid (KA.out.keep hb)
  have KX_ := Lib.hid (KX.out.keep hb)
  have G_ := Lib.hid (G.out.old hb)
  clear KA KX
  have KA := KA_
  have KX := KX_
  clear KA_ KX_
  clear G
  have G := G_
  clear G_ hb 
  go_wp2_with fail
  go_ret
  exact ⟨rfl, G.out.b⟩

set_option maxHeartbeats 8000000 in
set_option maxRecDepth 100000 in
theorem gback_full (v : Value) (n : NetD) (a_ t_ p_ c d : Int) (w : World) (hg : ErrT w) (hv : NetV w v n) (hin : InNet n) (hc0 : -9223372036854775808 ≤ c ∧ c ≤ 9223372036854775807) (hd0 : -9223372036854775808 ≤ d ∧ d ≤ 9223372036854775807) (ka kt : Nat) (hm : mayN n = true) (hka : ka < n.a.length) (hkt : kt < n.t.length) (ha0 : 0 ≤ a_) (ha1 : a_ ≤ 65535) (hma : a_.tmod (n.a.length : Int) = ka) (ht0 : 0 ≤ t_) (ht1 : t_ ≤ 65535) (hmt : t_.tmod (n.t.length : Int) = kt) (hp0 : 0 ≤ p_) (hp1 : p_ ≤ 65535) (hc : wgt c = true) (hd : wgt d = true) (kp : Nat) (hkp : kp < n.t[kt].2.2.length) (hmp : p_.tmod (n.t[kt].2.2.length : Int) = kp) :
    Calls Tryd.prog 5 #[v, .int .u16 a_, .int .u16 t_, .int .u16 p_, .int .i64 c, .int .i64 d] w fun e w' => e = .returned (.bool true) ∧ Below w.heap.size w w' := by
  obtain ⟨vq, aq, tq, vc, ac, tc, rfl, -⟩ := hv.shape
  obtain ⟨hf, hok, hgd⟩ := may_of hm
  have GN : Hid (GrN n) := Lib.hid ⟨hgd, hf, hin⟩
  have HOK := Lib.hid hok
  obtain ⟨ab, ao, rfl, -, -, x2⟩ := hv.s.a.at hka
  obtain ⟨tb, tof, tu, rfl, z0, z1, z2, hu⟩ := hv.s.t.at hkt
  obtain ⟨uq, uc, rfl⟩ := hu.shape
  obtain ⟨g0, g1, g2, g3, g4⟩ := hgd.arcs ka hka
  have hck := hgd.tabs kt hkt
  obtain ⟨q0, q1, q2, q3, hlen, hall⟩ := chkT_ok (I := n.t[kt].1) (O := n.t[kt].2.1) (l := n.t[kt].2.2) (by rw [hck])
  obtain ⟨AW, eAW⟩ : ∃ x, n.a[ka].2.2 = x := ⟨_, rfl⟩
  obtain ⟨T0, eT0⟩ : ∃ x, n.t[kt].1 = x := ⟨_, rfl⟩
  obtain ⟨T1, eT1⟩ : ∃ x, n.t[kt].2.1 = x := ⟨_, rfl⟩
  obtain ⟨LL, eLL⟩ : ∃ x, n.t[kt].2.2.length = x := ⟨_, rfl⟩
  rw [eAW] at x2 g4
  rw [eT0] at z0
  rw [eT1] at z1
  obtain ⟨X, eX⟩ : ∃ x, (kp : Int) / T1 = x := ⟨_, rfl⟩
  obtain ⟨Y, eY⟩ : ∃ x, (kp : Int) % T1 = x := ⟨_, rfl⟩
  have hT1 : 0 < T1 := by
    rcases Int.lt_or_le 0 T1 with h | h
    · exact h
    · exfalso
      rw [eT1] at hlen q2
      have : T1 = 0 := by omega
      rw [this, Int.mul_zero] at hlen
      omega
  have hY0 : 0 ≤ Y := by rw [← eY]; exact Int.emod_nonneg _ (by omega)
  have hY1 : Y < T1 := by rw [← eY]; exact Int.emod_lt_of_pos _ hT1
  have hXY : X * T1 + Y = kp := by rw [← eX, ← eY, Int.mul_comm]; exact Int.mul_ediv_add_emod _ _
  have hX0 : 0 ≤ X := by rw [← eX]; exact Int.ediv_nonneg (by omega) (by omega)
  have hX1 : X < T0 := by
    rw [← eX]
    refine Int.ediv_lt_of_lt_mul hT1 ?_
    rw [eT0, eT1] at hlen
    omega
  have hXs : X ≤ 16 := by omega
  have HXY : Hid (0 ≤ X ∧ X < n.t[kt].1 ∧ 0 ≤ Y ∧ Y < n.t[kt].2.1) := Lib.hid ⟨hX0, by omega, hY0, by omega⟩
  have hkn : (X * n.t[kt].2.1 + Y).toNat = kp := by rw [eT1, hXY]; rfl
  obtain ⟨CP, eCP⟩ : ∃ x, n.t[kt].2.2[kp] = x := ⟨_, rfl⟩
  have HI : Hid ((X * n.t[kt].2.1 + Y).toNat < n.t[kt].2.2.length ∧ ∀ h : (X * n.t[kt].2.1 + Y).toNat < n.t[kt].2.2.length, n.t[kt].2.2[(X * n.t[kt].2.1 + Y).toNat]'h = CP) := Lib.hid ⟨by omega, fun h => by simp only [hkn]; exact eCP⟩
  have HCP : Hid (wgt CP = true) := Lib.hid (by rw [← eCP]; exact (List.all_eq_true.1 hall) _ (List.getElem_mem hkp))
  obtain ⟨ub, uo, rfl, ucell⟩ := hu.at hkp
  rw [eCP] at ucell
  have UC := Lib.hid ucell
  rw [eLL] at hmp hkp
  have hq1 : (kp : Int).tdiv T1 = X := by rw [Int.tdiv_eq_ediv_of_nonneg (by omega)]; exact eX
  have hq2 : (kp : Int).tmod T1 = Y := by rw [Int.tmod_eq_emod_of_nonneg (by omega)]; exact eY
  have hq5 : IntKind.i64.wrap X = X := IntWalk.i64_in _ ⟨by omega, by omega⟩
  have hT1z : ¬ T1 = 0 := by omega
  have HLP : Hid (¬ (LL : Int) = 0 ∧ (0 : Int) < (LL : Int) ∧ (kp : Int) < (LL : Int)) := Lib.hid ⟨by omega, by omega, by omega⟩
  clear ucell hXY hY0 hY1 hX0 hX1 hXs hkn eCP
  rw [eLL] at z2
  have X2 := Lib.hid x2
  have Z0 := Lib.hid z0
  have Z1 := Lib.hid z1
  have Z2 := Lib.hid z2
  have EAW := Lib.hid eAW
  have HAW := Lib.hid g4
  have HC0 := Lib.hid hc0
  have HD0 := Lib.hid hd0
  have HC := Lib.hid hc
  have HD := Lib.hid hd
  have hz : ¬ (n.a.length : Int) = 0 := by omega
  have hz2 : ¬ (n.t.length : Int) = 0 := by omega
  have HKAI : Hid ((ka : Int) < (n.a.length : Int) ∧ (kt : Int) < (n.t.length : Int)) := Lib.hid ⟨by omega, by omega⟩
  clear x2 z0 z1 z2 hu g0 g1 g2 g3 g4 hck q0 q1 q2 q3 hlen hall eAW eT0 eT1 eLL hf hok hgd hc0 hd0 hc hd
  have HG := Lib.hid hg
  have HV := Lib.hid hv
  have HIN := Lib.hid hin
  have HM := Lib.hid hm
  clear hg hv hin hm
  go_enter Tryd.func5, Tryd.ntmps5
  go_wp2_with fail
  obtain ⟨W0, hW0⟩ := named (w.alloc (.cells #[.slice vq n.v.length vc, .slice (some ⟨ab, ao, none⟩) n.a.length ac, .slice (some ⟨tb, tof, none⟩) n.t.length tc] 26))
  rw [← hW0]
  have B0 : Hid (Below w.heap.size w W0) := by rw [hW0]; exact Lib.hid (below_new _)
  have KA : Hid (Blk W0 w.heap.size #[.slice vq n.v.length vc, .slice (some ⟨ab, ao, none⟩) n.a.length ac, .slice (some ⟨tb, tof, none⟩) n.t.length tc] 26) := by rw [hW0]; exact Lib.hid (Blk.new _ _ _ _ rfl)
  clear hW0
  refine (known6_any _ (HG.out.below HG.out.lt B0.out)).mono ?_
  rintro e w' ⟨rfl, hb⟩
  have KA_ := Lib.hid (KA.out.keep hb)
  have B_ := Lib.hid (bOn6 B0.out hb)
  clear KA
  have KA := KA_
  clear KA_
  clear B0
  have B0 := B_
  clear B_ hb 
  obtain ⟨ka0, ka1, ka2, -, -, -⟩ := KA.out.o3
  go_wp2_with fail
  clear ka0 ka1 ka2
  refine (vmay (HV.out.below B0.out) HIN.out HM.out).mono ?_
  rintro e w' ⟨rfl, hb⟩
  have KA_ := Lib.hid (KA.out.keep hb)
  have B_ := Lib.hid (bOn6 B0.out hb)
  clear KA
  have KA := KA_
  clear KA_
  clear B0
  have B0 := B_
  clear B_ hb 
  obtain ⟨ka0, ka1, ka2, -, -, -⟩ := KA.out.o3
  go_wp2_with fail
  next hnil => exact absurd (by simp [hnil]) hz
  clear ka0 ka1 ka2
  refine (rweight_is c true _ HC0.out.1 HC0.out.2 HC.out).mono ?_
  rintro e w' ⟨rfl, rfl⟩
  have hb := Below.refl w'.heap.size w'
  have KA_ := Lib.hid (KA.out.keep hb)
  have B_ := Lib.hid (bOn6 B0.out hb)
  clear KA
  have KA := KA_
  clear KA_
  clear B0
  have B0 := B_
  clear B_ hb 
  obtain ⟨ka0, ka1, ka2, -, -, -⟩ := KA.out.o3
  go_wp2_with fail
  clear ka0 ka1 ka2
  refine (rweight_is d true _ HD0.out.1 HD0.out.2 HD.out).mono ?_
  rintro e w' ⟨rfl, rfl⟩
  have hb := Below.refl w'.heap.size w'
  have KA_ := Lib.hid (KA.out.keep hb)
  have B_ := Lib.hid (bOn6 B0.out hb)
  clear KA
  have KA := KA_
  clear KA_
  clear B0
  have B0 := B_
  clear B_ hb 
  obtain ⟨hkai, hkti⟩ := HKAI.out
  obtain ⟨ka0, ka1, ka2, -, -, -⟩ := KA.out.o3
  go_wp2_with fail
  clear ka0 ka1 ka2
  refine (vtoF (HV.out.below B0.out) GN.out.few).mono ?_
  rintro e w' ⟨xv, rfl, hX, hb⟩
  have KA_ := Lib.hid (KA.out.keep hb)
  have B_ := Lib.hid (bOn6 B0.out hb)
  have VX := Lib.hid hX
  clear KA
  have KA := KA_
  clear KA_
  clear B0
  have B0 := B_
  clear B_ hb hX
  go_wp2_with fail
  refine (vNewG B0.out VX.out GN.out HOK.out).mono ?_
  rintro e w' ⟨p, va, vt, rfl, hG, hb⟩
  have KA_ := Lib.hid (KA.out.keep hb)
  have G := Lib.hid hG
  clear KA
  have KA := KA_
  clear KA_
  clear hb hG B0
  obtain ⟨ka0, ka1, ka2, -, -, -⟩ := KA.out.o3
  go_wp2_with fail
  clear ka0 ka1 ka2
  refine (vSetG (k := ka) (c := c) G.out hka HC.out rfl).mono ?_
  rintro e w' ⟨rfl, hG, hk⟩
  have KA_ := Lib.hid (G.out.blk hk KA.out (by decide) (by decide))
  clear G
  have G := Lib.hid hG
  clear KA
  have KA := KA_
  clear KA_
  clear hG hk
  go_wp2_with fail
  refine (vSetG (k := ka) (c := d) G.out (by simpa using hka) HD.out (setW_set hka c d (by simpa using hka))).mono ?_
  rintro e w' ⟨rfl, hG, hk⟩
  have KA_ := Lib.hid (G.out.blk hk KA.out (by decide) (by decide))
  clear G
  have G := Lib.hid hG
  clear KA
  have KA := KA_
  clear KA_
  clear hG hk
  go_wp2_with fail
  refine (vWeight (k := ka) G.out.g (by simpa using hka) (X := d) (by simp)).mono ?_
  rintro e w' ⟨rfl, hb⟩
  have KA_ := Lib.hid (KA.out.keep hb)
  have G_ := Lib.hid (G.out.old hb)
  clear KA
  have KA := KA_
  clear KA_
  clear G
  have G := G_
  clear G_ hb
  have x2 := keep G.out.b X2.out
  have hab := World.block_lt_of_cell? w' _ x2
  obtain ⟨ka0, ka1, ka2, -, -, -⟩ := KA.out.o3
  go_wp2_with fail
  clear ka0 ka1 ka2
  clear x2 hab
  refine (vSetG (m := n) (k := ka) (c := AW) G.out (by simpa using hka) HAW.out (by rw [← EAW.out]; exact (setW_set hka d _ (by simpa using hka)).trans (setW_id hka))).mono ?_
  rintro e w' ⟨rfl, hG, hk⟩
  have KA_ := Lib.hid (G.out.blk hk KA.out (by decide) (by decide))
  clear G
  have G := Lib.hid hG
  clear KA
  have KA := KA_
  clear KA_
  clear hG hk
  obtain ⟨hLz, hLp, hkpi⟩ := HLP.out
  have z0 := keep G.out.b Z0.out
  have z1 := keep G.out.b Z1.out
  have z2 := keep G.out.b Z2.out
  have htb := World.block_lt_of_cell? w' _ z0
  obtain ⟨ka0, ka1, ka2, -, -, -⟩ := KA.out.o3
  go_wp2_with fail
  clear ka0 ka1 ka2
  clear z0 z1 z2 htb
  obtain ⟨W_, hW_⟩ := named (w'.alloc (.cells #[.int .i64 T0, .int .i64 T1, .slice (some ⟨ub, uo, none⟩) LL uc] 77))
  rw [← hW_]
  have hb : Below w'.heap.size w' W_ := by rw [hW_]; exact below_new _
  have KA_ := Lib.hid (KA.out.keep hb)
  have G_ := Lib.hid (G.out.old hb)
  have KX : Hid (Blk W_ w'.heap.size #[.int .i64 T0, .int .i64 T1, .slice (some ⟨ub, uo, none⟩) LL uc] 77) := by rw [hW_]; exact Lib.hid (Blk.new _ _ _ _ rfl)
  clear KA
  have KA := KA_
  clear KA_
  clear G
  have G := G_
  clear G_ hb hW_
  have DS0 := Lib.hid (GG.BackS.start (j := 11) (l := 29) (m := ⟨n.v, n.a, n.t.set kt (n.t[kt].1, n.t[kt].2.1, n.t[kt].2.2.set (X * n.t[kt].2.1 + Y).toNat c)⟩) G.out)
  refine' GG.wp_growL _ (GG.BackS 11 29 w W_ p va vt n ⟨n.v, n.a, n.t.set kt (n.t[kt].1, n.t[kt].2.1, n.t[kt].2.2.set (X * n.t[kt].2.1 + Y).toNat c)⟩) [[], [], [], [], [3], [2, 3, 4], [], [], [7], [6, 7, 8], [], [0, 1, 2, 3, 4, 5, 6, 7, 8, 9, 10], [0, 1, 2, 3, 4, 5, 6, 7, 8, 9, 10, 11], [0, 1, 2, 3, 4, 5, 6, 7, 8, 9, 10, 11, 12], [0, 1, 2, 3, 4, 5, 6, 7, 8, 9, 10, 11, 12, 13], [0, 1, 2, 3, 4, 5, 6, 7, 8, 9, 10, 11, 12, 13], [0, 1, 2, 3, 4, 5, 6, 7, 8, 9, 10, 11, 12, 13], [0, 1, 2, 3, 4, 5, 6, 7, 8, 9, 10, 11, 12, 13], [0, 1, 2, 3, 4, 5, 6, 7, 8, 9, 10, 11, 12, 13, 17], [0, 1, 2, 3, 4, 5, 6, 7, 8, 9, 10, 11, 12, 13, 16, 17, 18], [0, 1, 2, 3, 4, 5, 6, 7, 8, 9, 10, 11, 12, 13], [0, 1, 2, 3, 4, 5, 6, 7, 8, 9, 10, 11, 12, 13], [0, 1, 2, 3, 4, 5, 6, 7, 8, 9, 10, 11, 12, 13, 21], [0, 1, 2, 3, 4, 5, 6, 7, 8, 9, 10, 11, 12, 13, 20, 21, 22], [0, 1, 2, 3, 4, 5, 6, 7, 8, 9, 10, 11, 12, 13], [0, 1, 2, 3, 4, 5, 6, 7, 8, 9, 10, 11, 12, 13, 24], [0, 1, 2, 3, 4, 5, 6, 7, 8, 9, 10, 11, 12, 13], [0, 1, 2, 3, 4, 5, 6, 7, 8, 9, 10, 11, 12, 13, 24, 25, 26], [0, 1, 2, 3, 4, 5, 6, 7, 8, 9, 10, 11, 12, 13, 24, 25, 26, 27], [0, 1, 2, 3, 4, 5, 6, 7, 8, 9, 10, 11, 12, 13, 14, 15, 16, 17, 18, 19, 20, 21, 22, 23, 24, 25, 26, 27, 28], [0, 1, 2, 3, 4, 5, 6, 7, 8, 9, 10, 11, 12, 13, 14, 15, 16, 17, 18, 19, 20, 21, 22, 23, 24, 25, 26, 27, 28, 29], [0, 1, 2, 3, 4, 5, 6, 7, 8, 9, 10, 11, 12, 13, 14, 15, 16, 17, 18, 19, 20, 21, 22, 23, 24, 25, 26, 27, 28, 29, 30]] (GG.Fact.lit (Rl := GG.RlN) _ :: GG.Fact.lit (Rl := GG.RlN) _ :: GG.Fact.lit (Rl := GG.RlN) _ :: GG.Fact.lit (Rl := GG.RlN) _ :: GG.Fact.lit (Rl := GG.RlN) _ :: GG.Fact.lit (Rl := GG.RlN) _ :: GG.Fact.lit (Rl := GG.RlN) _ :: GG.Fact.lit (Rl := GG.RlN) _ :: GG.Fact.lit (Rl := GG.RlN) _ :: GG.Fact.lit (Rl := GG.RlN) _ :: GG.Fact.lit (Rl := GG.RlN) _ :: GG.Fact.prop (Rl := GG.RlN) _ _ :: GG.Fact.lit (Rl := GG.RlN) _ :: GG.Fact.lit (Rl := GG.RlN) _ :: GG.Fact.lit (Rl := GG.RlN) _ :: GG.Fact.lit (Rl := GG.RlN) _ :: GG.Fact.lit (Rl := GG.RlN) _ :: GG.Fact.lit (Rl := GG.RlN) _ :: GG.Fact.lit (Rl := GG.RlN) _ :: GG.Fact.lit (Rl := GG.RlN) _ :: GG.Fact.lit (Rl := GG.RlN) _ :: GG.Fact.lit (Rl := GG.RlN) _ :: GG.Fact.lit (Rl := GG.RlN) _ :: GG.Fact.lit (Rl := GG.RlN) _ :: GG.Fact.lit (Rl := GG.RlN) _ :: GG.Fact.lit (Rl := GG.RlN) _ :: GG.Fact.lit (Rl := GG.RlN) _ :: GG.Fact.lit (Rl := GG.RlN) _ :: GG.Fact.lit (Rl := GG.RlN) _ :: GG.Fact.lit (Rl := GG.RlN) _ :: GG.Fact.lit (Rl := GG.RlN) _ :: GG.Fact.lit (Rl := GG.RlN) _ :: []) (by kernel_rfl) rfl (by kernel_rfl) (0) (DS0.out) ?seqbk
  case' seqbk => skip
  (refine' GG.grow_lit (GG.BackS.still (by decide) (by decide)) rfl ?wtbk0 ?runbk0 ?putbk0 ?nextbk0; (case wtbk0 => rfl); (case runbk0 => (intro w' hS; (obtain ⟨dn, s, hS⟩ := hS); (obtain ⟨x0, x1, x2, -, -, -⟩ := (G.out.blk hS.k KX.out (by decide) (by decide)).o3); (have uc := keep hS.b UC.out); clear hS; go_simp; first | done | exact rfl)); (case putbk0 => (first | (simp only [Act.put, List.setIfInBounds_toArray, List.set_cons_zero, List.set_cons_succ]; first | done | exact rfl) | rfl)); (case' nextbk0 => skip))
  (refine' GG.grow_lit (GG.BackS.still (by decide) (by decide)) rfl ?wtbk1 ?runbk1 ?putbk1 ?nextbk1; (case wtbk1 => rfl); (case runbk1 => (intro w' hS; (obtain ⟨dn, s, hS⟩ := hS); (obtain ⟨x0, x1, x2, -, -, -⟩ := (G.out.blk hS.k KX.out (by decide) (by decide)).o3); (have uc := keep hS.b UC.out); clear hS; go_simp; first | done | exact rfl)); (case putbk1 => (first | (simp only [Act.put, List.setIfInBounds_toArray, List.set_cons_zero, List.set_cons_succ]; first | done | exact rfl) | rfl)); (case' nextbk1 => skip))
  (refine' GG.grow_lit (GG.BackS.still (by decide) (by decide)) rfl ?wtbk2 ?runbk2 ?putbk2 ?nextbk2; (case wtbk2 => rfl); (case runbk2 => (intro w' hS; (obtain ⟨dn, s, hS⟩ := hS); (obtain ⟨x0, x1, x2, -, -, -⟩ := (G.out.blk hS.k KX.out (by decide) (by decide)).o3); (have uc := keep hS.b UC.out); clear hS; go_simp; first | done | exact rfl)); (case putbk2 => (first | (simp only [Act.put, List.setIfInBounds_toArray, List.set_cons_zero, List.set_cons_succ]; first | done | exact rfl) | rfl)); (case' nextbk2 => skip))
  (refine' GG.grow_lit (GG.BackS.still (by decide) (by decide)) rfl ?wtbk3 ?runbk3 ?putbk3 ?nextbk3; (case wtbk3 => rfl); (case runbk3 => (intro w' hS; (obtain ⟨dn, s, hS⟩ := hS); (obtain ⟨x0, x1, x2, -, -, -⟩ := (G.out.blk hS.k KX.out (by decide) (by decide)).o3); (have uc := keep hS.b UC.out); clear hS; go_simp; first | done | exact rfl)); (case putbk3 => (first | (simp only [Act.put, List.setIfInBounds_toArray, List.set_cons_zero, List.set_cons_succ]; first | done | exact rfl) | rfl)); (case' nextbk3 => skip))
  (refine' GG.grow_lit (GG.BackS.still (by decide) (by decide)) rfl ?wtbk4 ?runbk4 ?putbk4 ?nextbk4; (case wtbk4 => rfl); (case runbk4 => (intro w' hS; (obtain ⟨dn, s, hS⟩ := hS); (obtain ⟨x0, x1, x2, -, -, -⟩ := (G.out.blk hS.k KX.out (by decide) (by decide)).o3); (have uc := keep hS.b UC.out); clear hS; go_simp; first | done | exact rfl)); (case putbk4 => (first | (simp only [Act.put, List.setIfInBounds_toArray, List.set_cons_zero, List.set_cons_succ]; first | done | exact rfl) | rfl)); (case' nextbk4 => skip))
  (refine' GG.grow_lit (GG.BackS.still (by decide) (by decide)) rfl ?wtbk5 ?runbk5 ?putbk5 ?nextbk5; (case wtbk5 => rfl); (case runbk5 => (intro w' hS; (obtain ⟨dn, s, hS⟩ := hS); (obtain ⟨x0, x1, x2, -, -, -⟩ := (G.out.blk hS.k KX.out (by decide) (by decide)).o3); (have uc := keep hS.b UC.out); clear hS; go_simp; first | done | exact rfl)); (case putbk5 => (first | (simp only [Act.put, List.setIfInBounds_toArray, List.set_cons_zero, List.set_cons_succ]; first | done | exact rfl) | rfl)); (case' nextbk5 => skip))
  (refine' GG.grow_lit (GG.BackS.still (by decide) (by decide)) rfl ?wtbk6 ?runbk6 ?putbk6 ?nextbk6; (case wtbk6 => rfl); (case runbk6 => (intro w' hS; (obtain ⟨dn, s, hS⟩ := hS); (obtain ⟨x0, x1, x2, -, -, -⟩ := (G.out.blk hS.k KX.out (by decide) (by decide)).o3); (have uc := keep hS.b UC.out); clear hS; go_simp; first | done | exact rfl)); (case putbk6 => (first | (simp only [Act.put, List.setIfInBounds_toArray, List.set_cons_zero, List.set_cons_succ]; first | done | exact rfl) | rfl)); (case' nextbk6 => skip))
  (refine' GG.grow_lit (GG.BackS.still (by decide) (by decide)) rfl ?wtbk7 ?runbk7 ?putbk7 ?nextbk7; (case wtbk7 => rfl); (case runbk7 => (intro w' hS; (obtain ⟨dn, s, hS⟩ := hS); (obtain ⟨x0, x1, x2, -, -, -⟩ := (G.out.blk hS.k KX.out (by decide) (by decide)).o3); (have uc := keep hS.b UC.out); clear hS; go_simp; first | done | exact rfl)); (case putbk7 => (first | (simp only [Act.put, List.setIfInBounds_toArray, List.set_cons_zero, List.set_cons_succ]; first | done | exact rfl) | rfl)); (case' nextbk7 => skip))
  (refine' GG.grow_lit (GG.BackS.still (by decide) (by decide)) rfl ?wtbk8 ?runbk8 ?putbk8 ?nextbk8; (case wtbk8 => rfl); (case runbk8 => (intro w' hS; (obtain ⟨dn, s, hS⟩ := hS); (obtain ⟨x0, x1, x2, -, -, -⟩ := (G.out.blk hS.k KX.out (by decide) (by decide)).o3); (have uc := keep hS.b UC.out); clear hS; go_simp; first | done | exact rfl)); (case putbk8 => (first | (simp only [Act.put, List.setIfInBounds_toArray, List.set_cons_zero, List.set_cons_succ]; first | done | exact rfl) | rfl)); (case' nextbk8 => skip))
  (refine' GG.grow_lit (GG.BackS.still (by decide) (by decide)) rfl ?wtbk9 ?runbk9 ?putbk9 ?nextbk9; (case wtbk9 => rfl); (case runbk9 => (intro w' hS; (obtain ⟨dn, s, hS⟩ := hS); (obtain ⟨x0, x1, x2, -, -, -⟩ := (G.out.blk hS.k KX.out (by decide) (by decide)).o3); (have uc := keep hS.b UC.out); clear hS; go_simp; first | done | exact rfl)); (case putbk9 => (first | (simp only [Act.put, List.setIfInBounds_toArray, List.set_cons_zero, List.set_cons_succ]; first | done | exact rfl) | rfl)); (case' nextbk9 => skip))
  (refine' GG.grow_lit (GG.BackS.still (by decide) (by decide)) rfl ?wtbk10 ?runbk10 ?putbk10 ?nextbk10; (case wtbk10 => rfl); (case runbk10 => (intro w' hS; (obtain ⟨dn, s, hS⟩ := hS); (obtain ⟨x0, x1, x2, -, -, -⟩ := (G.out.blk hS.k KX.out (by decide) (by decide)).o3); (have uc := keep hS.b UC.out); clear hS; go_simp; first | done | exact rfl)); (case putbk10 => (first | (simp only [Act.put, List.setIfInBounds_toArray, List.set_cons_zero, List.set_cons_succ]; first | done | exact rfl) | rfl)); (case' nextbk10 => skip))
  (refine' GG.grow_any_call (p := fun v s _ => v = .nilIface ∧ 1 ≤ s) (hp := fun v s w s' w' h hb => ⟨h.1, Nat.le_trans h.2 hb⟩) rfl Tryd.func35 (by kernel_rfl) rfl rfl ?wtbk11 ?runbk11 ?putbk11 ?nextbk11; (case wtbk11 => rfl); (case runbk11 => (intro dn s w' hS hd H; exact (vBendG (k := kt) (x := X) (y := Y) (c := c) (hS.a0 hd) hkt HXY.out HC.out rfl).mono (fun e w2 ⟨h1, h2, h3⟩ => ⟨.nilIface, 1, h1, ⟨rfl, Nat.le_refl _⟩, hS.one (by decide) hd h2 h3, by rw [hS.z hd]; exact Nat.zero_le _, h3.size⟩))); (case putbk11 => (intro v; (simp only [Act.put, List.setIfInBounds_toArray, List.set_cons_zero, List.set_cons_succ]; first | done | exact rfl))); (case' nextbk11 => intro v11))
  (refine' GG.grow_write (u := .bool false) rfl ?wtbk12 ?runbk12 ?putbk12 ?nextbk12; (case wtbk12 => rfl); (case runbk12 => (intro dn s w' hS hd H; (have hv : v11 = .nilIface ∧ 1 ≤ s := H 11 (by decide)); (obtain ⟨rfl, -⟩ := hv); exact ⟨s, w', (by clear hS H hd; go_simp; first | done | exact rfl), hS.step (by decide) (by decide), Nat.le_refl _, Nat.le_refl _⟩)); (case putbk12 => (first | (simp only [Act.put, List.setIfInBounds_toArray, List.set_cons_zero, List.set_cons_succ]; first | done | exact rfl) | rfl)); (case' nextbk12 => skip))
  (refine' GG.grow_lit (GG.BackS.still (by decide) (by decide)) rfl ?wtbk13 ?runbk13 ?putbk13 ?nextbk13; (case wtbk13 => rfl); (case runbk13 => (intro w' hS; (obtain ⟨dn, s, hS⟩ := hS); (obtain ⟨x0, x1, x2, -, -, -⟩ := (G.out.blk hS.k KX.out (by decide) (by decide)).o3); (have uc := keep hS.b UC.out); clear hS; go_simp; first | done | exact rfl)); (case putbk13 => (first | (simp only [Act.put, List.setIfInBounds_toArray, List.set_cons_zero, List.set_cons_succ]; first | done | exact rfl) | rfl)); (case' nextbk13 => skip))
  (refine' GG.grow_lit (GG.BackS.still (by decide) (by decide)) rfl ?wtbk14 ?runbk14 ?putbk14 ?nextbk14; (case wtbk14 => rfl); (case runbk14 => (intro w' hS; (obtain ⟨dn, s, hS⟩ := hS); (obtain ⟨x0, x1, x2, -, -, -⟩ := (G.out.blk hS.k KX.out (by decide) (by decide)).o3); (have uc := keep hS.b UC.out); clear hS; go_simp; first | done | exact rfl)); (case putbk14 => (first | (simp only [Act.put, List.setIfInBounds_toArray, List.set_cons_zero, List.set_cons_succ]; first | done | exact rfl) | rfl)); (case' nextbk14 => skip))
  (refine' GG.grow_lit (GG.BackS.still (by decide) (by decide)) rfl ?wtbk15 ?runbk15 ?putbk15 ?nextbk15; (case wtbk15 => rfl); (case runbk15 => (intro w' hS; (obtain ⟨dn, s, hS⟩ := hS); (obtain ⟨x0, x1, x2, -, -, -⟩ := (G.out.blk hS.k KX.out (by decide) (by decide)).o3); (have uc := keep hS.b UC.out); clear hS; go_simp; first | done | exact rfl)); (case putbk15 => (first | (simp only [Act.put, List.setIfInBounds_toArray, List.set_cons_zero, List.set_cons_succ]; first | done | exact rfl) | rfl)); (case' nextbk15 => skip))
  (refine' GG.grow_lit (GG.BackS.still (by decide) (by decide)) rfl ?wtbk16 ?runbk16 ?putbk16 ?nextbk16; (case wtbk16 => rfl); (case runbk16 => (intro w' hS; (obtain ⟨dn, s, hS⟩ := hS); (obtain ⟨x0, x1, x2, -, -, -⟩ := (G.out.blk hS.k KX.out (by decide) (by decide)).o3); (have uc := keep hS.b UC.out); clear hS; go_simp; first | done | exact rfl)); (case putbk16 => (first | (simp only [Act.put, List.setIfInBounds_toArray, List.set_cons_zero, List.set_cons_succ]; first | done | exact rfl) | rfl)); (case' nextbk16 => skip))
  (refine' GG.grow_lit (GG.BackS.still (by decide) (by decide)) rfl ?wtbk17 ?runbk17 ?putbk17 ?nextbk17; (case wtbk17 => rfl); (case runbk17 => (intro w' hS; (obtain ⟨dn, s, hS⟩ := hS); (obtain ⟨x0, x1, x2, -, -, -⟩ := (G.out.blk hS.k KX.out (by decide) (by decide)).o3); (have uc := keep hS.b UC.out); clear hS; go_simp; first | done | exact rfl)); (case putbk17 => (first | (simp only [Act.put, List.setIfInBounds_toArray, List.set_cons_zero, List.set_cons_succ]; first | done | exact rfl) | rfl)); (case' nextbk17 => skip))
  (refine' GG.grow_lit (GG.BackS.still (by decide) (by decide)) rfl ?wtbk18 ?runbk18 ?putbk18 ?nextbk18; (case wtbk18 => rfl); (case runbk18 => (intro w' hS; (obtain ⟨dn, s, hS⟩ := hS); (obtain ⟨x0, x1, x2, -, -, -⟩ := (G.out.blk hS.k KX.out (by decide) (by decide)).o3); (have uc := keep hS.b UC.out); clear hS; go_simp; first | done | exact rfl)); (case putbk18 => (first | (simp only [Act.put, List.setIfInBounds_toArray, List.set_cons_zero, List.set_cons_succ]; first | done | exact rfl) | rfl)); (case' nextbk18 => skip))
  (refine' GG.grow_lit (GG.BackS.still (by decide) (by decide)) rfl ?wtbk19 ?runbk19 ?putbk19 ?nextbk19; (case wtbk19 => rfl); (case runbk19 => (intro w' hS; (obtain ⟨dn, s, hS⟩ := hS); (obtain ⟨x0, x1, x2, -, -, -⟩ := (G.out.blk hS.k KX.out (by decide) (by decide)).o3); (have uc := keep hS.b UC.out); clear hS; go_simp; first | done | exact rfl)); (case putbk19 => (first | (simp only [Act.put, List.setIfInBounds_toArray, List.set_cons_zero, List.set_cons_succ]; first | done | exact rfl) | rfl)); (case' nextbk19 => skip))
  (refine' GG.grow_lit (GG.BackS.still (by decide) (by decide)) rfl ?wtbk20 ?runbk20 ?putbk20 ?nextbk20; (case wtbk20 => rfl); (case runbk20 => (intro w' hS; (obtain ⟨dn, s, hS⟩ := hS); (obtain ⟨x0, x1, x2, -, -, -⟩ := (G.out.blk hS.k KX.out (by decide) (by decide)).o3); (have uc := keep hS.b UC.out); clear hS; go_simp; first | done | exact rfl)); (case putbk20 => (first | (simp only [Act.put, List.setIfInBounds_toArray, List.set_cons_zero, List.set_cons_succ]; first | done | exact rfl) | rfl)); (case' nextbk20 => skip))
  (refine' GG.grow_lit (GG.BackS.still (by decide) (by decide)) rfl ?wtbk21 ?runbk21 ?putbk21 ?nextbk21; (case wtbk21 => rfl); (case runbk21 => (intro w' hS; (obtain ⟨dn, s, hS⟩ := hS); (obtain ⟨x0, x1, x2, -, -, -⟩ := (G.out.blk hS.k KX.out (by decide) (by decide)).o3); (have uc := keep hS.b UC.out); clear hS; go_simp; first | done | exact rfl)); (case putbk21 => (first | (simp only [Act.put, List.setIfInBounds_toArray, List.set_cons_zero, List.set_cons_succ]; first | done | exact rfl) | rfl)); (case' nextbk21 => skip))
  (refine' GG.grow_lit (GG.BackS.still (by decide) (by decide)) rfl ?wtbk22 ?runbk22 ?putbk22 ?nextbk22; (case wtbk22 => rfl); (case runbk22 => (intro w' hS; (obtain ⟨dn, s, hS⟩ := hS); (obtain ⟨x0, x1, x2, -, -, -⟩ := (G.out.blk hS.k KX.out (by decide) (by decide)).o3); (have uc := keep hS.b UC.out); clear hS; go_simp; first | done | exact rfl)); (case putbk22 => (first | (simp only [Act.put, List.setIfInBounds_toArray, List.set_cons_zero, List.set_cons_succ]; first | done | exact rfl) | rfl)); (case' nextbk22 => skip))
  (refine' GG.grow_lit (GG.BackS.still (by decide) (by decide)) rfl ?wtbk23 ?runbk23 ?putbk23 ?nextbk23; (case wtbk23 => rfl); (case runbk23 => (intro w' hS; (obtain ⟨dn, s, hS⟩ := hS); (obtain ⟨x0, x1, x2, -, -, -⟩ := (G.out.blk hS.k KX.out (by decide) (by decide)).o3); (have uc := keep hS.b UC.out); clear hS; go_simp; first | done | exact rfl)); (case putbk23 => (first | (simp only [Act.put, List.setIfInBounds_toArray, List.set_cons_zero, List.set_cons_succ]; first | done | exact rfl) | rfl)); (case' nextbk23 => skip))
  (refine' GG.grow_lit (GG.BackS.still (by decide) (by decide)) rfl ?wtbk24 ?runbk24 ?putbk24 ?nextbk24; (case wtbk24 => rfl); (case runbk24 => (intro w' hS; (obtain ⟨dn, s, hS⟩ := hS); (obtain ⟨x0, x1, x2, -, -, -⟩ := (G.out.blk hS.k KX.out (by decide) (by decide)).o3); (have uc := keep hS.b UC.out); clear hS; go_simp; first | done | exact rfl)); (case putbk24 => (first | (simp only [Act.put, List.setIfInBounds_toArray, List.set_cons_zero, List.set_cons_succ]; first | done | exact rfl) | rfl)); (case' nextbk24 => skip))
  (refine' GG.grow_lit (GG.BackS.still (by decide) (by decide)) rfl ?wtbk25 ?runbk25 ?putbk25 ?nextbk25; (case wtbk25 => rfl); (case runbk25 => (intro w' hS; (obtain ⟨dn, s, hS⟩ := hS); (obtain ⟨x0, x1, x2, -, -, -⟩ := (G.out.blk hS.k KX.out (by decide) (by decide)).o3); (have uc := keep hS.b UC.out); clear hS; go_simp; first | done | exact rfl)); (case putbk25 => (first | (simp only [Act.put, List.setIfInBounds_toArray, List.set_cons_zero, List.set_cons_succ]; first | done | exact rfl) | rfl)); (case' nextbk25 => skip))
  (refine' GG.grow_lit (GG.BackS.still (by decide) (by decide)) rfl ?wtbk26 ?runbk26 ?putbk26 ?nextbk26; (case wtbk26 => rfl); (case runbk26 => (intro w' hS; (obtain ⟨dn, s, hS⟩ := hS); (obtain ⟨x0, x1, x2, -, -, -⟩ := (G.out.blk hS.k KX.out (by decide) (by decide)).o3); (have uc := keep hS.b UC.out); clear hS; go_simp; first | done | exact rfl)); (case putbk26 => (first | (simp only [Act.put, List.setIfInBounds_toArray, List.set_cons_zero, List.set_cons_succ]; first | done | exact rfl) | rfl)); (case' nextbk26 => skip))
  (refine' GG.grow_lit (GG.BackS.still (by decide) (by decide)) rfl ?wtbk27 ?runbk27 ?putbk27 ?nextbk27; (case wtbk27 => rfl); (case runbk27 => (intro w' hS; (obtain ⟨dn, s, hS⟩ := hS); (obtain ⟨x0, x1, x2, -, -, -⟩ := (G.out.blk hS.k KX.out (by decide) (by decide)).o3); (have uc := keep hS.b UC.out); clear hS; go_simp; first | done | exact rfl)); (case putbk27 => (first | (simp only [Act.put, List.setIfInBounds_toArray, List.set_cons_zero, List.set_cons_succ]; first | done | exact rfl) | rfl)); (case' nextbk27 => skip))
  (refine' GG.grow_lit (GG.BackS.still (by decide) (by decide)) rfl ?wtbk28 ?runbk28 ?putbk28 ?nextbk28; (case wtbk28 => rfl); (case runbk28 => (intro w' hS; (obtain ⟨dn, s, hS⟩ := hS); (obtain ⟨x0, x1, x2, -, -, -⟩ := (G.out.blk hS.k KX.out (by decide) (by decide)).o3); (have uc := keep hS.b UC.out); clear hS; go_simp; first | done | exact rfl)); (case putbk28 => (first | (simp only [Act.put, List.setIfInBounds_toArray, List.set_cons_zero, List.set_cons_succ]; first | done | exact rfl) | rfl)); (case' nextbk28 => skip))
  (refine' GG.grow_lit_call (u := .nilIface) rfl Tryd.func35 (by kernel_rfl) rfl rfl ?wtbk29 ?runbk29 ?putbk29 ?nextbk29; (case wtbk29 => rfl); (case runbk29 => (intro dn s w' hS hd H; (have hv : v11 = .nilIface ∧ 1 ≤ s := H 11 (by decide)); exact (vBendG (m := n) (k := kt) (x := X) (y := Y) (c := CP) (hS.a1 hv.2 hd) (by simpa using hkt) (by simpa using HXY.out) HCP.out (setT_back hkt HI.out.1 (HI.out.2 _) (by simpa using hkt) (by simp))).mono (fun e w2 ⟨h1, h2, h3⟩ => ⟨2, h1, hS.two (by decide) hv.2 h2 h3, by have := hS.le hd; show s ≤ 2; omega, h3.size⟩))); (case putbk29 => (first | (simp only [Act.put, List.setIfInBounds_toArray, List.set_cons_zero, List.set_cons_succ]; first | done | exact rfl) | rfl)); (case' nextbk29 => skip))
  (refine' GG.grow_lit (GG.BackS.still (by decide) (by decide)) rfl ?wtbk30 ?runbk30 ?putbk30 ?nextbk30; (case wtbk30 => rfl); (case runbk30 => (intro w' hS; (obtain ⟨dn, s, hS⟩ := hS); (obtain ⟨x0, x1, x2, -, -, -⟩ := (G.out.blk hS.k KX.out (by decide) (by decide)).o3); (have uc := keep hS.b UC.out); clear hS; go_simp; first | done | exact rfl)); (case putbk30 => (first | (simp only [Act.put, List.setIfInBounds_toArray, List.set_cons_zero, List.set_cons_succ]; first | done | exact rfl) | rfl)); (case' nextbk30 => skip))
  (refine' GG.grow_lit (GG.BackS.still (by decide) (by decide)) rfl ?wtbk31 ?runbk31 ?putbk31 ?nextbk31; (case wtbk31 => rfl); (case runbk31 => (intro w' hS; (obtain ⟨dn, s, hS⟩ := hS); (obtain ⟨x0, x1, x2, -, -, -⟩ := (G.out.blk hS.k KX.out (by decide) (by decide)).o3); (have uc := keep hS.b UC.out); clear hS; go_simp; first | done | exact rfl)); (case putbk31 => (first | (simp only [Act.put, List.setIfInBounds_toArray, List.set_cons_zero, List.set_cons_succ]; first | done | exact rfl) | rfl)); (case' nextbk31 => skip))
  intro dn s w' hS hdn _
  have hk := hS.k
  have G_ := Lib.hid (hS.a2 (hdn 29 (by decide)))
  have KA_ := Lib.hid (G.out.blk hk KA.out (by decide) (by decide))
  have KX_ := Lib.hid (G.out.blk hk KX.out (by decide) (by decide))
  clear G
  have G := G_
  clear KA KX
  have KA := KA_
  have KX := KX_
  clear KA_ KX_
  clear G_ hk hS hdn
  obtain ⟨ka0, ka1, ka2, -, -, -⟩ := KA.out.o3
  go_wp2_with fail
  clear ka0 ka1 ka2
  refine (same6_any G.out.g GN.out (HV.out.below G.out.b)).mono ?_
  rintro e w' ⟨rfl, hb⟩
  have KA_ := Lib.hid (KA.out.keep hb)
  have KX_ := Lib.hid (KX.out.keep hb)
  have G_ := Lib.hid (G.out.old hb)
  clear KA KX
  have KA := KA_
  have KX := KX_
  clear KA_ KX_
  clear G
  have G := G_
  clear G_ hb 
  go_wp2_with fail
  go_ret
  exact ⟨rfl, G.out.b⟩

theorem gback_walk (v : Value) (n : NetD) (a_ t_ p_ c d : Int) (w : World) (hg : ErrT w) (hv : NetV w v n) (hin : InNet n) (ha0 : 0 ≤ a_) (ha1 : a_ ≤ 65535) (ht0 : 0 ≤ t_) (ht1 : t_ ≤ 65535) (hp0 : 0 ≤ p_) (hp1 : p_ ≤ 65535) (c0 : -9223372036854775808 ≤ c) (c1 : c ≤ 9223372036854775807) (d0 : -9223372036854775808 ≤ d) (d1 : d ≤ 9223372036854775807) :
    Calls Tryd.prog 5 #[v, .int .u16 a_, .int .u16 t_, .int .u16 p_, .int .i64 c, .int .i64 d] w fun e w' => e = .returned (.bool true) ∧ Below w.heap.size w w' := by
  cases hm : mayN n with
  | false => exact gback_no v n a_ t_ p_ c d w hg hv hin hm
  | true =>
    by_cases he : n.a.length = 0
    · exact gback_empty v n a_ t_ p_ c d w hg hv hin hm he
    · cases hc : wgt c with
      | false => exact gback_c v n a_ t_ p_ c d w hg hv hin ⟨c0, c1⟩ hm he hc
      | true =>
        cases hd : wgt d with
        | false => exact gback_d v n a_ t_ p_ c d w hg hv hin ⟨c0, c1⟩ ⟨d0, d1⟩ hm he hc hd
        | true =>
          obtain ⟨-, -, hgd⟩ := may_of hm
          obtain ⟨g0, g1, -, -, -⟩ := hgd.arcs 0 (by omega)
          obtain ⟨-, -, v0, v1⟩ := hgd.verts (n.a[0]'(by omega)).1.toNat (by omega)
          have ht : 0 < n.t.length := by omega
          have ka0 : 0 ≤ a_.tmod (n.a.length : Int) := Int.tmod_nonneg _ ha0
          have ka1 : a_.tmod (n.a.length : Int) < (n.a.length : Int) := Int.tmod_lt_of_pos _ (by omega)
          obtain ⟨ka, hma⟩ : ∃ k : Nat, a_.tmod (n.a.length : Int) = k := ⟨(a_.tmod (n.a.length : Int)).toNat, by omega⟩
          have kt0 : 0 ≤ t_.tmod (n.t.length : Int) := Int.tmod_nonneg _ ht0
          have kt1 : t_.tmod (n.t.length : Int) < (n.t.length : Int) := Int.tmod_lt_of_pos _ (by omega)
          obtain ⟨kt, hmt⟩ : ∃ k : Nat, t_.tmod (n.t.length : Int) = k := ⟨(t_.tmod (n.t.length : Int)).toNat, by omega⟩
          have hkt : kt < n.t.length := by omega
          by_cases hl : n.t[kt].2.2.length = 0
          · exact gback_zero v n a_ t_ p_ c d w hg hv hin ⟨c0, c1⟩ ⟨d0, d1⟩ ka kt hm (by omega) hkt ha0 ha1 hma ht0 ht1 hmt hc hd hl
          · have kp0 : 0 ≤ p_.tmod (n.t[kt].2.2.length : Int) := Int.tmod_nonneg _ hp0
            have kp1 : p_.tmod (n.t[kt].2.2.length : Int) < (n.t[kt].2.2.length : Int) := Int.tmod_lt_of_pos _ (by omega)
            obtain ⟨kp, hmp⟩ : ∃ k : Nat, p_.tmod (n.t[kt].2.2.length : Int) = k := ⟨(p_.tmod (n.t[kt].2.2.length : Int)).toNat, by omega⟩
            exact gback_full v n a_ t_ p_ c d w hg hv hin ⟨c0, c1⟩ ⟨d0, d1⟩ ka kt hm (by omega) hkt ha0 ha1 hma ht0 ht1 hmt hp0 hp1 hc hd kp (by omega) hmp

set_option maxRecDepth 100000 in
theorem graphBack_walks : Walks laidAll 5 Tryd.f5 := by
  intro H enc W args ds g
  obtain ⟨ps, hA⟩ := g.reads
  obtain ⟨base, hval⟩ := g.okay
  rw [Tryd.params5] at hA hval
  obtain ⟨v0, vs0, d0, ds0, p0, q0, hargs, rfl, rfl, h0, r0⟩ := trodAll_cons hA
  obtain ⟨v1, vs1, d1, ds1, p1, q1, rfl, rfl, rfl, h1, r1⟩ := trodAll_cons r0
  obtain ⟨v2, vs2, d2, ds2, p2, q2, rfl, rfl, rfl, h2, r2⟩ := trodAll_cons r1
  obtain ⟨v3, vs3, d3, ds3, p3, q3, rfl, rfl, rfl, h3, r3⟩ := trodAll_cons r2
  obtain ⟨v4, vs4, d4, ds4, p4, q4, rfl, rfl, rfl, h4, r4⟩ := trodAll_cons r3
  obtain ⟨v5, vs5, d5, ds5, p5, q5, rfl, rfl, rfl, h5, r5⟩ := trodAll_cons r4
  obtain ⟨rfl, rfl, rfl⟩ := trodAll_nil r5
  obtain rfl : args = #[v0, v1, v2, v3, v4, v5] := Array.toList_inj.1 hargs
  obtain ⟨n0, w0, u0⟩ := open_net (hval 0 26 v0 rfl rfl) h0
  obtain ⟨x1, rfl, rfl, rfl, w1⟩ := open_int Tryd.underlying72 (hval 1 72 v1 rfl rfl) h1
  obtain ⟨x2, rfl, rfl, rfl, w2⟩ := open_int Tryd.underlying72 (hval 2 72 v2 rfl rfl) h2
  obtain ⟨x3, rfl, rfl, rfl, w3⟩ := open_int Tryd.underlying72 (hval 3 72 v3 rfl rfl) h3
  obtain ⟨x4, rfl, rfl, rfl, w4⟩ := open_int Tryd.underlying2 (hval 4 2 v4 rfl rfl) h4
  obtain ⟨x5, rfl, rfl, rfl, w5⟩ := open_int Tryd.underlying2 (hval 5 2 v5 rfl rfl) h5
  exact gback_walk v0 n0 x1 x2 x3 x4 x5 W (errT_of_laid g.laid) w0 u0 (wfu16 w1).1 (wfu16 w1).2 (wfu16 w2).1 (wfu16 w2).2 (wfu16 w3).1 (wfu16 w3).2 (wf64 w4).1 (wf64 w4).2 (wf64 w5).1 (wf64 w5).2

theorem graphBack_row : Rows.GraphBackSaid :=
  OpenClaim.holds_of_wide 5 Tryd.f5 rfl rfl rfl rfl rfl rfl rfl ⟨rfl, rfl, rfl, rfl, rfl⟩ rfl rfl rfl rfl rfl (by kernel_rfl) Tryd.func5 (by kernel_rfl)
    (of_decide_eq_true (by kernel_rfl)) (by unfold Func.isWrapper; rw [if_neg (of_decide_eq_false (by kernel_rfl))]; exact ⟨rfl, rfl⟩)
    (fun os started H enc _ => law_lifted (s := Rows.graphBackSpec) (L := laidAll) Tryd.func5 (by kernel_rfl) rfl (by kernel_rfl)
      (fun H ds hl => by
        rw [Tryd.params5] at hl
        match ds, hl with
        | [_, _, _, _, _, _], _ => exact ⟨rfl, rfl, rfl⟩)
      (by kernel_rfl) os started H enc
      (ChangeSpec.witness_at (enc := enc) (C := Tryd.checked) (os := os) (X := fun w _ => laidMetH Tryd.prog laidAll w) false (laidWorld os) #[.agg #[.slice none 0 0, .slice none 0 0, .slice none 0 0], .int .u16 0, .int .u16 0, .int .u16 0, .int .i64 0, .int .i64 0] 8 rfl (by kernel_rfl) (by kernel_rfl) (by kernel_rfl) (by kernel_rfl) (by kernel_rfl) (laidWorld_met os _))
      graphBack_walks)

theorem graphBack_card : Rows.GraphBackCardSaid :=
  Claim7.holds_tied_plain_at .later [] laidKindsAll true (Rows.graphBackCard.stood.harness) true
    graphBack_row (fun _ h => by cases h) (by kernel_rfl) (fun _ h => by cases h) graphBack_row_tie rfl ⟨rfl, rfl⟩ (by kernel_rfl) rfl
    (fun f fn hf hfn => by
      obtain rfl : f = 5 := Option.some.inj ((show Tryd.prog.funcNamed "roundsman/roundsmanlaw6.GraphBack" = some 5 by kernel_rfl).symm.trans hf) |>.symm
      obtain rfl : fn = Tryd.f5 := (Option.some.inj (Tryd.func5.symm.trans hfn)).symm
      exact ⟨by kernel_rfl, fun j t ht => by
        rw [Tryd.params5] at ht
        exact stand_all #[26, 72, 72, 72, 2, 2] (by kernel_rfl) j t ht⟩)
    (by kernel_rfl)
#print axioms graphBack_card

end Go.Proofs.YtccnplfkpkfgmaaDoor
