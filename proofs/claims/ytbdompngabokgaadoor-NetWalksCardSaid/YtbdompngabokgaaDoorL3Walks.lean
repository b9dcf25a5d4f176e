/-
  PROVED: of any net that may be, any row of numbers: whether it is a walk, and what it costs, as the document has them. For every net and row. Conditions: the listed library variable holds what the program's own text lays (the card ties it).
-/
import Derived.Test.YtbdompngabokgaaDoorKnown3
import Derived.Test.YtbdompngabokgaaDoorNetIn
import Derived.Test.YtbdompngabokgaaDoorLaid2
import Derived.Test.YtbdompngabokgaaDoorCards
import Derived.Test.YtbdompngabokgaaDoorTie
import Derived.SevenTiedAt
import Derived.Test.YtbdompngabokgaaDoorCopy0
import Derived.Test.YtbdompngabokgaaDoorIntsIn
namespace Go.Proofs.YtbdompngabokgaaDoor
open Go.ChangeShapes Go.WideShapes Go.ChangeAt Go.RowKit

set_option maxHeartbeats 8000000 in
set_option maxRecDepth 100000 in
theorem walks_no (v : Value) (n : NetD) (lq : Option Addr) (lc : Nat) (l : List Int) (w : World) (hg : ErrT w) (hv : NetV w v n) (hin : InNet n) (hm : mayN n = false) :
    Calls Tryd.prog 5 #[v, .slice lq l.length lc] w fun e w' => e = .returned (.bool true) ∧ Below w.heap.size w w' := by
  obtain ⟨vq, aq, tq, vc, ac, tc, rfl, -⟩ := hv.shape
  have HM := Lib.hid hm
  have HIN := Lib.hid hin
  clear hm hin
  go_enter Tryd.func5, Tryd.ntmps5
  go_wp2_with fail
  obtain ⟨W0, hW0⟩ := named (w.alloc (.cells #[.slice vq n.v.length vc, .slice aq n.a.length ac, .slice tq n.t.length tc] 26))
  rw [← hW0]
  have hc0 : Below w.heap.size w W0 := by rw [hW0]; exact below_alloc1 _
  have B0 := Lib.hid hc0
  have KA : Hid (Blk W0 (w.heap.size) #[.slice vq n.v.length vc, .slice aq n.a.length ac, .slice tq n.t.length tc] 26) := by rw [hW0]; exact Lib.hid (Blk.new _ _ _ _ rfl)
  have VA := Lib.hid (hv.below hc0)
  have HG := Lib.hid (hg.keep hc0)
  clear hc0 hW0 hv hg
  refine (known3_any _ HG.out).mono ?_
  rintro e w1 ⟨rfl, hb⟩
  obtain ⟨p0, p1, p2, -, -, -⟩ := (KA.out.keep hb).o3
  go_wp2_with fail
  clear p0 p1 p2
  have hd1 : Below W0.heap.size W0 w1 := hb
  have KA_ := Lib.hid (KA.out.keep hd1)
  have VA_ := Lib.hid (VA.out.below hd1)
  have HG_ := Lib.hid (HG.out.keep hd1)
  clear KA VA HG
  have KA := KA_
  have VA := VA_
  have HG := HG_
  clear KA_ VA_ HG_
  have B1 : Hid (Below w.heap.size w w1) := Lib.hid (B0.out.trans (hd1.mono B0.out.size))
  clear B0
  have B0 := B1
  clear B1
  clear hb hd1 
  refine (vmay VA.out HIN.out HM.out).mono ?_
  rintro e w2 ⟨rfl, hb⟩
  obtain ⟨p0, p1, p2, -, -, -⟩ := (KA.out.keep hb).o3
  go_wp2_with fail
  clear p0 p1 p2
  have hd2 : Below w1.heap.size w1 w2 := hb
  have KA_ := Lib.hid (KA.out.keep hd2)
  have VA_ := Lib.hid (VA.out.below hd2)
  have HG_ := Lib.hid (HG.out.keep hd2)
  clear KA VA HG
  have KA := KA_
  have VA := VA_
  have HG := HG_
  clear KA_ VA_ HG_
  have B1 : Hid (Below w.heap.size w w2) := Lib.hid (B0.out.trans (hd2.mono B0.out.size))
  clear B0
  have B0 := B1
  clear B1
  clear hb hd2 
  go_ret
  exact ⟨rfl, B0.out⟩

set_option maxHeartbeats 8000000 in
set_option maxRecDepth 100000 in
theorem walks_long (v : Value) (n : NetD) (lq : Option Addr) (lc : Nat) (l : List Int) (w : World) (hg : ErrT w) (hv : NetV w v n) (hin : InNet n) (hm : mayN n = true) (hl : 100 < l.length) :
    Calls Tryd.prog 5 #[v, .slice lq l.length lc] w fun e w' => e = .returned (.bool true) ∧ Below w.heap.size w w' := by
  obtain ⟨vq, aq, tq, vc, ac, tc, rfl, -⟩ := hv.shape
  have HM := Lib.hid hm
  have HIN := Lib.hid hin
  clear hm hin
  have hli : (100 : Int) < (l.length : Int) := by omega
  go_enter Tryd.func5, Tryd.ntmps5
  go_wp2_with fail
  obtain ⟨W0, hW0⟩ := named (w.alloc (.cells #[.slice vq n.v.length vc, .slice aq n.a.length ac, .slice tq n.t.length tc] 26))
  rw [← hW0]
  have hc0 : Below w.heap.size w W0 := by rw [hW0]; exact below_alloc1 _
  have B0 := Lib.hid hc0
  have KA : Hid (Blk W0 (w.heap.size) #[.slice vq n.v.length vc, .slice aq n.a.length ac, .slice tq n.t.length tc] 26) := by rw [hW0]; exact Lib.hid (Blk.new _ _ _ _ rfl)
  have VA := Lib.hid (hv.below hc0)
  have HG := Lib.hid (hg.keep hc0)
  clear hc0 hW0 hv hg
  refine (known3_any _ HG.out).mono ?_
  rintro e w1 ⟨rfl, hb⟩
  obtain ⟨p0, p1, p2, -, -, -⟩ := (KA.out.keep hb).o3
  go_wp2_with fail
  clear p0 p1 p2
  have hd1 : Below W0.heap.size W0 w1 := hb
  have KA_ := Lib.hid (KA.out.keep hd1)
  have VA_ := Lib.hid (VA.out.below hd1)
  have HG_ := Lib.hid (HG.out.keep hd1)
  clear KA VA HG
  have KA := KA_
  have VA := VA_
  have HG := HG_
  clear KA_ VA_ HG_
  have B1 : Hid (Below w.heap.size w w1) := Lib.hid (B0.out.trans (hd1.mono B0.out.size))
  clear B0
  have B0 := B1
  clear B1
  clear hb hd1 
  refine (vmay VA.out HIN.out HM.out).mono ?_
  rintro e w2 ⟨rfl, hb⟩
  obtain ⟨p0, p1, p2, -, -, -⟩ := (KA.out.keep hb).o3
  go_wp2_with fail
  clear p0 p1 p2
  have hd2 : Below w1.heap.size w1 w2 := hb
  have KA_ := Lib.hid (KA.out.keep hd2)
  have VA_ := Lib.hid (VA.out.below hd2)
  have HG_ := Lib.hid (HG.out.keep hd2)
  clear KA VA HG
  have KA := KA_
  have VA := VA_
  have HG := HG_
  clear KA_ VA_ HG_
  have B1 : Hid (Below w.heap.size w w2) := Lib.hid (B0.out.trans (hd2.mono B0.out.size))
  clear B0
  have B0 := B1
  clear B1
  clear hb hd2 
  go_ret
  exact ⟨rfl, B0.out⟩

set_option maxHeartbeats 8000000 in
set_option maxRecDepth 100000 in
theorem walks_yes (v : Value) (n : NetD) (lq : Option Addr) (lc : Nat) (l : List Int) (w : World) (hg : ErrT w) (hv : NetV w v n) (hin : InNet n) (hu : I64s w (.slice lq l.length lc) l) (hm : mayN n = true) (hl : l.length ≤ 100) :
    Calls Tryd.prog 5 #[v, .slice lq l.length lc] w fun e w' => e = .returned (.bool true) ∧ Below w.heap.size w w' := by
  obtain ⟨vq, aq, tq, vc, ac, tc, rfl, -⟩ := hv.shape
  have HM := Lib.hid hm
  obtain ⟨hf, hk, hgd⟩ := may_of hm
  have F1 := Lib.hid hf
  have OK := Lib.hid hk
  have GD := Lib.hid hgd
  have HIN := Lib.hid hin
  clear hm hin hf hk hgd
  have hli : ¬ (100 : Int) < (l.length : Int) := by omega
  have hlb : decide ((100 : Int) < (l.length : Int)) = false := decide_eq_false hli
  obtain ⟨BW, eB⟩ : ∃ B, n.walk l = B := ⟨_, rfl⟩
  have EB := Lib.hid eB
  obtain ⟨CW, eC⟩ : ∃ C, n.cost l = C := ⟨_, rfl⟩
  have EC := Lib.hid eC
  clear eB eC
  go_enter Tryd.func5, Tryd.ntmps5
  go_wp2_with fail
  obtain ⟨W0, hW0⟩ := named (w.alloc (.cells #[.slice vq n.v.length vc, .slice aq n.a.length ac, .slice tq n.t.length tc] 26))
  rw [← hW0]
  have hc0 : Below w.heap.size w W0 := by rw [hW0]; exact below_alloc1 _
  have B0 := Lib.hid hc0
  have KA : Hid (Blk W0 (w.heap.size) #[.slice vq n.v.length vc, .slice aq n.a.length ac, .slice tq n.t.length tc] 26) := by rw [hW0]; exact Lib.hid (Blk.new _ _ _ _ rfl)
  have VA := Lib.hid (hv.below hc0)
  have HG := Lib.hid (hg.keep hc0)
  have HL := Lib.hid (hu.below hc0)
  clear hc0 hW0 hv hg hu
  refine (known3_any _ HG.out).mono ?_
  rintro e w1 ⟨rfl, hb⟩
  obtain ⟨p0, p1, p2, -, -, -⟩ := (KA.out.keep hb).o3
  go_wp2_with fail
  clear p0 p1 p2
  have hd1 : Below W0.heap.size W0 w1 := hb
  have KA_ := Lib.hid (KA.out.keep hd1)
  have VA_ := Lib.hid (VA.out.below hd1)
  have HG_ := Lib.hid (HG.out.keep hd1)
  have HL_ := Lib.hid (HL.out.below hd1)
  clear KA VA HG HL
  have KA := KA_
  have VA := VA_
  have HG := HG_
  have HL := HL_
  clear KA_ VA_ HG_ HL_
  have B1 : Hid (Below w.heap.size w w1) := Lib.hid (B0.out.trans (hd1.mono B0.out.size))
  clear B0
  have B0 := B1
  clear B1
  clear hb hd1 
  refine (vmay VA.out HIN.out HM.out).mono ?_
  rintro e w2 ⟨rfl, hb⟩
  obtain ⟨p0, p1, p2, -, -, -⟩ := (KA.out.keep hb).o3
  go_wp2_with fail
  clear p0 p1 p2
  have hd2 : Below w1.heap.size w1 w2 := hb
  have KA_ := Lib.hid (KA.out.keep hd2)
  have VA_ := Lib.hid (VA.out.below hd2)
  have HG_ := Lib.hid (HG.out.keep hd2)
  have HL_ := Lib.hid (HL.out.below hd2)
  clear KA VA HG HL
  have KA := KA_
  have VA := VA_
  have HG := HG_
  have HL := HL_
  clear KA_ VA_ HG_ HL_
  have B1 : Hid (Below w.heap.size w w2) := Lib.hid (B0.out.trans (hd2.mono B0.out.size))
  clear B0
  have B0 := B1
  clear B1
  clear hb hd2 
  refine (vtoF VA.out F1.out).mono ?_
  rintro e w3 ⟨xv, rfl, hX, hb⟩
  obtain ⟨xq, xa, xt, xvc, xac, xtc, rfl, -⟩ := hX.shape
  go_wp2_with fail
  obtain ⟨W3, hW3⟩ := named (w3.alloc (.cells #[.slice xq n.v.length xvc, .slice xa n.a.length xac, .slice xt n.t.length xtc] 37))
  rw [← hW3]
  have hc3 : Below w3.heap.size w3 W3 := by rw [hW3]; exact below_alloc1 _
  have hd3 : Below w2.heap.size w2 W3 := hb.trans (hc3.mono hb.size)
  have KA_ := Lib.hid (KA.out.keep hd3)
  have VA_ := Lib.hid (VA.out.below hd3)
  have HG_ := Lib.hid (HG.out.keep hd3)
  have HL_ := Lib.hid (HL.out.below hd3)
  clear KA VA HG HL
  have KA := KA_
  have VA := VA_
  have HG := HG_
  have HL := HL_
  clear KA_ VA_ HG_ HL_
  have B1 : Hid (Below w.heap.size w W3) := Lib.hid (B0.out.trans (hd3.mono B0.out.size))
  clear B0
  have B0 := B1
  clear B1
  have KX : Hid (Blk W3 (w3.heap.size) #[.slice xq n.v.length xvc, .slice xa n.a.length xac, .slice xt n.t.length xtc] 37) := by rw [hW3]; exact Lib.hid (Blk.new _ _ _ _ rfl)
  have VX := Lib.hid (hX.below hc3)
  clear hb hX hd3 hc3 hW3 
  have hGS : Grows (fun w' => Below W3.heap.size W3 w') := Grows.below W3
  refine' wp_growL _ (fun w' => Below W3.heap.size W3 w') [[], [], [], [1, 2], [0, 3], [], [], [5, 6], [4, 7], [8], [9], [9], [9], [9, 11, 12], [9, 10, 13], [9], [9], [9, 15, 16], [9, 14, 17], [9, 18], [19]] (Fact.lit _ :: Fact.prop _ _ :: Fact.lit _ :: Fact.prop _ _ :: Fact.lit _ :: Fact.lit _ :: Fact.lit _ :: Fact.lit _ :: Fact.lit _ :: Fact.lit _ :: Fact.lit _ :: Fact.prop _ _ :: Fact.lit _ :: Fact.prop _ _ :: Fact.lit _ :: Fact.lit _ :: Fact.lit _ :: Fact.lit _ :: Fact.lit _ :: Fact.lit _ :: Fact.lit _ :: []) (by kernel_rfl) rfl (by kernel_rfl) (Below.refl _ _).drew ?seqsix
  case' seqsix => skip
  (first | (refine' grow_skip rfl ?wt888 ?put888 ?next888; (case wt888 => rfl)) | (refine' grow_lit rfl ?wt888 ?run888 ?put888 ?next888; (case wt888 => rfl); (case run888 => (intro w' hS H; clear H; (obtain ⟨a0, a1, a2, -, -, -⟩ := (KA.out.keep hS).o3); (obtain ⟨x0, x1, x2, -, -, -⟩ := (KX.out.keep hS).o3); clear hS; go_simp; first | done | exact rfl)))); (case put888 => (simp only [Act.put, List.setIfInBounds_toArray, List.set_cons_zero, List.set_cons_succ]; first | done | exact rfl)); (case' next888 => skip)
  (refine' grow_make (p := fun v w => EmptyLit v) (hp := fun v w w' h hb => h) hGS rfl ?wtwl1 ?runwl1 ?putwl1 ?nextwl1; (case wtwl1 => rfl); (case runwl1 => (intro w' hS H; clear H; refine ⟨.slice (some ⟨w'.heap.size, 0, none⟩) 0 0, w'.alloc (.cells #[] 3), ?_, ⟨_, rfl⟩, below_new _⟩; (clear hS; go_simp))); (case putwl1 => (intro v; simp only [Act.put, List.setIfInBounds_toArray, List.set_cons_zero, List.set_cons_succ]; first | done | exact rfl)); (case' nextwl1 => intro v1))
  (first | (refine' grow_skip rfl ?wt889 ?put889 ?next889; (case wt889 => rfl)) | (refine' grow_lit rfl ?wt889 ?run889 ?put889 ?next889; (case wt889 => rfl); (case run889 => (intro w' hS H; clear H; (obtain ⟨a0, a1, a2, -, -, -⟩ := (KA.out.keep hS).o3); (obtain ⟨x0, x1, x2, -, -, -⟩ := (KX.out.keep hS).o3); clear hS; go_simp; first | done | exact rfl)))); (case put889 => (simp only [Act.put, List.setIfInBounds_toArray, List.set_cons_zero, List.set_cons_succ]; first | done | exact rfl)); (case' next889 => skip)
  (refine' grow_append (p := fun v w => I64s w v l) (hp := fun v w w' h hb => h.below hb) _ _ 46 rfl hGS rfl ?wtwl3 ?runwl3 ?putwl3 ?nextwl3; (case wtwl3 => rfl); (case runwl3 => (intro w' hS H; (have h1 : EmptyLit v1 := H 1 (by decide)); clear H; (obtain ⟨g, rfl⟩ := h1); exact copy0 w' _ l (HL.out.below hS) (by omega) g)); (case putwl3 => (intro v; simp only [Act.put, List.setIfInBounds_toArray, List.set_cons_zero, List.set_cons_succ]; first | done | exact rfl)); (case' nextwl3 => intro v3))
  (refine' grow_call (u := .bool BW) rfl Tryd.func26 (by kernel_rfl) rfl hGS rfl ?wt901 ?run901 ?put901 ?next901; (case wt901 => rfl); (case run901 => (intro w' hS H; exact vwalk (VX.out.below hS) GD.out (l := l) (H 3 (by decide)) (by omega) EB.out)); (case put901 => (simp only [Act.put, List.setIfInBounds_toArray, List.set_cons_zero, List.set_cons_succ]; first | done | exact rfl)); (case' next901 => skip))
  (first | (refine' grow_skip rfl ?wt890 ?put890 ?next890; (case wt890 => rfl)) | (refine' grow_lit rfl ?wt890 ?run890 ?put890 ?next890; (case wt890 => rfl); (case run890 => (intro w' hS H; clear H; (obtain ⟨a0, a1, a2, -, -, -⟩ := (KA.out.keep hS).o3); (obtain ⟨x0, x1, x2, -, -, -⟩ := (KX.out.keep hS).o3); clear hS; go_simp; first | done | exact rfl)))); (case put890 => (simp only [Act.put, List.setIfInBounds_toArray, List.set_cons_zero, List.set_cons_succ]; first | done | exact rfl)); (case' next890 => skip)
  (first | (refine' grow_skip rfl ?wt891 ?put891 ?next891; (case wt891 => rfl)) | (refine' grow_lit rfl ?wt891 ?run891 ?put891 ?next891; (case wt891 => rfl); (case run891 => (intro w' hS H; clear H; (obtain ⟨a0, a1, a2, -, -, -⟩ := (KA.out.keep hS).o3); (obtain ⟨x0, x1, x2, -, -, -⟩ := (KX.out.keep hS).o3); clear hS; go_simp; first | done | exact rfl)))); (case put891 => (simp only [Act.put, List.setIfInBounds_toArray, List.set_cons_zero, List.set_cons_succ]; first | done | exact rfl)); (case' next891 => skip)
  (refine' grow_call (u := .bool BW) rfl Tryd.func27 (by kernel_rfl) rfl hGS rfl ?wt902 ?run902 ?put902 ?next902; (case wt902 => rfl); (case run902 => (intro w' hS H; exact rvwalk (VA.out.below hS) GD.out (l := l) (HL.out.below hS) (by omega) EB.out)); (case put902 => (simp only [Act.put, List.setIfInBounds_toArray, List.set_cons_zero, List.set_cons_succ]; first | done | exact rfl)); (case' next902 => skip))
  (first | (refine' grow_skip rfl ?wt892 ?put892 ?next892; (case wt892 => rfl)) | (refine' grow_lit rfl ?wt892 ?run892 ?put892 ?next892; (case wt892 => rfl); (case run892 => (intro w' hS H; clear H; (obtain ⟨a0, a1, a2, -, -, -⟩ := (KA.out.keep hS).o3); (obtain ⟨x0, x1, x2, -, -, -⟩ := (KX.out.keep hS).o3); clear hS; go_simp; first | done | exact rfl)))); (case put892 => (simp only [Act.put, List.setIfInBounds_toArray, List.set_cons_zero, List.set_cons_succ]; first | done | exact rfl)); (case' next892 => skip)
  (first | (refine' grow_skip rfl ?wt893 ?put893 ?next893; (case wt893 => rfl)) | (refine' grow_lit rfl ?wt893 ?run893 ?put893 ?next893; (case wt893 => rfl); (case run893 => (intro w' hS H; clear H; (obtain ⟨a0, a1, a2, -, -, -⟩ := (KA.out.keep hS).o3); (obtain ⟨x0, x1, x2, -, -, -⟩ := (KX.out.keep hS).o3); clear hS; go_simp; first | done | exact rfl)))); (case put893 => (simp only [Act.put, List.setIfInBounds_toArray, List.set_cons_zero, List.set_cons_succ]; first | done | exact rfl)); (case' next893 => skip)
  (first | (refine' grow_skip rfl ?wt894 ?put894 ?next894; (case wt894 => rfl)) | (refine' grow_lit rfl ?wt894 ?run894 ?put894 ?next894; (case wt894 => rfl); (case run894 => (intro w' hS H; clear H; (obtain ⟨a0, a1, a2, -, -, -⟩ := (KA.out.keep hS).o3); (obtain ⟨x0, x1, x2, -, -, -⟩ := (KX.out.keep hS).o3); clear hS; go_simp; first | done | exact rfl)))); (case put894 => (simp only [Act.put, List.setIfInBounds_toArray, List.set_cons_zero, List.set_cons_succ]; first | done | exact rfl)); (case' next894 => skip)
  (refine' grow_make (p := fun v w => EmptyLit v) (hp := fun v w w' h hb => h) hGS rfl ?wtwl11 ?runwl11 ?putwl11 ?nextwl11; (case wtwl11 => rfl); (case runwl11 => (intro w' hS H; clear H; refine ⟨.slice (some ⟨w'.heap.size, 0, none⟩) 0 0, w'.alloc (.cells #[] 3), ?_, ⟨_, rfl⟩, below_new _⟩; (clear hS; go_simp))); (case putwl11 => (intro v; simp only [Act.put, List.setIfInBounds_toArray, List.set_cons_zero, List.set_cons_succ]; first | done | exact rfl)); (case' nextwl11 => intro v11))
  (first | (refine' grow_skip rfl ?wt895 ?put895 ?next895; (case wt895 => rfl)) | (refine' grow_lit rfl ?wt895 ?run895 ?put895 ?next895; (case wt895 => rfl); (case run895 => (intro w' hS H; clear H; (obtain ⟨a0, a1, a2, -, -, -⟩ := (KA.out.keep hS).o3); (obtain ⟨x0, x1, x2, -, -, -⟩ := (KX.out.keep hS).o3); clear hS; go_simp; first | done | exact rfl)))); (case put895 => (simp only [Act.put, List.setIfInBounds_toArray, List.set_cons_zero, List.set_cons_succ]; first | done | exact rfl)); (case' next895 => skip)
  (refine' grow_append (p := fun v w => I64s w v l) (hp := fun v w w' h hb => h.below hb) _ _ 46 rfl hGS rfl ?wtwl13 ?runwl13 ?putwl13 ?nextwl13; (case wtwl13 => rfl); (case runwl13 => (intro w' hS H; (have h1 : EmptyLit v11 := H 11 (by decide)); clear H; (obtain ⟨g, rfl⟩ := h1); exact copy0 w' _ l (HL.out.below hS) (by omega) g)); (case putwl13 => (intro v; simp only [Act.put, List.setIfInBounds_toArray, List.set_cons_zero, List.set_cons_succ]; first | done | exact rfl)); (case' nextwl13 => intro v13))
  (refine' grow_call (u := .int .i64 CW) rfl Tryd.func28 (by kernel_rfl) rfl hGS rfl ?wt903 ?run903 ?put903 ?next903; (case wt903 => rfl); (case run903 => (intro w' hS H; exact vcost (VX.out.below hS) GD.out (l := l) (H 13 (by decide)) (by omega) EC.out)); (case put903 => (simp only [Act.put, List.setIfInBounds_toArray, List.set_cons_zero, List.set_cons_succ]; first | done | exact rfl)); (case' next903 => skip))
  (first | (refine' grow_skip rfl ?wt896 ?put896 ?next896; (case wt896 => rfl)) | (refine' grow_lit rfl ?wt896 ?run896 ?put896 ?next896; (case wt896 => rfl); (case run896 => (intro w' hS H; clear H; (obtain ⟨a0, a1, a2, -, -, -⟩ := (KA.out.keep hS).o3); (obtain ⟨x0, x1, x2, -, -, -⟩ := (KX.out.keep hS).o3); clear hS; go_simp; first | done | exact rfl)))); (case put896 => (simp only [Act.put, List.setIfInBounds_toArray, List.set_cons_zero, List.set_cons_succ]; first | done | exact rfl)); (case' next896 => skip)
  (first | (refine' grow_skip rfl ?wt897 ?put897 ?next897; (case wt897 => rfl)) | (refine' grow_lit rfl ?wt897 ?run897 ?put897 ?next897; (case wt897 => rfl); (case run897 => (intro w' hS H; clear H; (obtain ⟨a0, a1, a2, -, -, -⟩ := (KA.out.keep hS).o3); (obtain ⟨x0, x1, x2, -, -, -⟩ := (KX.out.keep hS).o3); clear hS; go_simp; first | done | exact rfl)))); (case put897 => (simp only [Act.put, List.setIfInBounds_toArray, List.set_cons_zero, List.set_cons_succ]; first | done | exact rfl)); (case' next897 => skip)
  (refine' grow_call (u := .int .i64 CW) rfl Tryd.func29 (by kernel_rfl) rfl hGS rfl ?wt904 ?run904 ?put904 ?next904; (case wt904 => rfl); (case run904 => (intro w' hS H; exact rvcost (VA.out.below hS) GD.out (l := l) (HL.out.below hS) (by omega) EC.out)); (case put904 => (simp only [Act.put, List.setIfInBounds_toArray, List.set_cons_zero, List.set_cons_succ]; first | done | exact rfl)); (case' next904 => skip))
  (first | (refine' grow_skip rfl ?wt898 ?put898 ?next898; (case wt898 => rfl)) | (refine' grow_lit rfl ?wt898 ?run898 ?put898 ?next898; (case wt898 => rfl); (case run898 => (intro w' hS H; clear H; (obtain ⟨a0, a1, a2, -, -, -⟩ := (KA.out.keep hS).o3); (obtain ⟨x0, x1, x2, -, -, -⟩ := (KX.out.keep hS).o3); clear hS; go_simp; first | done | exact rfl)))); (case put898 => (simp only [Act.put, List.setIfInBounds_toArray, List.set_cons_zero, List.set_cons_succ]; first | done | exact rfl)); (case' next898 => skip)
  (first | (refine' grow_skip rfl ?wt899 ?put899 ?next899; (case wt899 => rfl)) | (refine' grow_lit rfl ?wt899 ?run899 ?put899 ?next899; (case wt899 => rfl); (case run899 => (intro w' hS H; clear H; (obtain ⟨a0, a1, a2, -, -, -⟩ := (KA.out.keep hS).o3); (obtain ⟨x0, x1, x2, -, -, -⟩ := (KX.out.keep hS).o3); clear hS; go_simp; first | done | exact rfl)))); (case put899 => (simp only [Act.put, List.setIfInBounds_toArray, List.set_cons_zero, List.set_cons_succ]; first | done | exact rfl)); (case' next899 => skip)
  (first | (refine' grow_skip rfl ?wt900 ?put900 ?next900; (case wt900 => rfl)) | (refine' grow_lit rfl ?wt900 ?run900 ?put900 ?next900; (case wt900 => rfl); (case run900 => (intro w' hS H; clear H; (obtain ⟨a0, a1, a2, -, -, -⟩ := (KA.out.keep hS).o3); (obtain ⟨x0, x1, x2, -, -, -⟩ := (KX.out.keep hS).o3); clear hS; go_simp; first | done | exact rfl)))); (case put900 => (simp only [Act.put, List.setIfInBounds_toArray, List.set_cons_zero, List.set_cons_succ]; first | done | exact rfl)); (case' next900 => skip)
  intro w9 hb _
  have HF := Lib.hid (B0.out.trans (hb.mono B0.out.size))
  clear hb hGS
  go_wp2_with fail
  go_ret
  exact ⟨rfl, HF.out⟩

theorem walks_walk (v : Value) (n : NetD) (u : Value) (l : List Int) (w : World) (hg : ErrT w) (hv : NetV w v n) (hin : InNet n) (hu : I64s w u l) (_ : In64 l) :
    Calls Tryd.prog 5 #[v, u] w fun e w' => e = .returned (.bool true) ∧ Below w.heap.size w w' := by
  obtain ⟨lq, lc, rfl⟩ := hu.shape
  cases hm : mayN n with
  | false => exact walks_no v n lq lc l w hg hv hin hm
  | true =>
    by_cases hl : 100 < l.length
    · exact walks_long v n lq lc l w hg hv hin hm hl
    · exact walks_yes v n lq lc l w hg hv hin hu hm (by omega)

set_option maxRecDepth 100000 in
theorem netWalks_walks : Walks laidAll 5 Tryd.f5 := by
  intro H enc W args ds g
  obtain ⟨ps, hA⟩ := g.reads
  obtain ⟨base, hval⟩ := g.okay
  rw [Tryd.params5] at hA hval
  obtain ⟨v0, vs0, d0, ds0, p0, q0, hargs, rfl, rfl, h0, r0⟩ := trodAll_cons hA
  obtain ⟨v1, vs1, d1, ds1, p1, q1, rfl, rfl, rfl, h1, r1⟩ := trodAll_cons r0
  obtain ⟨rfl, rfl, rfl⟩ := trodAll_nil r1
  obtain rfl : args = #[v0, v1] := Array.toList_inj.1 hargs
  obtain ⟨n0, w0, u0⟩ := open_net (hval 0 26 v0 rfl rfl) h0
  obtain ⟨x1, w1, u1⟩ := open_intsIn (hval 1 46 v1 rfl rfl) h1
  exact walks_walk v0 n0 v1 x1 W (errT_of_laid g.laid) w0 u0 w1 u1

theorem netWalks_row : Rows.NetWalksSaid :=
  OpenClaim.holds_of_wide 5 Tryd.f5 rfl rfl rfl rfl rfl rfl rfl ⟨rfl, rfl, rfl, rfl, rfl⟩ rfl rfl rfl rfl rfl (by kernel_rfl) Tryd.func5 (by kernel_rfl)
    (of_decide_eq_true (by kernel_rfl)) (by unfold Func.isWrapper; rw [if_neg (of_decide_eq_false (by kernel_rfl))]; exact ⟨rfl, rfl⟩)
    (fun os started H enc _ => law_lifted (s := Rows.netWalksSpec) (L := laidAll) Tryd.func5 (by kernel_rfl) rfl (by kernel_rfl)
      (fun H ds hl => by
        rw [Tryd.params5] at hl
        match ds, hl with
        | [_, _], _ => exact ⟨rfl, rfl, rfl⟩)
      (by kernel_rfl) os started H enc
      (ChangeSpec.witness_at (enc := enc) (C := Tryd.checked) (os := os) (X := fun w _ => laidMetH Tryd.prog laidAll w) false (laidWorld os) #[.agg #[.slice none 0 0, .slice none 0 0, .slice none 0 0], .slice none 0 0] 8 rfl (by kernel_rfl) (by kernel_rfl) (by kernel_rfl) (by kernel_rfl) (by kernel_rfl) (laidWorld_met os _))
      netWalks_walks)

theorem netWalks_card : Rows.NetWalksCardSaid :=
  Claim7.holds_tied_plain_at .later [] laidKindsAll true (Rows.netWalksCard.stood.harness) true
    netWalks_row (fun _ h => by cases h) (by kernel_rfl) (fun _ h => by cases h) netWalks_row_tie rfl ⟨rfl, rfl⟩ (by kernel_rfl) rfl
    (fun f fn hf hfn => by
      obtain rfl : f = 5 := Option.some.inj ((show Tryd.prog.funcNamed "roundsman/roundsmanlaw3.NetWalks" = some 5 by kernel_rfl).symm.trans hf) |>.symm
      obtain rfl : fn = Tryd.f5 := (Option.some.inj (Tryd.func5.symm.trans hfn)).symm
      exact ⟨by kernel_rfl, fun j t ht => by
        rw [Tryd.params5] at ht
        exact stand_all #[26, 46] (by kernel_rfl) j t ht⟩)
    (by kernel_rfl)
#print axioms netWalks_card

end Go.Proofs.YtbdompngabokgaaDoor
