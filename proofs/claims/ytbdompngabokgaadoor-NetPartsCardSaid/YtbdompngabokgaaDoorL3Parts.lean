/-
  PROVED: a walk that is parted at one of its arcs is two walks, and costs what both do; what is no walk has a part that is none. For every net, row and place. Conditions: the listed library variable holds what the program's own text lays (the card ties it).
-/
import Derived.Test.YtbdompngabokgaaDoorKnown3
import Derived.Test.YtbdompngabokgaaDoorNetIn
import Derived.Test.YtbdompngabokgaaDoorLaid2
import Derived.Test.YtbdompngabokgaaDoorCards
import Derived.Test.YtbdompngabokgaaDoorTie
import Derived.SevenTiedAt
import Derived.Test.YtbdompngabokgaaDoorCopy0
import Derived.Test.YtbdompngabokgaaDoorIntsIn
import Derived.Test.YtbdompngabokgaaDoorA1
namespace Go.Proofs.YtbdompngabokgaaDoor
open Go.ChangeShapes Go.WideShapes Go.ChangeAt Go.RowKit

set_option maxHeartbeats 8000000 in
set_option maxRecDepth 100000 in
theorem parts_no (v : Value) (n : NetD) (lq : Option Addr) (lc : Nat) (l : List Int) (at_ : Int) (w : World) (hg : ErrT w) (hv : NetV w v n) (hin : InNet n) (hm : mayN n = false) :
    Calls Tryd.prog 7 #[v, .slice lq l.length lc, .int .u8 at_] w fun e w' => e = .returned (.bool true) ∧ Below w.heap.size w w' := by
  obtain ⟨vq, aq, tq, vc, ac, tc, rfl, -⟩ := hv.shape
  have HM := Lib.hid hm
  have HIN := Lib.hid hin
  clear hm hin
  go_enter Tryd.func7, Tryd.ntmps7
  go_wp2_with fail
  obtain ⟨W0, hW0⟩ := named (w.alloc (.cells #[.slice vq n.v.length vc, .slice aq n.a.length ac, .slice tq n.t.length tc] 26))
  rw [← hW0]
  have hc0 : Below w.heap.size w W0 := by rw [hW0]; exact below_alloc1 _
  have B0 := Lib.hid hc0
  have KA : Hid (Blk W0 (w.heap.size) #[.slice vq n.v.length vc, .slice aq n.a.length ac, .slice tq n.t.length tc] 26) := by rw [hW0]; exact Lib.hid (Blk.new _ _ _ _ rfl)
  have VA := Lib.hid (hv.below hc0)
  have HG := Lib.hid (hg.keep hc0)
  clear hc0 hW0 hv hg
  refine (known3_any _ HG.out).mono ?_
  rintro e w1 ⟨rfl, hb⟩
  obtain ⟨p0, p1, p2, -, -, -⟩ := (KA.out.keep hb).o3
  go_wp2_with fail
  clear p0 p1 p2
  have hd1 : Below W0.heap.size W0 w1 := hb
  have KA_ := Lib.hid (KA.out.keep hd1)
  have VA_ := Lib.hid (VA.out.below hd1)
  have HG_ := Lib.hid (HG.out.keep hd1)
  clear KA VA HG
  have KA := KA_
  have VA := VA_
  have HG := HG_
  clear KA_ VA_ HG_
  have B1 : Hid (Below w.heap.size w w1) := Lib.hid (B0.out.trans (hd1.mono B0.out.size))
  clear B0
  have B0 := B1
  clear B1
  clear hb hd1 
  refine (vmay VA.out HIN.out HM.out).mono ?_
  rintro e w2 ⟨rfl, hb⟩
  obtain ⟨p0, p1, p2, -, -, -⟩ := (KA.out.keep hb).o3
  go_wp2_with fail
  clear p0 p1 p2
  have hd2 : Below w1.heap.size w1 w2 := hb
  have KA_ := Lib.hid (KA.out.keep hd2)
  have VA_ := Lib.hid (VA.out.below hd2)
  have HG_ := Lib.hid (HG.out.keep hd2)
  clear KA VA HG
  have KA := KA_
  have VA := VA_
  have HG := HG_
  clear KA_ VA_ HG_
  have B1 : Hid (Below w.heap.size w w2) := Lib.hid (B0.out.trans (hd2.mono B0.out.size))
  clear B0
  have B0 := B1
  clear B1
  clear hb hd2 
  go_ret
  exact ⟨rfl, B0.out⟩

set_option maxHeartbeats 8000000 in
set_option maxRecDepth 100000 in
theorem parts_short (v : Value) (n : NetD) (lq : Option Addr) (lc : Nat) (l : List Int) (at_ : Int) (w : World) (hg : ErrT w) (hv : NetV w v n) (hin : InNet n) (hm : mayN n = true) (hl : l.length < 1) :
    Calls Tryd.prog 7 #[v, .slice lq l.length lc, .int .u8 at_] w fun e w' => e = .returned (.bool true) ∧ Below w.heap.size w w' := by
  obtain ⟨vq, aq, tq, vc, ac, tc, rfl, -⟩ := hv.shape
  have HM := Lib.hid hm
  have HIN := Lib.hid hin
  clear hm hin
  have hli : (l.length : Int) < 1 := by omega
  have d1 : decide ((l.length : Int) < 1) = true := decide_eq_true hli
  go_enter Tryd.func7, Tryd.ntmps7
  go_wp2_with fail
  obtain ⟨W0, hW0⟩ := named (w.alloc (.cells #[.slice vq n.v.length vc, .slice aq n.a.length ac, .slice tq n.t.length tc] 26))
  rw [← hW0]
  have hc0 : Below w.heap.size w W0 := by rw [hW0]; exact below_alloc1 _
  have B0 := Lib.hid hc0
  have KA : Hid (Blk W0 (w.heap.size) #[.slice vq n.v.length vc, .slice aq n.a.length ac, .slice tq n.t.length tc] 26) := by rw [hW0]; exact Lib.hid (Blk.new _ _ _ _ rfl)
  have VA := Lib.hid (hv.below hc0)
  have HG := Lib.hid (hg.keep hc0)
  clear hc0 hW0 hv hg
  refine (known3_any _ HG.out).mono ?_
  rintro e w1 ⟨rfl, hb⟩
  obtain ⟨p0, p1, p2, -, -, -⟩ := (KA.out.keep hb).o3
  go_wp2_with fail
  clear p0 p1 p2
  have hd1 : Below W0.heap.size W0 w1 := hb
  have KA_ := Lib.hid (KA.out.keep hd1)
  have VA_ := Lib.hid (VA.out.below hd1)
  have HG_ := Lib.hid (HG.out.keep hd1)
  clear KA VA HG
  have KA := KA_
  have VA := VA_
  have HG := HG_
  clear KA_ VA_ HG_
  have B1 : Hid (Below w.heap.size w w1) := Lib.hid (B0.out.trans (hd1.mono B0.out.size))
  clear B0
  have B0 := B1
  clear B1
  clear hb hd1 
  refine (vmay VA.out HIN.out HM.out).mono ?_
  rintro e w2 ⟨rfl, hb⟩
  obtain ⟨p0, p1, p2, -, -, -⟩ := (KA.out.keep hb).o3
  go_wp2_with fail
  clear p0 p1 p2
  have hd2 : Below w1.heap.size w1 w2 := hb
  have KA_ := Lib.hid (KA.out.keep hd2)
  have VA_ := Lib.hid (VA.out.below hd2)
  have HG_ := Lib.hid (HG.out.keep hd2)
  clear KA VA HG
  have KA := KA_
  have VA := VA_
  have HG := HG_
  clear KA_ VA_ HG_
  have B1 : Hid (Below w.heap.size w w2) := Lib.hid (B0.out.trans (hd2.mono B0.out.size))
  clear B0
  have B0 := B1
  clear B1
  clear hb hd2 
  go_ret
  exact ⟨rfl, B0.out⟩

set_option maxHeartbeats 8000000 in
set_option maxRecDepth 100000 in
theorem parts_long (v : Value) (n : NetD) (lq : Option Addr) (lc : Nat) (l : List Int) (at_ : Int) (w : World) (hg : ErrT w) (hv : NetV w v n) (hin : InNet n) (hm : mayN n = true) (hl : 60 < l.length) :
    Calls Tryd.prog 7 #[v, .slice lq l.length lc, .int .u8 at_] w fun e w' => e = .returned (.bool true) ∧ Below w.heap.size w w' := by
  obtain ⟨vq, aq, tq, vc, ac, tc, rfl, -⟩ := hv.shape
  have HM := Lib.hid hm
  have HIN := Lib.hid hin
  clear hm hin
  have d1 : decide ((l.length : Int) < 1) = false := decide_eq_false (by omega)
  have d2 : decide ((60 : Int) < (l.length : Int)) = true := decide_eq_true (by omega)
  go_enter Tryd.func7, Tryd.ntmps7
  go_wp2_with fail
  obtain ⟨W0, hW0⟩ := named (w.alloc (.cells #[.slice vq n.v.length vc, .slice aq n.a.length ac, .slice tq n.t.length tc] 26))
  rw [← hW0]
  have hc0 : Below w.heap.size w W0 := by rw [hW0]; exact below_alloc1 _
  have B0 := Lib.hid hc0
  have KA : Hid (Blk W0 (w.heap.size) #[.slice vq n.v.length vc, .slice aq n.a.length ac, .slice tq n.t.length tc] 26) := by rw [hW0]; exact Lib.hid (Blk.new _ _ _ _ rfl)
  have VA := Lib.hid (hv.below hc0)
  have HG := Lib.hid (hg.keep hc0)
  clear hc0 hW0 hv hg
  refine (known3_any _ HG.out).mono ?_
  rintro e w1 ⟨rfl, hb⟩
  obtain ⟨p0, p1, p2, -, -, -⟩ := (KA.out.keep hb).o3
  go_wp2_with fail
  clear p0 p1 p2
  have hd1 : Below W0.heap.size W0 w1 := hb
  have KA_ := Lib.hid (KA.out.keep hd1)
  have VA_ := Lib.hid (VA.out.below hd1)
  have HG_ := Lib.hid (HG.out.keep hd1)
  clear KA VA HG
  have KA := KA_
  have VA := VA_
  have HG := HG_
  clear KA_ VA_ HG_
  have B1 : Hid (Below w.heap.size w w1) := Lib.hid (B0.out.trans (hd1.mono B0.out.size))
  clear B0
  have B0 := B1
  clear B1
  clear hb hd1 
  refine (vmay VA.out HIN.out HM.out).mono ?_
  rintro e w2 ⟨rfl, hb⟩
  obtain ⟨p0, p1, p2, -, -, -⟩ := (KA.out.keep hb).o3
  go_wp2_with fail
  clear p0 p1 p2
  have hd2 : Below w1.heap.size w1 w2 := hb
  have KA_ := Lib.hid (KA.out.keep hd2)
  have VA_ := Lib.hid (VA.out.below hd2)
  have HG_ := Lib.hid (HG.out.keep hd2)
  clear KA VA HG
  have KA := KA_
  have VA := VA_
  have HG := HG_
  clear KA_ VA_ HG_
  have B1 : Hid (Below w.heap.size w w2) := Lib.hid (B0.out.trans (hd2.mono B0.out.size))
  clear B0
  have B0 := B1
  clear B1
  clear hb hd2 
  go_ret
  exact ⟨rfl, B0.out⟩

set_option maxHeartbeats 8000000 in
set_option maxRecDepth 100000 in
theorem parts_t (v : Value) (n : NetD) (b o c : Nat) (l : List Int) (at_ : Int) (k k1 : Nat) (w : World) (hg : ErrT w) (hv : NetV w v n) (hin : InNet n) (hc : ∀ i (h : i < l.length), w.cell? ⟨b, o + i, none⟩ = some (.int .i64 l[i])) (hlc : l.length ≤ c) (hcm : c ≤ 9223372036854775807) (hk : k < l.length) (ha0 : 0 ≤ at_) (ha1 : at_ ≤ 255) (hmod : at_.tmod (l.length : Int) = k) (hk1 : k + 1 = k1) (hm : mayN n = true) (hl0 : 1 ≤ l.length) (hl : l.length ≤ 60) (hBA : n.walk (l.take k1) = true) :
    Calls Tryd.prog 7 #[v, .slice (some ⟨b, o, none⟩) l.length c, .int .u8 at_] w fun e w' => e = .returned (.bool true) ∧ Below w.heap.size w w' := by
  obtain ⟨vq, aq, tq, vc, ac, tc, rfl, -⟩ := hv.shape
  have HM := Lib.hid hm
  obtain ⟨hf, hk, hgd⟩ := may_of hm
  have F1 := Lib.hid hf
  have OK := Lib.hid hk
  have GD := Lib.hid hgd
  have HIN := Lib.hid hin
  clear hm hin hf hk hgd
  have d1 : decide ((l.length : Int) < 1) = false := decide_eq_false (by omega)
  have d2 : decide ((60 : Int) < (l.length : Int)) = false := decide_eq_false (by omega)
  obtain ⟨BB, eBB⟩ : ∃ B, n.walk (l.drop k) = B := ⟨_, rfl⟩
  obtain ⟨CW, eC⟩ : ∃ C, n.cost l = C := ⟨_, rfl⟩
  obtain ⟨CA, eCA⟩ : ∃ C, n.cost (l.take k1) = C := ⟨_, rfl⟩
  obtain ⟨CB, eCB⟩ : ∃ C, n.cost (l.drop k) = C := ⟨_, rfl⟩
  have HB : Hid (n.walk l = BB) := Lib.hid (by rw [walk_parts hk, hk1, hBA, eBB]; simp)
  have HCC : Hid (addC CA CB = CW) := Lib.hid (by rw [← eCA, ← eCB, ← eC]; rw [← hk1]; exact (cost_parts hk).symm)
  have HCA := Lib.hid (cost_bd n (l.take k1))
  have HCB := Lib.hid (cost_bd n (l.drop k))
  rw [eCA] at HCA
  rw [eCB] at HCB
  have EBA := Lib.hid hBA
  have EBB := Lib.hid eBB
  have EC := Lib.hid eC
  have ECA := Lib.hid eCA
  have ECB := Lib.hid eCB
  have hu : I64s w (.slice (some ⟨b, o, none⟩) l.length c) l := Or.inr ⟨by omega, b, o, c, hlc, hcm, rfl, hc⟩
  have hta : I64s w (.slice (some ⟨b, o, none⟩) k1 c) (l.take k1) := I64s.take hc hlc hcm k1 (by omega)
  have hdr : I64s w (.slice (some ⟨b, o + k, none⟩) (l.length - k) (c - k)) (l.drop k) := I64s.drop hc hlc hcm k (by omega)
  have hll : (l.take k1).length ≤ 1000 := by rw [List.length_take]; omega
  have hld : (l.drop k).length ≤ 1000 := by rw [List.length_drop]; omega
  have hl1 : ¬ (l.length : Int) = 0 := by omega
  clear hBA eBB eC eCA eCB hc
  go_enter Tryd.func7, Tryd.ntmps7
  go_wp2_with fail
  obtain ⟨W0, hW0⟩ := named (w.alloc (.cells #[.slice vq n.v.length vc, .slice aq n.a.length ac, .slice tq n.t.length tc] 26))
  rw [← hW0]
  have hc0 : Below w.heap.size w W0 := by rw [hW0]; exact below_alloc1 _
  have B0 := Lib.hid hc0
  have KA : Hid (Blk W0 (w.heap.size) #[.slice vq n.v.length vc, .slice aq n.a.length ac, .slice tq n.t.length tc] 26) := by rw [hW0]; exact Lib.hid (Blk.new _ _ _ _ rfl)
  have VA := Lib.hid (hv.below hc0)
  have HG := Lib.hid (hg.keep hc0)
  have HL := Lib.hid (hu.below hc0)
  have HTA := Lib.hid (hta.below hc0)
  have HDR := Lib.hid (hdr.below hc0)
  clear hc0 hW0 hv hg hu hta hdr
  refine (known3_any _ HG.out).mono ?_
  rintro e w1 ⟨rfl, hb⟩
  obtain ⟨p0, p1, p2, -, -, -⟩ := (KA.out.keep hb).o3
  go_wp2_with fail
  clear p0 p1 p2
  have hd1 : Below W0.heap.size W0 w1 := hb
  have KA_ := Lib.hid (KA.out.keep hd1)
  have VA_ := Lib.hid (VA.out.below hd1)
  have HG_ := Lib.hid (HG.out.keep hd1)
  have HL_ := Lib.hid (HL.out.below hd1)
  have HTA_ := Lib.hid (HTA.out.below hd1)
  have HDR_ := Lib.hid (HDR.out.below hd1)
  clear KA VA HG HL HTA HDR
  have KA := KA_
  have VA := VA_
  have HG := HG_
  have HL := HL_
  have HTA := HTA_
  have HDR := HDR_
  clear KA_ VA_ HG_ HL_ HTA_ HDR_
  have B1 : Hid (Below w.heap.size w w1) := Lib.hid (B0.out.trans (hd1.mono B0.out.size))
  clear B0
  have B0 := B1
  clear B1
  clear hb hd1 
  refine (vmay VA.out HIN.out HM.out).mono ?_
  rintro e w2 ⟨rfl, hb⟩
  obtain ⟨p0, p1, p2, -, -, -⟩ := (KA.out.keep hb).o3
  go_wp2_with fail
  clear p0 p1 p2
  have hd2 : Below w1.heap.size w1 w2 := hb
  have KA_ := Lib.hid (KA.out.keep hd2)
  have VA_ := Lib.hid (VA.out.below hd2)
  have HG_ := Lib.hid (HG.out.keep hd2)
  have HL_ := Lib.hid (HL.out.below hd2)
  have HTA_ := Lib.hid (HTA.out.below hd2)
  have HDR_ := Lib.hid (HDR.out.below hd2)
  clear KA VA HG HL HTA HDR
  have KA := KA_
  have VA := VA_
  have HG := HG_
  have HL := HL_
  have HTA := HTA_
  have HDR := HDR_
  clear KA_ VA_ HG_ HL_ HTA_ HDR_
  have B1 : Hid (Below w.heap.size w w2) := Lib.hid (B0.out.trans (hd2.mono B0.out.size))
  clear B0
  have B0 := B1
  clear B1
  clear hb hd2 
  refine (vtoF VA.out F1.out).mono ?_
  rintro e w3 ⟨xv, rfl, hX, hb⟩
  obtain ⟨xq, xa, xt, xvc, xac, xtc, rfl, -⟩ := hX.shape
  go_wp2_with fail
  obtain ⟨W3, hW3⟩ := named (w3.alloc (.cells #[.slice xq n.v.length xvc, .slice xa n.a.length xac, .slice xt n.t.length xtc] 37))
  rw [← hW3]
  have hc3 : Below w3.heap.size w3 W3 := by rw [hW3]; exact below_alloc1 _
  have hd3 : Below w2.heap.size w2 W3 := hb.trans (hc3.mono hb.size)
  have KA_ := Lib.hid (KA.out.keep hd3)
  have VA_ := Lib.hid (VA.out.below hd3)
  have HG_ := Lib.hid (HG.out.keep hd3)
  have HL_ := Lib.hid (HL.out.below hd3)
  have HTA_ := Lib.hid (HTA.out.below hd3)
  have HDR_ := Lib.hid (HDR.out.below hd3)
  clear KA VA HG HL HTA HDR
  have KA := KA_
  have VA := VA_
  have HG := HG_
  have HL := HL_
  have HTA := HTA_
  have HDR := HDR_
  clear KA_ VA_ HG_ HL_ HTA_ HDR_
  have B1 : Hid (Below w.heap.size w W3) := Lib.hid (B0.out.trans (hd3.mono B0.out.size))
  clear B0
  have B0 := B1
  clear B1
  have KX : Hid (Blk W3 (w3.heap.size) #[.slice xq n.v.length xvc, .slice xa n.a.length xac, .slice xt n.t.length xtc] 37) := by rw [hW3]; exact Lib.hid (Blk.new _ _ _ _ rfl)
  have VX := Lib.hid (hX.below hc3)
  clear hb hX hd3 hc3 hW3 
  have HKK := Lib.hid (And.intro (show (k : Int) + 1 = (k1 : Int) by omega) (And.intro (show IntKind.i64.wrap (k1 : Int) = (k1 : Int) from IntWalk.i64_in _ ⟨by omega, by omega⟩) (And.intro (show (k : Int) ≤ (l.length : Int) by omega) (And.intro (show ¬ c = k by omega) (And.intro (show (k1 : Int) ≤ (c : Int) by omega) (And.intro (show k < l.length by omega) (show k1 ≤ c by omega)))))))
  clear hk1
  have hGS : Grows (fun w' => Below W3.heap.size W3 w') := Grows.below W3
  refine' wp_growL _ (fun w' => Below W3.heap.size W3 w') [[], [], [], [2], [1, 3], [0, 4], [], [], [], [7, 8], [6, 9], [5], [10]] (Fact.lit _ :: Fact.lit _ :: Fact.lit _ :: Fact.lit _ :: Fact.lit _ :: Fact.lit _ :: Fact.lit _ :: Fact.lit _ :: Fact.lit _ :: Fact.lit _ :: Fact.lit _ :: Fact.lit _ :: Fact.lit _ :: []) (by kernel_rfl) rfl (by kernel_rfl) (Below.refl _ _).drew ?seqtsev
  case' seqtsev => skip
  (first | (refine' grow_skip rfl ?wt937 ?put937 ?next937; (case wt937 => rfl)) | (refine' grow_lit rfl ?wt937 ?run937 ?put937 ?next937; (case wt937 => rfl); (case run937 => (intro w' hS H; clear H; (obtain ⟨x0, x1, x2, -, -, -⟩ := (KX.out.keep hS).o3); (obtain ⟨hj, hw, hk2, hk3, hk4, hk5, hk6⟩ := HKK.out); clear hS; go_simp; first | done | exact rfl)))); (case put937 => (simp only [Act.put, List.setIfInBounds_toArray, List.set_cons_zero, List.set_cons_succ]; first | done | exact rfl)); (case' next937 => skip)
  (first | (refine' grow_skip rfl ?wt938 ?put938 ?next938; (case wt938 => rfl)) | (refine' grow_lit rfl ?wt938 ?run938 ?put938 ?next938; (case wt938 => rfl); (case run938 => (intro w' hS H; clear H; (obtain ⟨x0, x1, x2, -, -, -⟩ := (KX.out.keep hS).o3); (obtain ⟨hj, hw, hk2, hk3, hk4, hk5, hk6⟩ := HKK.out); clear hS; go_simp; first | done | exact rfl)))); (case put938 => (simp only [Act.put, List.setIfInBounds_toArray, List.set_cons_zero, List.set_cons_succ]; first | done | exact rfl)); (case' next938 => skip)
  (first | (refine' grow_skip rfl ?wt939 ?put939 ?next939; (case wt939 => rfl)) | (refine' grow_lit rfl ?wt939 ?run939 ?put939 ?next939; (case wt939 => rfl); (case run939 => (intro w' hS H; clear H; (obtain ⟨x0, x1, x2, -, -, -⟩ := (KX.out.keep hS).o3); (obtain ⟨hj, hw, hk2, hk3, hk4, hk5, hk6⟩ := HKK.out); clear hS; go_simp; first | done | exact rfl)))); (case put939 => (simp only [Act.put, List.setIfInBounds_toArray, List.set_cons_zero, List.set_cons_succ]; first | done | exact rfl)); (case' next939 => skip)
  (first | (refine' grow_skip rfl ?wt940 ?put940 ?next940; (case wt940 => rfl)) | (refine' grow_lit rfl ?wt940 ?run940 ?put940 ?next940; (case wt940 => rfl); (case run940 => (intro w' hS H; clear H; (obtain ⟨x0, x1, x2, -, -, -⟩ := (KX.out.keep hS).o3); (obtain ⟨hj, hw, hk2, hk3, hk4, hk5, hk6⟩ := HKK.out); clear hS; go_simp; first | done | exact rfl)))); (case put940 => (simp only [Act.put, List.setIfInBounds_toArray, List.set_cons_zero, List.set_cons_succ]; first | done | exact rfl)); (case' next940 => skip)
  (first | (refine' grow_skip rfl ?wt941 ?put941 ?next941; (case wt941 => rfl)) | (refine' grow_lit rfl ?wt941 ?run941 ?put941 ?next941; (case wt941 => rfl); (case run941 => (intro w' hS H; clear H; (obtain ⟨x0, x1, x2, -, -, -⟩ := (KX.out.keep hS).o3); (obtain ⟨hj, hw, hk2, hk3, hk4, hk5, hk6⟩ := HKK.out); clear hS; go_simp; first | done | exact rfl)))); (case put941 => (simp only [Act.put, List.setIfInBounds_toArray, List.set_cons_zero, List.set_cons_succ]; first | done | exact rfl)); (case' next941 => skip)
  (refine' grow_call (u := .bool true) rfl Tryd.func26 (by kernel_rfl) rfl hGS rfl ?wt1003 ?run1003 ?put1003 ?next1003; (case wt1003 => rfl); (case run1003 => (intro w' hS H; exact vwalk (VX.out.below hS) GD.out (l := l.take k1) (HTA.out.below hS) (by omega) EBA.out)); (case put1003 => (simp only [Act.put, List.setIfInBounds_toArray, List.set_cons_zero, List.set_cons_succ]; first | done | exact rfl)); (case' next1003 => skip))
  (first | (refine' grow_skip rfl ?wt942 ?put942 ?next942; (case wt942 => rfl)) | (refine' grow_lit rfl ?wt942 ?run942 ?put942 ?next942; (case wt942 => rfl); (case run942 => (intro w' hS H; clear H; (obtain ⟨x0, x1, x2, -, -, -⟩ := (KX.out.keep hS).o3); (obtain ⟨hj, hw, hk2, hk3, hk4, hk5, hk6⟩ := HKK.out); clear hS; go_simp; first | done | exact rfl)))); (case put942 => (simp only [Act.put, List.setIfInBounds_toArray, List.set_cons_zero, List.set_cons_succ]; first | done | exact rfl)); (case' next942 => skip)
  (first | (refine' grow_skip rfl ?wt943 ?put943 ?next943; (case wt943 => rfl)) | (refine' grow_lit rfl ?wt943 ?run943 ?put943 ?next943; (case wt943 => rfl); (case run943 => (intro w' hS H; clear H; (obtain ⟨x0, x1, x2, -, -, -⟩ := (KX.out.keep hS).o3); (obtain ⟨hj, hw, hk2, hk3, hk4, hk5, hk6⟩ := HKK.out); clear hS; go_simp; first | done | exact rfl)))); (case put943 => (simp only [Act.put, List.setIfInBounds_toArray, List.set_cons_zero, List.set_cons_succ]; first | done | exact rfl)); (case' next943 => skip)
  (first | (refine' grow_skip rfl ?wt944 ?put944 ?next944; (case wt944 => rfl)) | (refine' grow_lit rfl ?wt944 ?run944 ?put944 ?next944; (case wt944 => rfl); (case run944 => (intro w' hS H; clear H; (obtain ⟨x0, x1, x2, -, -, -⟩ := (KX.out.keep hS).o3); (obtain ⟨hj, hw, hk2, hk3, hk4, hk5, hk6⟩ := HKK.out); clear hS; go_simp; first | done | exact rfl)))); (case put944 => (simp only [Act.put, List.setIfInBounds_toArray, List.set_cons_zero, List.set_cons_succ]; first | done | exact rfl)); (case' next944 => skip)
  (first | (refine' grow_skip rfl ?wt945 ?put945 ?next945; (case wt945 => rfl)) | (refine' grow_lit rfl ?wt945 ?run945 ?put945 ?next945; (case wt945 => rfl); (case run945 => (intro w' hS H; clear H; (obtain ⟨x0, x1, x2, -, -, -⟩ := (KX.out.keep hS).o3); (obtain ⟨hj, hw, hk2, hk3, hk4, hk5, hk6⟩ := HKK.out); clear hS; go_simp; first | done | exact rfl)))); (case put945 => (simp only [Act.put, List.setIfInBounds_toArray, List.set_cons_zero, List.set_cons_succ]; first | done | exact rfl)); (case' next945 => skip)
  (refine' grow_call (u := .bool BB) rfl Tryd.func26 (by kernel_rfl) rfl hGS rfl ?wt1004 ?run1004 ?put1004 ?next1004; (case wt1004 => rfl); (case run1004 => (intro w' hS H; exact vwalk (VX.out.below hS) GD.out (l := l.drop k) (HDR.out.below hS) (by omega) EBB.out)); (case put1004 => (simp only [Act.put, List.setIfInBounds_toArray, List.set_cons_zero, List.set_cons_succ]; first | done | exact rfl)); (case' next1004 => skip))
  (first | (refine' grow_skip rfl ?wt946 ?put946 ?next946; (case wt946 => rfl)) | (refine' grow_lit rfl ?wt946 ?run946 ?put946 ?next946; (case wt946 => rfl); (case run946 => (intro w' hS H; clear H; (obtain ⟨x0, x1, x2, -, -, -⟩ := (KX.out.keep hS).o3); (obtain ⟨hj, hw, hk2, hk3, hk4, hk5, hk6⟩ := HKK.out); clear hS; go_simp; first | done | exact rfl)))); (case put946 => (simp only [Act.put, List.setIfInBounds_toArray, List.set_cons_zero, List.set_cons_succ]; first | done | exact rfl)); (case' next946 => skip)
  (first | (refine' grow_skip rfl ?wt947 ?put947 ?next947; (case wt947 => rfl)) | (refine' grow_lit rfl ?wt947 ?run947 ?put947 ?next947; (case wt947 => rfl); (case run947 => (intro w' hS H; clear H; (obtain ⟨x0, x1, x2, -, -, -⟩ := (KX.out.keep hS).o3); (obtain ⟨hj, hw, hk2, hk3, hk4, hk5, hk6⟩ := HKK.out); clear hS; go_simp; first | done | exact rfl)))); (case put947 => (simp only [Act.put, List.setIfInBounds_toArray, List.set_cons_zero, List.set_cons_succ]; first | done | exact rfl)); (case' next947 => skip)
  intro w7 hb _
  have hd_ : Below W3.heap.size W3 w7 := hb
  have KA_ := Lib.hid (KA.out.keep hd_)
  have VA_ := Lib.hid (VA.out.below hd_)
  have HG_ := Lib.hid (HG.out.keep hd_)
  have HL_ := Lib.hid (HL.out.below hd_)
  have HTA_ := Lib.hid (HTA.out.below hd_)
  have HDR_ := Lib.hid (HDR.out.below hd_)
  have KX_ := Lib.hid (KX.out.keep hd_)
  have VX_ := Lib.hid (VX.out.below hd_)
  have B1 : Hid (Below w.heap.size w w7) := Lib.hid (B0.out.trans (hd_.mono B0.out.size))
  clear hb hd_ B0 KA VA HG HL HTA HDR KX VX
  have KA := KA_
  have VA := VA_
  have HG := HG_
  have HL := HL_
  have HTA := HTA_
  have HDR := HDR_
  have KX := KX_
  have VX := VX_
  have B0 := B1
  clear B1 KA_ VA_ HG_ HL_ HTA_ HDR_ KX_ VX_
  clear hGS
  go_wp2_with fail
  have hGS : Grows (fun w' => Below w7.heap.size w7 w') := Grows.below w7
  refine' wp_growL _ (fun w' => Below w7.heap.size w7 w') [[], [], [0, 1], [], [3], [4], [4, 5], [2, 6], [7], [8], [8], [8, 9, 10], [8], [8], [8], [8, 14], [8, 13, 15], [8, 12, 16], [8], [8], [8], [8, 19, 20], [8, 18, 21], [8, 17, 22], [8, 11, 23], [8, 24], [25]] (Fact.lit _ :: Fact.lit _ :: Fact.lit _ :: Fact.lit _ :: Fact.lit _ :: Fact.lit _ :: Fact.lit _ :: Fact.lit _ :: Fact.lit _ :: Fact.lit _ :: Fact.lit _ :: Fact.lit _ :: Fact.lit _ :: Fact.lit _ :: Fact.lit _ :: Fact.lit _ :: Fact.lit _ :: Fact.lit _ :: Fact.lit _ :: Fact.lit _ :: Fact.lit _ :: Fact.lit _ :: Fact.lit _ :: Fact.lit _ :: Fact.lit _ :: Fact.lit _ :: Fact.lit _ :: []) (by kernel_rfl) rfl (by kernel_rfl) (Below.refl _ _).drew ?seqteig
  case' seqteig => skip
  (first | (refine' grow_skip rfl ?wt948 ?put948 ?next948; (case wt948 => rfl)) | (refine' grow_lit rfl ?wt948 ?run948 ?put948 ?next948; (case wt948 => rfl); (case run948 => (intro w' hS H; clear H; (obtain ⟨x0, x1, x2, -, -, -⟩ := (KX.out.keep hS).o3); (obtain ⟨hj, hw, hk2, hk3, hk4, hk5, hk6⟩ := HKK.out); clear hS; go_simp; first | done | exact rfl)))); (case put948 => (simp only [Act.put, List.setIfInBounds_toArray, List.set_cons_zero, List.set_cons_succ]; first | done | exact rfl)); (case' next948 => skip)
  (first | (refine' grow_skip rfl ?wt949 ?put949 ?next949; (case wt949 => rfl)) | (refine' grow_lit rfl ?wt949 ?run949 ?put949 ?next949; (case wt949 => rfl); (case run949 => (intro w' hS H; clear H; (obtain ⟨x0, x1, x2, -, -, -⟩ := (KX.out.keep hS).o3); (obtain ⟨hj, hw, hk2, hk3, hk4, hk5, hk6⟩ := HKK.out); clear hS; go_simp; first | done | exact rfl)))); (case put949 => (simp only [Act.put, List.setIfInBounds_toArray, List.set_cons_zero, List.set_cons_succ]; first | done | exact rfl)); (case' next949 => skip)
  (refine' grow_call (u := .bool BB) rfl Tryd.func26 (by kernel_rfl) rfl hGS rfl ?wt1005 ?run1005 ?put1005 ?next1005; (case wt1005 => rfl); (case run1005 => (intro w' hS H; exact vwalk (VX.out.below hS) GD.out (l := l) (HL.out.below hS) (by omega) HB.out)); (case put1005 => (simp only [Act.put, List.setIfInBounds_toArray, List.set_cons_zero, List.set_cons_succ]; first | done | exact rfl)); (case' next1005 => skip))
  (first | (refine' grow_skip rfl ?wt950 ?put950 ?next950; (case wt950 => rfl)) | (refine' grow_lit rfl ?wt950 ?run950 ?put950 ?next950; (case wt950 => rfl); (case run950 => (intro w' hS H; clear H; (obtain ⟨x0, x1, x2, -, -, -⟩ := (KX.out.keep hS).o3); (obtain ⟨hj, hw, hk2, hk3, hk4, hk5, hk6⟩ := HKK.out); clear hS; go_simp; first | done | exact rfl)))); (case put950 => (simp only [Act.put, List.setIfInBounds_toArray, List.set_cons_zero, List.set_cons_succ]; first | done | exact rfl)); (case' next950 => skip)
  (first | (refine' grow_skip rfl ?wt951 ?put951 ?next951; (case wt951 => rfl)) | (refine' grow_lit rfl ?wt951 ?run951 ?put951 ?next951; (case wt951 => rfl); (case run951 => (intro w' hS H; clear H; (obtain ⟨x0, x1, x2, -, -, -⟩ := (KX.out.keep hS).o3); (obtain ⟨hj, hw, hk2, hk3, hk4, hk5, hk6⟩ := HKK.out); clear hS; go_simp; first | done | exact rfl)))); (case put951 => (simp only [Act.put, List.setIfInBounds_toArray, List.set_cons_zero, List.set_cons_succ]; first | done | exact rfl)); (case' next951 => skip)
  (first | (refine' grow_skip rfl ?wt952 ?put952 ?next952; (case wt952 => rfl)) | (refine' grow_lit rfl ?wt952 ?run952 ?put952 ?next952; (case wt952 => rfl); (case run952 => (intro w' hS H; clear H; (obtain ⟨x0, x1, x2, -, -, -⟩ := (KX.out.keep hS).o3); (obtain ⟨hj, hw, hk2, hk3, hk4, hk5, hk6⟩ := HKK.out); clear hS; go_simp; first | done | exact rfl)))); (case put952 => (simp only [Act.put, List.setIfInBounds_toArray, List.set_cons_zero, List.set_cons_succ]; first | done | exact rfl)); (case' next952 => skip)
  (first | (refine' grow_skip rfl ?wt953 ?put953 ?next953; (case wt953 => rfl)) | (refine' grow_lit rfl ?wt953 ?run953 ?put953 ?next953; (case wt953 => rfl); (case run953 => (intro w' hS H; clear H; (obtain ⟨x0, x1, x2, -, -, -⟩ := (KX.out.keep hS).o3); (obtain ⟨hj, hw, hk2, hk3, hk4, hk5, hk6⟩ := HKK.out); clear hS; go_simp; first | done | exact rfl)))); (case put953 => (simp only [Act.put, List.setIfInBounds_toArray, List.set_cons_zero, List.set_cons_succ]; first | done | exact rfl)); (case' next953 => skip)
  (first | (refine' grow_skip rfl ?wt954 ?put954 ?next954; (case wt954 => rfl)) | (refine' grow_lit rfl ?wt954 ?run954 ?put954 ?next954; (case wt954 => rfl); (case run954 => (intro w' hS H; clear H; (obtain ⟨x0, x1, x2, -, -, -⟩ := (KX.out.keep hS).o3); (obtain ⟨hj, hw, hk2, hk3, hk4, hk5, hk6⟩ := HKK.out); clear hS; go_simp; first | done | exact rfl)))); (case put954 => (simp only [Act.put, List.setIfInBounds_toArray, List.set_cons_zero, List.set_cons_succ]; first | done | exact rfl)); (case' next954 => skip)
  (first | (refine' grow_skip rfl ?wt955 ?put955 ?next955; (case wt955 => rfl)) | (refine' grow_lit rfl ?wt955 ?run955 ?put955 ?next955; (case wt955 => rfl); (case run955 => (intro w' hS H; clear H; (obtain ⟨x0, x1, x2, -, -, -⟩ := (KX.out.keep hS).o3); (obtain ⟨hj, hw, hk2, hk3, hk4, hk5, hk6⟩ := HKK.out); clear hS; go_simp; first | done | exact rfl)))); (case put955 => (simp only [Act.put, List.setIfInBounds_toArray, List.set_cons_zero, List.set_cons_succ]; first | done | exact rfl)); (case' next955 => skip)
  (first | (refine' grow_skip rfl ?wt956 ?put956 ?next956; (case wt956 => rfl)) | (refine' grow_lit rfl ?wt956 ?run956 ?put956 ?next956; (case wt956 => rfl); (case run956 => (intro w' hS H; clear H; (obtain ⟨x0, x1, x2, -, -, -⟩ := (KX.out.keep hS).o3); (obtain ⟨hj, hw, hk2, hk3, hk4, hk5, hk6⟩ := HKK.out); clear hS; go_simp; first | done | exact rfl)))); (case put956 => (simp only [Act.put, List.setIfInBounds_toArray, List.set_cons_zero, List.set_cons_succ]; first | done | exact rfl)); (case' next956 => skip)
  (first | (refine' grow_skip rfl ?wt957 ?put957 ?next957; (case wt957 => rfl)) | (refine' grow_lit rfl ?wt957 ?run957 ?put957 ?next957; (case wt957 => rfl); (case run957 => (intro w' hS H; clear H; (obtain ⟨x0, x1, x2, -, -, -⟩ := (KX.out.keep hS).o3); (obtain ⟨hj, hw, hk2, hk3, hk4, hk5, hk6⟩ := HKK.out); clear hS; go_simp; first | done | exact rfl)))); (case put957 => (simp only [Act.put, List.setIfInBounds_toArray, List.set_cons_zero, List.set_cons_succ]; first | done | exact rfl)); (case' next957 => skip)
  (refine' grow_call (u := .int .i64 CW) rfl Tryd.func28 (by kernel_rfl) rfl hGS rfl ?wt1006 ?run1006 ?put1006 ?next1006; (case wt1006 => rfl); (case run1006 => (intro w' hS H; exact vcost (VX.out.below hS) GD.out (l := l) (HL.out.below hS) (by omega) EC.out)); (case put1006 => (simp only [Act.put, List.setIfInBounds_toArray, List.set_cons_zero, List.set_cons_succ]; first | done | exact rfl)); (case' next1006 => skip))
  (first | (refine' grow_skip rfl ?wt958 ?put958 ?next958; (case wt958 => rfl)) | (refine' grow_lit rfl ?wt958 ?run958 ?put958 ?next958; (case wt958 => rfl); (case run958 => (intro w' hS H; clear H; (obtain ⟨x0, x1, x2, -, -, -⟩ := (KX.out.keep hS).o3); (obtain ⟨hj, hw, hk2, hk3, hk4, hk5, hk6⟩ := HKK.out); clear hS; go_simp; first | done | exact rfl)))); (case put958 => (simp only [Act.put, List.setIfInBounds_toArray, List.set_cons_zero, List.set_cons_succ]; first | done | exact rfl)); (case' next958 => skip)
  (first | (refine' grow_skip rfl ?wt959 ?put959 ?next959; (case wt959 => rfl)) | (refine' grow_lit rfl ?wt959 ?run959 ?put959 ?next959; (case wt959 => rfl); (case run959 => (intro w' hS H; clear H; (obtain ⟨x0, x1, x2, -, -, -⟩ := (KX.out.keep hS).o3); (obtain ⟨hj, hw, hk2, hk3, hk4, hk5, hk6⟩ := HKK.out); clear hS; go_simp; first | done | exact rfl)))); (case put959 => (simp only [Act.put, List.setIfInBounds_toArray, List.set_cons_zero, List.set_cons_succ]; first | done | exact rfl)); (case' next959 => skip)
  (first | (refine' grow_skip rfl ?wt960 ?put960 ?next960; (case wt960 => rfl)) | (refine' grow_lit rfl ?wt960 ?run960 ?put960 ?next960; (case wt960 => rfl); (case run960 => (intro w' hS H; clear H; (obtain ⟨x0, x1, x2, -, -, -⟩ := (KX.out.keep hS).o3); (obtain ⟨hj, hw, hk2, hk3, hk4, hk5, hk6⟩ := HKK.out); clear hS; go_simp; first | done | exact rfl)))); (case put960 => (simp only [Act.put, List.setIfInBounds_toArray, List.set_cons_zero, List.set_cons_succ]; first | done | exact rfl)); (case' next960 => skip)
  (first | (refine' grow_skip rfl ?wt961 ?put961 ?next961; (case wt961 => rfl)) | (refine' grow_lit rfl ?wt961 ?run961 ?put961 ?next961; (case wt961 => rfl); (case run961 => (intro w' hS H; clear H; (obtain ⟨x0, x1, x2, -, -, -⟩ := (KX.out.keep hS).o3); (obtain ⟨hj, hw, hk2, hk3, hk4, hk5, hk6⟩ := HKK.out); clear hS; go_simp; first | done | exact rfl)))); (case put961 => (simp only [Act.put, List.setIfInBounds_toArray, List.set_cons_zero, List.set_cons_succ]; first | done | exact rfl)); (case' next961 => skip)
  (first | (refine' grow_skip rfl ?wt962 ?put962 ?next962; (case wt962 => rfl)) | (refine' grow_lit rfl ?wt962 ?run962 ?put962 ?next962; (case wt962 => rfl); (case run962 => (intro w' hS H; clear H; (obtain ⟨x0, x1, x2, -, -, -⟩ := (KX.out.keep hS).o3); (obtain ⟨hj, hw, hk2, hk3, hk4, hk5, hk6⟩ := HKK.out); clear hS; go_simp; first | done | exact rfl)))); (case put962 => (simp only [Act.put, List.setIfInBounds_toArray, List.set_cons_zero, List.set_cons_succ]; first | done | exact rfl)); (case' next962 => skip)
  (refine' grow_call (u := .int .i64 CA) rfl Tryd.func28 (by kernel_rfl) rfl hGS rfl ?wt1007 ?run1007 ?put1007 ?next1007; (case wt1007 => rfl); (case run1007 => (intro w' hS H; exact vcost (VX.out.below hS) GD.out (l := l.take k1) (HTA.out.below hS) (by omega) ECA.out)); (case put1007 => (simp only [Act.put, List.setIfInBounds_toArray, List.set_cons_zero, List.set_cons_succ]; first | done | exact rfl)); (case' next1007 => skip))
  (first | (refine' grow_skip rfl ?wt963 ?put963 ?next963; (case wt963 => rfl)) | (refine' grow_lit rfl ?wt963 ?run963 ?put963 ?next963; (case wt963 => rfl); (case run963 => (intro w' hS H; clear H; (obtain ⟨x0, x1, x2, -, -, -⟩ := (KX.out.keep hS).o3); (obtain ⟨hj, hw, hk2, hk3, hk4, hk5, hk6⟩ := HKK.out); clear hS; go_simp; first | done | exact rfl)))); (case put963 => (simp only [Act.put, List.setIfInBounds_toArray, List.set_cons_zero, List.set_cons_succ]; first | done | exact rfl)); (case' next963 => skip)
  (first | (refine' grow_skip rfl ?wt964 ?put964 ?next964; (case wt964 => rfl)) | (refine' grow_lit rfl ?wt964 ?run964 ?put964 ?next964; (case wt964 => rfl); (case run964 => (intro w' hS H; clear H; (obtain ⟨x0, x1, x2, -, -, -⟩ := (KX.out.keep hS).o3); (obtain ⟨hj, hw, hk2, hk3, hk4, hk5, hk6⟩ := HKK.out); clear hS; go_simp; first | done | exact rfl)))); (case put964 => (simp only [Act.put, List.setIfInBounds_toArray, List.set_cons_zero, List.set_cons_succ]; first | done | exact rfl)); (case' next964 => skip)
  (first | (refine' grow_skip rfl ?wt965 ?put965 ?next965; (case wt965 => rfl)) | (refine' grow_lit rfl ?wt965 ?run965 ?put965 ?next965; (case wt965 => rfl); (case run965 => (intro w' hS H; clear H; (obtain ⟨x0, x1, x2, -, -, -⟩ := (KX.out.keep hS).o3); (obtain ⟨hj, hw, hk2, hk3, hk4, hk5, hk6⟩ := HKK.out); clear hS; go_simp; first | done | exact rfl)))); (case put965 => (simp only [Act.put, List.setIfInBounds_toArray, List.set_cons_zero, List.set_cons_succ]; first | done | exact rfl)); (case' next965 => skip)
  (first | (refine' grow_skip rfl ?wt966 ?put966 ?next966; (case wt966 => rfl)) | (refine' grow_lit rfl ?wt966 ?run966 ?put966 ?next966; (case wt966 => rfl); (case run966 => (intro w' hS H; clear H; (obtain ⟨x0, x1, x2, -, -, -⟩ := (KX.out.keep hS).o3); (obtain ⟨hj, hw, hk2, hk3, hk4, hk5, hk6⟩ := HKK.out); clear hS; go_simp; first | done | exact rfl)))); (case put966 => (simp only [Act.put, List.setIfInBounds_toArray, List.set_cons_zero, List.set_cons_succ]; first | done | exact rfl)); (case' next966 => skip)
  (refine' grow_call (u := .int .i64 CB) rfl Tryd.func28 (by kernel_rfl) rfl hGS rfl ?wt1008 ?run1008 ?put1008 ?next1008; (case wt1008 => rfl); (case run1008 => (intro w' hS H; exact vcost (VX.out.below hS) GD.out (l := l.drop k) (HDR.out.below hS) (by omega) ECB.out)); (case put1008 => (simp only [Act.put, List.setIfInBounds_toArray, List.set_cons_zero, List.set_cons_succ]; first | done | exact rfl)); (case' next1008 => skip))
  (refine' grow_call (u := .int .i64 CW) rfl Tryd.func32 (by kernel_rfl) rfl hGS rfl ?wt1009 ?run1009 ?put1009 ?next1009; (case wt1009 => rfl); (case run1009 => (intro w' hS H; (have h1 := HCA.out); (have h2 := HCB.out); exact (add_any CA CB w' (by omega) (by omega) (by omega) (by omega)).mono (fun e w2 h => ⟨h.1.trans (by rw [HCC.out]), h.2 ▸ Below.refl _ _⟩))); (case put1009 => (simp only [Act.put, List.setIfInBounds_toArray, List.set_cons_zero, List.set_cons_succ]; first | done | exact rfl)); (case' next1009 => skip))
  (first | (refine' grow_skip rfl ?wt967 ?put967 ?next967; (case wt967 => rfl)) | (refine' grow_lit rfl ?wt967 ?run967 ?put967 ?next967; (case wt967 => rfl); (case run967 => (intro w' hS H; clear H; (obtain ⟨x0, x1, x2, -, -, -⟩ := (KX.out.keep hS).o3); (obtain ⟨hj, hw, hk2, hk3, hk4, hk5, hk6⟩ := HKK.out); clear hS; go_simp; first | done | exact rfl)))); (case put967 => (simp only [Act.put, List.setIfInBounds_toArray, List.set_cons_zero, List.set_cons_succ]; first | done | exact rfl)); (case' next967 => skip)
  (first | (refine' grow_skip rfl ?wt968 ?put968 ?next968; (case wt968 => rfl)) | (refine' grow_lit rfl ?wt968 ?run968 ?put968 ?next968; (case wt968 => rfl); (case run968 => (intro w' hS H; clear H; (obtain ⟨x0, x1, x2, -, -, -⟩ := (KX.out.keep hS).o3); (obtain ⟨hj, hw, hk2, hk3, hk4, hk5, hk6⟩ := HKK.out); clear hS; go_simp; first | done | exact rfl)))); (case put968 => (simp only [Act.put, List.setIfInBounds_toArray, List.set_cons_zero, List.set_cons_succ]; first | done | exact rfl)); (case' next968 => skip)
  (first | (refine' grow_skip rfl ?wt969 ?put969 ?next969; (case wt969 => rfl)) | (refine' grow_lit rfl ?wt969 ?run969 ?put969 ?next969; (case wt969 => rfl); (case run969 => (intro w' hS H; clear H; (obtain ⟨x0, x1, x2, -, -, -⟩ := (KX.out.keep hS).o3); (obtain ⟨hj, hw, hk2, hk3, hk4, hk5, hk6⟩ := HKK.out); clear hS; go_simp; first | done | exact rfl)))); (case put969 => (simp only [Act.put, List.setIfInBounds_toArray, List.set_cons_zero, List.set_cons_succ]; first | done | exact rfl)); (case' next969 => skip)
  intro w9 hb _
  have HF := Lib.hid (B0.out.trans (hb.mono B0.out.size))
  clear hb hGS
  go_wp2_with fail
  go_ret
  exact ⟨rfl, HF.out⟩

set_option maxHeartbeats 8000000 in
set_option maxRecDepth 100000 in
theorem parts_f (v : Value) (n : NetD) (b o c : Nat) (l : List Int) (at_ : Int) (k k1 : Nat) (w : World) (hg : ErrT w) (hv : NetV w v n) (hin : InNet n) (hc : ∀ i (h : i < l.length), w.cell? ⟨b, o + i, none⟩ = some (.int .i64 l[i])) (hlc : l.length ≤ c) (hcm : c ≤ 9223372036854775807) (hk : k < l.length) (ha0 : 0 ≤ at_) (ha1 : at_ ≤ 255) (hmod : at_.tmod (l.length : Int) = k) (hk1 : k + 1 = k1) (hm : mayN n = true) (hl0 : 1 ≤ l.length) (hl : l.length ≤ 60) (hBA : n.walk (l.take k1) = false) :
    Calls Tryd.prog 7 #[v, .slice (some ⟨b, o, none⟩) l.length c, .int .u8 at_] w fun e w' => e = .returned (.bool true) ∧ Below w.heap.size w w' := by
  obtain ⟨vq, aq, tq, vc, ac, tc, rfl, -⟩ := hv.shape
  have HM := Lib.hid hm
  obtain ⟨hf, hk, hgd⟩ := may_of hm
  have F1 := Lib.hid hf
  have OK := Lib.hid hk
  have GD := Lib.hid hgd
  have HIN := Lib.hid hin
  clear hm hin hf hk hgd
  have d1 : decide ((l.length : Int) < 1) = false := decide_eq_false (by omega)
  have d2 : decide ((60 : Int) < (l.length : Int)) = false := decide_eq_false (by omega)
  obtain ⟨BB, eBB⟩ : ∃ B, n.walk (l.drop k) = B := ⟨_, rfl⟩
  obtain ⟨CW, eC⟩ : ∃ C, n.cost l = C := ⟨_, rfl⟩
  obtain ⟨CA, eCA⟩ : ∃ C, n.cost (l.take k1) = C := ⟨_, rfl⟩
  obtain ⟨CB, eCB⟩ : ∃ C, n.cost (l.drop k) = C := ⟨_, rfl⟩
  have HB : Hid (n.walk l = false) := Lib.hid (by rw [walk_parts hk, hk1, hBA, eBB]; simp)
  have HCC : Hid (addC CA CB = CW) := Lib.hid (by rw [← eCA, ← eCB, ← eC]; rw [← hk1]; exact (cost_parts hk).symm)
  have HCA := Lib.hid (cost_bd n (l.take k1))
  have HCB := Lib.hid (cost_bd n (l.drop k))
  rw [eCA] at HCA
  rw [eCB] at HCB
  have EBA := Lib.hid hBA
  have EBB := Lib.hid eBB
  have EC := Lib.hid eC
  have ECA := Lib.hid eCA
  have ECB := Lib.hid eCB
  have hu : I64s w (.slice (some ⟨b, o, none⟩) l.length c) l := Or.inr ⟨by omega, b, o, c, hlc, hcm, rfl, hc⟩
  have hta : I64s w (.slice (some ⟨b, o, none⟩) k1 c) (l.take k1) := I64s.take hc hlc hcm k1 (by omega)
  have hdr : I64s w (.slice (some ⟨b, o + k, none⟩) (l.length - k) (c - k)) (l.drop k) := I64s.drop hc hlc hcm k (by omega)
  have hll : (l.take k1).length ≤ 1000 := by rw [List.length_take]; omega
  have hld : (l.drop k).length ≤ 1000 := by rw [List.length_drop]; omega
  have hl1 : ¬ (l.length : Int) = 0 := by omega
  clear hBA eBB eC eCA eCB hc
  go_enter Tryd.func7, Tryd.ntmps7
  go_wp2_with fail
  obtain ⟨W0, hW0⟩ := named (w.alloc (.cells #[.slice vq n.v.length vc, .slice aq n.a.length ac, .slice tq n.t.length tc] 26))
  rw [← hW0]
  have hc0 : Below w.heap.size w W0 := by rw [hW0]; exact below_alloc1 _
  have B0 := Lib.hid hc0
  have KA : Hid (Blk W0 (w.heap.size) #[.slice vq n.v.length vc, .slice aq n.a.length ac, .slice tq n.t.length tc] 26) := by rw [hW0]; exact Lib.hid (Blk.new _ _ _ _ rfl)
  have VA := Lib.hid (hv.below hc0)
  have HG := Lib.hid (hg.keep hc0)
  have HL := Lib.hid (hu.below hc0)
  have HTA := Lib.hid (hta.below hc0)
  have HDR := Lib.hid (hdr.below hc0)
  clear hc0 hW0 hv hg hu hta hdr
  refine (known3_any _ HG.out).mono ?_
  rintro e w1 ⟨rfl, hb⟩
  obtain ⟨p0, p1, p2, -, -, -⟩ := (KA.out.keep hb).o3
  go_wp2_with fail
  clear p0 p1 p2
  have hd1 : Below W0.heap.size W0 w1 := hb
  have KA_ := Lib.hid (KA.out.keep hd1)
  have VA_ := Lib.hid (VA.out.below hd1)
  have HG_ := Lib.hid (HG.out.keep hd1)
  have HL_ := Lib.hid (HL.out.below hd1)
  have HTA_ := Lib.hid (HTA.out.below hd1)
  have HDR_ := Lib.hid (HDR.out.below hd1)
  clear KA VA HG HL HTA HDR
  have KA := KA_
  have VA := VA_
  have HG := HG_
  have HL := HL_
  have HTA := HTA_
  have HDR := HDR_
  clear KA_ VA_ HG_ HL_ HTA_ HDR_
  have B1 : Hid (Below w.heap.size w w1) := Lib.hid (B0.out.trans (hd1.mono B0.out.size))
  clear B0
  have B0 := B1
  clear B1
  clear hb hd1 
  refine (vmay VA.out HIN.out HM.out).mono ?_
  rintro e w2 ⟨rfl, hb⟩
  obtain ⟨p0, p1, p2, -, -, -⟩ := (KA.out.keep hb).o3
  go_wp2_with fail
  clear p0 p1 p2
  have hd2 : Below w1.heap.size w1 w2 := hb
  have KA_ := Lib.hid (KA.out.keep hd2)
  have VA_ := Lib.hid (VA.out.below hd2)
  have HG_ := Lib.hid (HG.out.keep hd2)
  have HL_ := Lib.hid (HL.out.below hd2)
  have HTA_ := Lib.hid (HTA.out.below hd2)
  have HDR_ := Lib.hid (HDR.out.below hd2)
  clear KA VA HG HL HTA HDR
  have KA := KA_
  have VA := VA_
  have HG := HG_
  have HL := HL_
  have HTA := HTA_
  have HDR := HDR_
  clear KA_ VA_ HG_ HL_ HTA_ HDR_
  have B1 : Hid (Below w.heap.size w w2) := Lib.hid (B0.out.trans (hd2.mono B0.out.size))
  clear B0
  have B0 := B1
  clear B1
  clear hb hd2 
  refine (vtoF VA.out F1.out).mono ?_
  rintro e w3 ⟨xv, rfl, hX, hb⟩
  obtain ⟨xq, xa, xt, xvc, xac, xtc, rfl, -⟩ := hX.shape
  go_wp2_with fail
  obtain ⟨W3, hW3⟩ := named (w3.alloc (.cells #[.slice xq n.v.length xvc, .slice xa n.a.length xac, .slice xt n.t.length xtc] 37))
  rw [← hW3]
  have hc3 : Below w3.heap.size w3 W3 := by rw [hW3]; exact below_alloc1 _
  have hd3 : Below w2.heap.size w2 W3 := hb.trans (hc3.mono hb.size)
  have KA_ := Lib.hid (KA.out.keep hd3)
  have VA_ := Lib.hid (VA.out.below hd3)
  have HG_ := Lib.hid (HG.out.keep hd3)
  have HL_ := Lib.hid (HL.out.below hd3)
  have HTA_ := Lib.hid (HTA.out.below hd3)
  have HDR_ := Lib.hid (HDR.out.below hd3)
  clear KA VA HG HL HTA HDR
  have KA := KA_
  have VA := VA_
  have HG := HG_
  have HL := HL_
  have HTA := HTA_
  have HDR := HDR_
  clear KA_ VA_ HG_ HL_ HTA_ HDR_
  have B1 : Hid (Below w.heap.size w W3) := Lib.hid (B0.out.trans (hd3.mono B0.out.size))
  clear B0
  have B0 := B1
  clear B1
  have KX : Hid (Blk W3 (w3.heap.size) #[.slice xq n.v.length xvc, .slice xa n.a.length xac, .slice xt n.t.length xtc] 37) := by rw [hW3]; exact Lib.hid (Blk.new _ _ _ _ rfl)
  have VX := Lib.hid (hX.below hc3)
  clear hb hX hd3 hc3 hW3 
  have HKK := Lib.hid (And.intro (show (k : Int) + 1 = (k1 : Int) by omega) (And.intro (show IntKind.i64.wrap (k1 : Int) = (k1 : Int) from IntWalk.i64_in _ ⟨by omega, by omega⟩) (And.intro (show (k : Int) ≤ (l.length : Int) by omega) (And.intro (show ¬ c = k by omega) (And.intro (show (k1 : Int) ≤ (c : Int) by omega) (And.intro (show k < l.length by omega) (show k1 ≤ c by omega)))))))
  clear hk1
  have hGS : Grows (fun w' => Below W3.heap.size W3 w') := Grows.below W3
  refine' wp_growL _ (fun w' => Below W3.heap.size W3 w') [[], [], [], [2], [1, 3], [0, 4], [], [], [], [7, 8], [6, 9], [5], [10]] (Fact.lit _ :: Fact.lit _ :: Fact.lit _ :: Fact.lit _ :: Fact.lit _ :: Fact.lit _ :: Fact.lit _ :: Fact.lit _ :: Fact.lit _ :: Fact.lit _ :: Fact.lit _ :: Fact.lit _ :: Fact.lit _ :: []) (by kernel_rfl) rfl (by kernel_rfl) (Below.refl _ _).drew ?seqfsev
  case' seqfsev => skip
  (first | (refine' grow_skip rfl ?wt970 ?put970 ?next970; (case wt970 => rfl)) | (refine' grow_lit rfl ?wt970 ?run970 ?put970 ?next970; (case wt970 => rfl); (case run970 => (intro w' hS H; clear H; (obtain ⟨x0, x1, x2, -, -, -⟩ := (KX.out.keep hS).o3); (obtain ⟨hj, hw, hk2, hk3, hk4, hk5, hk6⟩ := HKK.out); clear hS; go_simp; first | done | exact rfl)))); (case put970 => (simp only [Act.put, List.setIfInBounds_toArray, List.set_cons_zero, List.set_cons_succ]; first | done | exact rfl)); (case' next970 => skip)
  (first | (refine' grow_skip rfl ?wt971 ?put971 ?next971; (case wt971 => rfl)) | (refine' grow_lit rfl ?wt971 ?run971 ?put971 ?next971; (case wt971 => rfl); (case run971 => (intro w' hS H; clear H; (obtain ⟨x0, x1, x2, -, -, -⟩ := (KX.out.keep hS).o3); (obtain ⟨hj, hw, hk2, hk3, hk4, hk5, hk6⟩ := HKK.out); clear hS; go_simp; first | done | exact rfl)))); (case put971 => (simp only [Act.put, List.setIfInBounds_toArray, List.set_cons_zero, List.set_cons_succ]; first | done | exact rfl)); (case' next971 => skip)
  (first | (refine' grow_skip rfl ?wt972 ?put972 ?next972; (case wt972 => rfl)) | (refine' grow_lit rfl ?wt972 ?run972 ?put972 ?next972; (case wt972 => rfl); (case run972 => (intro w' hS H; clear H; (obtain ⟨x0, x1, x2, -, -, -⟩ := (KX.out.keep hS).o3); (obtain ⟨hj, hw, hk2, hk3, hk4, hk5, hk6⟩ := HKK.out); clear hS; go_simp; first | done | exact rfl)))); (case put972 => (simp only [Act.put, List.setIfInBounds_toArray, List.set_cons_zero, List.set_cons_succ]; first | done | exact rfl)); (case' next972 => skip)
  (first | (refine' grow_skip rfl ?wt973 ?put973 ?next973; (case wt973 => rfl)) | (refine' grow_lit rfl ?wt973 ?run973 ?put973 ?next973; (case wt973 => rfl); (case run973 => (intro w' hS H; clear H; (obtain ⟨x0, x1, x2, -, -, -⟩ := (KX.out.keep hS).o3); (obtain ⟨hj, hw, hk2, hk3, hk4, hk5, hk6⟩ := HKK.out); clear hS; go_simp; first | done | exact rfl)))); (case put973 => (simp only [Act.put, List.setIfInBounds_toArray, List.set_cons_zero, List.set_cons_succ]; first | done | exact rfl)); (case' next973 => skip)
  (first | (refine' grow_skip rfl ?wt974 ?put974 ?next974; (case wt974 => rfl)) | (refine' grow_lit rfl ?wt974 ?run974 ?put974 ?next974; (case wt974 => rfl); (case run974 => (intro w' hS H; clear H; (obtain ⟨x0, x1, x2, -, -, -⟩ := (KX.out.keep hS).o3); (obtain ⟨hj, hw, hk2, hk3, hk4, hk5, hk6⟩ := HKK.out); clear hS; go_simp; first | done | exact rfl)))); (case put974 => (simp only [Act.put, List.setIfInBounds_toArray, List.set_cons_zero, List.set_cons_succ]; first | done | exact rfl)); (case' next974 => skip)
  (refine' grow_call (u := .bool false) rfl Tryd.func26 (by kernel_rfl) rfl hGS rfl ?wt1010 ?run1010 ?put1010 ?next1010; (case wt1010 => rfl); (case run1010 => (intro w' hS H; exact vwalk (VX.out.below hS) GD.out (l := l.take k1) (HTA.out.below hS) (by omega) EBA.out)); (case put1010 => (simp only [Act.put, List.setIfInBounds_toArray, List.set_cons_zero, List.set_cons_succ]; first | done | exact rfl)); (case' next1010 => skip))
  (first | (refine' grow_skip rfl ?wt975 ?put975 ?next975; (case wt975 => rfl)) | (refine' grow_lit rfl ?wt975 ?run975 ?put975 ?next975; (case wt975 => rfl); (case run975 => (intro w' hS H; clear H; (obtain ⟨x0, x1, x2, -, -, -⟩ := (KX.out.keep hS).o3); (obtain ⟨hj, hw, hk2, hk3, hk4, hk5, hk6⟩ := HKK.out); clear hS; go_simp; first | done | exact rfl)))); (case put975 => (simp only [Act.put, List.setIfInBounds_toArray, List.set_cons_zero, List.set_cons_succ]; first | done | exact rfl)); (case' next975 => skip)
  (first | (refine' grow_skip rfl ?wt976 ?put976 ?next976; (case wt976 => rfl)) | (refine' grow_lit rfl ?wt976 ?run976 ?put976 ?next976; (case wt976 => rfl); (case run976 => (intro w' hS H; clear H; (obtain ⟨x0, x1, x2, -, -, -⟩ := (KX.out.keep hS).o3); (obtain ⟨hj, hw, hk2, hk3, hk4, hk5, hk6⟩ := HKK.out); clear hS; go_simp; first | done | exact rfl)))); (case put976 => (simp only [Act.put, List.setIfInBounds_toArray, List.set_cons_zero, List.set_cons_succ]; first | done | exact rfl)); (case' next976 => skip)
  (first | (refine' grow_skip rfl ?wt977 ?put977 ?next977; (case wt977 => rfl)) | (refine' grow_lit rfl ?wt977 ?run977 ?put977 ?next977; (case wt977 => rfl); (case run977 => (intro w' hS H; clear H; (obtain ⟨x0, x1, x2, -, -, -⟩ := (KX.out.keep hS).o3); (obtain ⟨hj, hw, hk2, hk3, hk4, hk5, hk6⟩ := HKK.out); clear hS; go_simp; first | done | exact rfl)))); (case put977 => (simp only [Act.put, List.setIfInBounds_toArray, List.set_cons_zero, List.set_cons_succ]; first | done | exact rfl)); (case' next977 => skip)
  (first | (refine' grow_skip rfl ?wt978 ?put978 ?next978; (case wt978 => rfl)) | (refine' grow_lit rfl ?wt978 ?run978 ?put978 ?next978; (case wt978 => rfl); (case run978 => (intro w' hS H; clear H; (obtain ⟨x0, x1, x2, -, -, -⟩ := (KX.out.keep hS).o3); (obtain ⟨hj, hw, hk2, hk3, hk4, hk5, hk6⟩ := HKK.out); clear hS; go_simp; first | done | exact rfl)))); (case put978 => (simp only [Act.put, List.setIfInBounds_toArray, List.set_cons_zero, List.set_cons_succ]; first | done | exact rfl)); (case' next978 => skip)
  (refine' grow_call (u := .bool BB) rfl Tryd.func26 (by kernel_rfl) rfl hGS rfl ?wt1011 ?run1011 ?put1011 ?next1011; (case wt1011 => rfl); (case run1011 => (intro w' hS H; exact vwalk (VX.out.below hS) GD.out (l := l.drop k) (HDR.out.below hS) (by omega) EBB.out)); (case put1011 => (simp only [Act.put, List.setIfInBounds_toArray, List.set_cons_zero, List.set_cons_succ]; first | done | exact rfl)); (case' next1011 => skip))
  (first | (refine' grow_skip rfl ?wt979 ?put979 ?next979; (case wt979 => rfl)) | (refine' grow_lit rfl ?wt979 ?run979 ?put979 ?next979; (case wt979 => rfl); (case run979 => (intro w' hS H; clear H; (obtain ⟨x0, x1, x2, -, -, -⟩ := (KX.out.keep hS).o3); (obtain ⟨hj, hw, hk2, hk3, hk4, hk5, hk6⟩ := HKK.out); clear hS; go_simp; first | done | exact rfl)))); (case put979 => (simp only [Act.put, List.setIfInBounds_toArray, List.set_cons_zero, List.set_cons_succ]; first | done | exact rfl)); (case' next979 => skip)
  (first | (refine' grow_skip rfl ?wt980 ?put980 ?next980; (case wt980 => rfl)) | (refine' grow_lit rfl ?wt980 ?run980 ?put980 ?next980; (case wt980 => rfl); (case run980 => (intro w' hS H; clear H; (obtain ⟨x0, x1, x2, -, -, -⟩ := (KX.out.keep hS).o3); (obtain ⟨hj, hw, hk2, hk3, hk4, hk5, hk6⟩ := HKK.out); clear hS; go_simp; first | done | exact rfl)))); (case put980 => (simp only [Act.put, List.setIfInBounds_toArray, List.set_cons_zero, List.set_cons_succ]; first | done | exact rfl)); (case' next980 => skip)
  intro w7 hb _
  have hd_ : Below W3.heap.size W3 w7 := hb
  have KA_ := Lib.hid (KA.out.keep hd_)
  have VA_ := Lib.hid (VA.out.below hd_)
  have HG_ := Lib.hid (HG.out.keep hd_)
  have HL_ := Lib.hid (HL.out.below hd_)
  have HTA_ := Lib.hid (HTA.out.below hd_)
  have HDR_ := Lib.hid (HDR.out.below hd_)
  have KX_ := Lib.hid (KX.out.keep hd_)
  have VX_ := Lib.hid (VX.out.below hd_)
  have B1 : Hid (Below w.heap.size w w7) := Lib.hid (B0.out.trans (hd_.mono B0.out.size))
  clear hb hd_ B0 KA VA HG HL HTA HDR KX VX
  have KA := KA_
  have VA := VA_
  have HG := HG_
  have HL := HL_
  have HTA := HTA_
  have HDR := HDR_
  have KX := KX_
  have VX := VX_
  have B0 := B1
  clear B1 KA_ VA_ HG_ HL_ HTA_ HDR_ KX_ VX_
  clear hGS
  go_wp2_with fail
  have hGS : Grows (fun w' => Below w7.heap.size w7 w') := Grows.below w7
  refine' wp_growL _ (fun w' => Below w7.heap.size w7 w') [[], [], [0, 1], [], [3], [4], [4, 5], [2, 6], [7], [8], [8], [8, 9, 10], [8], [8], [8], [8, 14], [8, 13, 15], [8, 12, 16], [8], [8], [8], [8, 19, 20], [8, 18, 21], [8, 17, 22], [8, 11, 23], [8, 24], [25]] (Fact.lit _ :: Fact.lit _ :: Fact.lit _ :: Fact.lit _ :: Fact.lit _ :: Fact.lit _ :: Fact.lit _ :: Fact.lit _ :: Fact.lit _ :: Fact.lit _ :: Fact.lit _ :: Fact.lit _ :: Fact.lit _ :: Fact.lit _ :: Fact.lit _ :: Fact.lit _ :: Fact.lit _ :: Fact.lit _ :: Fact.lit _ :: Fact.lit _ :: Fact.lit _ :: Fact.lit _ :: Fact.lit _ :: Fact.lit _ :: Fact.lit _ :: Fact.lit _ :: Fact.lit _ :: []) (by kernel_rfl) rfl (by kernel_rfl) (Below.refl _ _).drew ?seqfeig
  case' seqfeig => skip
  (first | (refine' grow_skip rfl ?wt981 ?put981 ?next981; (case wt981 => rfl)) | (refine' grow_lit rfl ?wt981 ?run981 ?put981 ?next981; (case wt981 => rfl); (case run981 => (intro w' hS H; clear H; (obtain ⟨x0, x1, x2, -, -, -⟩ := (KX.out.keep hS).o3); (obtain ⟨hj, hw, hk2, hk3, hk4, hk5, hk6⟩ := HKK.out); clear hS; go_simp; first | done | exact rfl)))); (case put981 => (simp only [Act.put, List.setIfInBounds_toArray, List.set_cons_zero, List.set_cons_succ]; first | done | exact rfl)); (case' next981 => skip)
  (first | (refine' grow_skip rfl ?wt982 ?put982 ?next982; (case wt982 => rfl)) | (refine' grow_lit rfl ?wt982 ?run982 ?put982 ?next982; (case wt982 => rfl); (case run982 => (intro w' hS H; clear H; (obtain ⟨x0, x1, x2, -, -, -⟩ := (KX.out.keep hS).o3); (obtain ⟨hj, hw, hk2, hk3, hk4, hk5, hk6⟩ := HKK.out); clear hS; go_simp; first | done | exact rfl)))); (case put982 => (simp only [Act.put, List.setIfInBounds_toArray, List.set_cons_zero, List.set_cons_succ]; first | done | exact rfl)); (case' next982 => skip)
  (refine' grow_call (u := .bool false) rfl Tryd.func26 (by kernel_rfl) rfl hGS rfl ?wt1012 ?run1012 ?put1012 ?next1012; (case wt1012 => rfl); (case run1012 => (intro w' hS H; exact vwalk (VX.out.below hS) GD.out (l := l) (HL.out.below hS) (by omega) HB.out)); (case put1012 => (simp only [Act.put, List.setIfInBounds_toArray, List.set_cons_zero, List.set_cons_succ]; first | done | exact rfl)); (case' next1012 => skip))
  (first | (refine' grow_skip rfl ?wt983 ?put983 ?next983; (case wt983 => rfl)) | (refine' grow_lit rfl ?wt983 ?run983 ?put983 ?next983; (case wt983 => rfl); (case run983 => (intro w' hS H; clear H; (obtain ⟨x0, x1, x2, -, -, -⟩ := (KX.out.keep hS).o3); (obtain ⟨hj, hw, hk2, hk3, hk4, hk5, hk6⟩ := HKK.out); clear hS; go_simp; first | done | exact rfl)))); (case put983 => (simp only [Act.put, List.setIfInBounds_toArray, List.set_cons_zero, List.set_cons_succ]; first | done | exact rfl)); (case' next983 => skip)
  (first | (refine' grow_skip rfl ?wt984 ?put984 ?next984; (case wt984 => rfl)) | (refine' grow_lit rfl ?wt984 ?run984 ?put984 ?next984; (case wt984 => rfl); (case run984 => (intro w' hS H; clear H; (obtain ⟨x0, x1, x2, -, -, -⟩ := (KX.out.keep hS).o3); (obtain ⟨hj, hw, hk2, hk3, hk4, hk5, hk6⟩ := HKK.out); clear hS; go_simp; first | done | exact rfl)))); (case put984 => (simp only [Act.put, List.setIfInBounds_toArray, List.set_cons_zero, List.set_cons_succ]; first | done | exact rfl)); (case' next984 => skip)
  (first | (refine' grow_skip rfl ?wt985 ?put985 ?next985; (case wt985 => rfl)) | (refine' grow_lit rfl ?wt985 ?run985 ?put985 ?next985; (case wt985 => rfl); (case run985 => (intro w' hS H; clear H; (obtain ⟨x0, x1, x2, -, -, -⟩ := (KX.out.keep hS).o3); (obtain ⟨hj, hw, hk2, hk3, hk4, hk5, hk6⟩ := HKK.out); clear hS; go_simp; first | done | exact rfl)))); (case put985 => (simp only [Act.put, List.setIfInBounds_toArray, List.set_cons_zero, List.set_cons_succ]; first | done | exact rfl)); (case' next985 => skip)
  (first | (refine' grow_skip rfl ?wt986 ?put986 ?next986; (case wt986 => rfl)) | (refine' grow_lit rfl ?wt986 ?run986 ?put986 ?next986; (case wt986 => rfl); (case run986 => (intro w' hS H; clear H; (obtain ⟨x0, x1, x2, -, -, -⟩ := (KX.out.keep hS).o3); (obtain ⟨hj, hw, hk2, hk3, hk4, hk5, hk6⟩ := HKK.out); clear hS; go_simp; first | done | exact rfl)))); (case put986 => (simp only [Act.put, List.setIfInBounds_toArray, List.set_cons_zero, List.set_cons_succ]; first | done | exact rfl)); (case' next986 => skip)
  (first | (refine' grow_skip rfl ?wt987 ?put987 ?next987; (case wt987 => rfl)) | (refine' grow_lit rfl ?wt987 ?run987 ?put987 ?next987; (case wt987 => rfl); (case run987 => (intro w' hS H; clear H; (obtain ⟨x0, x1, x2, -, -, -⟩ := (KX.out.keep hS).o3); (obtain ⟨hj, hw, hk2, hk3, hk4, hk5, hk6⟩ := HKK.out); clear hS; go_simp; first | done | exact rfl)))); (case put987 => (simp only [Act.put, List.setIfInBounds_toArray, List.set_cons_zero, List.set_cons_succ]; first | done | exact rfl)); (case' next987 => skip)
  (first | (refine' grow_skip rfl ?wt988 ?put988 ?next988; (case wt988 => rfl)) | (refine' grow_lit rfl ?wt988 ?run988 ?put988 ?next988; (case wt988 => rfl); (case run988 => (intro w' hS H; clear H; (obtain ⟨x0, x1, x2, -, -, -⟩ := (KX.out.keep hS).o3); (obtain ⟨hj, hw, hk2, hk3, hk4, hk5, hk6⟩ := HKK.out); clear hS; go_simp; first | done | exact rfl)))); (case put988 => (simp only [Act.put, List.setIfInBounds_toArray, List.set_cons_zero, List.set_cons_succ]; first | done | exact rfl)); (case' next988 => skip)
  (first | (refine' grow_skip rfl ?wt989 ?put989 ?next989; (case wt989 => rfl)) | (refine' grow_lit rfl ?wt989 ?run989 ?put989 ?next989; (case wt989 => rfl); (case run989 => (intro w' hS H; clear H; (obtain ⟨x0, x1, x2, -, -, -⟩ := (KX.out.keep hS).o3); (obtain ⟨hj, hw, hk2, hk3, hk4, hk5, hk6⟩ := HKK.out); clear hS; go_simp; first | done | exact rfl)))); (case put989 => (simp only [Act.put, List.setIfInBounds_toArray, List.set_cons_zero, List.set_cons_succ]; first | done | exact rfl)); (case' next989 => skip)
  (first | (refine' grow_skip rfl ?wt990 ?put990 ?next990; (case wt990 => rfl)) | (refine' grow_lit rfl ?wt990 ?run990 ?put990 ?next990; (case wt990 => rfl); (case run990 => (intro w' hS H; clear H; (obtain ⟨x0, x1, x2, -, -, -⟩ := (KX.out.keep hS).o3); (obtain ⟨hj, hw, hk2, hk3, hk4, hk5, hk6⟩ := HKK.out); clear hS; go_simp; first | done | exact rfl)))); (case put990 => (simp only [Act.put, List.setIfInBounds_toArray, List.set_cons_zero, List.set_cons_succ]; first | done | exact rfl)); (case' next990 => skip)
  (refine' grow_call (u := .int .i64 CW) rfl Tryd.func28 (by kernel_rfl) rfl hGS rfl ?wt1013 ?run1013 ?put1013 ?next1013; (case wt1013 => rfl); (case run1013 => (intro w' hS H; exact vcost (VX.out.below hS) GD.out (l := l) (HL.out.below hS) (by omega) EC.out)); (case put1013 => (simp only [Act.put, List.setIfInBounds_toArray, List.set_cons_zero, List.set_cons_succ]; first | done | exact rfl)); (case' next1013 => skip))
  (first | (refine' grow_skip rfl ?wt991 ?put991 ?next991; (case wt991 => rfl)) | (refine' grow_lit rfl ?wt991 ?run991 ?put991 ?next991; (case wt991 => rfl); (case run991 => (intro w' hS H; clear H; (obtain ⟨x0, x1, x2, -, -, -⟩ := (KX.out.keep hS).o3); (obtain ⟨hj, hw, hk2, hk3, hk4, hk5, hk6⟩ := HKK.out); clear hS; go_simp; first | done | exact rfl)))); (case put991 => (simp only [Act.put, List.setIfInBounds_toArray, List.set_cons_zero, List.set_cons_succ]; first | done | exact rfl)); (case' next991 => skip)
  (first | (refine' grow_skip rfl ?wt992 ?put992 ?next992; (case wt992 => rfl)) | (refine' grow_lit rfl ?wt992 ?run992 ?put992 ?next992; (case wt992 => rfl); (case run992 => (intro w' hS H; clear H; (obtain ⟨x0, x1, x2, -, -, -⟩ := (KX.out.keep hS).o3); (obtain ⟨hj, hw, hk2, hk3, hk4, hk5, hk6⟩ := HKK.out); clear hS; go_simp; first | done | exact rfl)))); (case put992 => (simp only [Act.put, List.setIfInBounds_toArray, List.set_cons_zero, List.set_cons_succ]; first | done | exact rfl)); (case' next992 => skip)
  (first | (refine' grow_skip rfl ?wt993 ?put993 ?next993; (case wt993 => rfl)) | (refine' grow_lit rfl ?wt993 ?run993 ?put993 ?next993; (case wt993 => rfl); (case run993 => (intro w' hS H; clear H; (obtain ⟨x0, x1, x2, -, -, -⟩ := (KX.out.keep hS).o3); (obtain ⟨hj, hw, hk2, hk3, hk4, hk5, hk6⟩ := HKK.out); clear hS; go_simp; first | done | exact rfl)))); (case put993 => (simp only [Act.put, List.setIfInBounds_toArray, List.set_cons_zero, List.set_cons_succ]; first | done | exact rfl)); (case' next993 => skip)
  (first | (refine' grow_skip rfl ?wt994 ?put994 ?next994; (case wt994 => rfl)) | (refine' grow_lit rfl ?wt994 ?run994 ?put994 ?next994; (case wt994 => rfl); (case run994 => (intro w' hS H; clear H; (obtain ⟨x0, x1, x2, -, -, -⟩ := (KX.out.keep hS).o3); (obtain ⟨hj, hw, hk2, hk3, hk4, hk5, hk6⟩ := HKK.out); clear hS; go_simp; first | done | exact rfl)))); (case put994 => (simp only [Act.put, List.setIfInBounds_toArray, List.set_cons_zero, List.set_cons_succ]; first | done | exact rfl)); (case' next994 => skip)
  (first | (refine' grow_skip rfl ?wt995 ?put995 ?next995; (case wt995 => rfl)) | (refine' grow_lit rfl ?wt995 ?run995 ?put995 ?next995; (case wt995 => rfl); (case run995 => (intro w' hS H; clear H; (obtain ⟨x0, x1, x2, -, -, -⟩ := (KX.out.keep hS).o3); (obtain ⟨hj, hw, hk2, hk3, hk4, hk5, hk6⟩ := HKK.out); clear hS; go_simp; first | done | exact rfl)))); (case put995 => (simp only [Act.put, List.setIfInBounds_toArray, List.set_cons_zero, List.set_cons_succ]; first | done | exact rfl)); (case' next995 => skip)
  (refine' grow_call (u := .int .i64 CA) rfl Tryd.func28 (by kernel_rfl) rfl hGS rfl ?wt1014 ?run1014 ?put1014 ?next1014; (case wt1014 => rfl); (case run1014 => (intro w' hS H; exact vcost (VX.out.below hS) GD.out (l := l.take k1) (HTA.out.below hS) (by omega) ECA.out)); (case put1014 => (simp only [Act.put, List.setIfInBounds_toArray, List.set_cons_zero, List.set_cons_succ]; first | done | exact rfl)); (case' next1014 => skip))
  (first | (refine' grow_skip rfl ?wt996 ?put996 ?next996; (case wt996 => rfl)) | (refine' grow_lit rfl ?wt996 ?run996 ?put996 ?next996; (case wt996 => rfl); (case run996 => (intro w' hS H; clear H; (obtain ⟨x0, x1, x2, -, -, -⟩ := (KX.out.keep hS).o3); (obtain ⟨hj, hw, hk2, hk3, hk4, hk5, hk6⟩ := HKK.out); clear hS; go_simp; first | done | exact rfl)))); (case put996 => (simp only [Act.put, List.setIfInBounds_toArray, List.set_cons_zero, List.set_cons_succ]; first | done | exact rfl)); (case' next996 => skip)
  (first | (refine' grow_skip rfl ?wt997 ?put997 ?next997; (case wt997 => rfl)) | (refine' grow_lit rfl ?wt997 ?run997 ?put997 ?next997; (case wt997 => rfl); (case run997 => (intro w' hS H; clear H; (obtain ⟨x0, x1, x2, -, -, -⟩ := (KX.out.keep hS).o3); (obtain ⟨hj, hw, hk2, hk3, hk4, hk5, hk6⟩ := HKK.out); clear hS; go_simp; first | done | exact rfl)))); (case put997 => (simp only [Act.put, List.setIfInBounds_toArray, List.set_cons_zero, List.set_cons_succ]; first | done | exact rfl)); (case' next997 => skip)
  (first | (refine' grow_skip rfl ?wt998 ?put998 ?next998; (case wt998 => rfl)) | (refine' grow_lit rfl ?wt998 ?run998 ?put998 ?next998; (case wt998 => rfl); (case run998 => (intro w' hS H; clear H; (obtain ⟨x0, x1, x2, -, -, -⟩ := (KX.out.keep hS).o3); (obtain ⟨hj, hw, hk2, hk3, hk4, hk5, hk6⟩ := HKK.out); clear hS; go_simp; first | done | exact rfl)))); (case put998 => (simp only [Act.put, List.setIfInBounds_toArray, List.set_cons_zero, List.set_cons_succ]; first | done | exact rfl)); (case' next998 => skip)
  (first | (refine' grow_skip rfl ?wt999 ?put999 ?next999; (case wt999 => rfl)) | (refine' grow_lit rfl ?wt999 ?run999 ?put999 ?next999; (case wt999 => rfl); (case run999 => (intro w' hS H; clear H; (obtain ⟨x0, x1, x2, -, -, -⟩ := (KX.out.keep hS).o3); (obtain ⟨hj, hw, hk2, hk3, hk4, hk5, hk6⟩ := HKK.out); clear hS; go_simp; first | done | exact rfl)))); (case put999 => (simp only [Act.put, List.setIfInBounds_toArray, List.set_cons_zero, List.set_cons_succ]; first | done | exact rfl)); (case' next999 => skip)
  (refine' grow_call (u := .int .i64 CB) rfl Tryd.func28 (by kernel_rfl) rfl hGS rfl ?wt1015 ?run1015 ?put1015 ?next1015; (case wt1015 => rfl); (case run1015 => (intro w' hS H; exact vcost (VX.out.below hS) GD.out (l := l.drop k) (HDR.out.below hS) (by omega) ECB.out)); (case put1015 => (simp only [Act.put, List.setIfInBounds_toArray, List.set_cons_zero, List.set_cons_succ]; first | done | exact rfl)); (case' next1015 => skip))
  (refine' grow_call (u := .int .i64 CW) rfl Tryd.func32 (by kernel_rfl) rfl hGS rfl ?wt1016 ?run1016 ?put1016 ?next1016; (case wt1016 => rfl); (case run1016 => (intro w' hS H; (have h1 := HCA.out); (have h2 := HCB.out); exact (add_any CA CB w' (by omega) (by omega) (by omega) (by omega)).mono (fun e w2 h => ⟨h.1.trans (by rw [HCC.out]), h.2 ▸ Below.refl _ _⟩))); (case put1016 => (simp only [Act.put, List.setIfInBounds_toArray, List.set_cons_zero, List.set_cons_succ]; first | done | exact rfl)); (case' next1016 => skip))
  (first | (refine' grow_skip rfl ?wt1000 ?put1000 ?next1000; (case wt1000 => rfl)) | (refine' grow_lit rfl ?wt1000 ?run1000 ?put1000 ?next1000; (case wt1000 => rfl); (case run1000 => (intro w' hS H; clear H; (obtain ⟨x0, x1, x2, -, -, -⟩ := (KX.out.keep hS).o3); (obtain ⟨hj, hw, hk2, hk3, hk4, hk5, hk6⟩ := HKK.out); clear hS; go_simp; first | done | exact rfl)))); (case put1000 => (simp only [Act.put, List.setIfInBounds_toArray, List.set_cons_zero, List.set_cons_succ]; first | done | exact rfl)); (case' next1000 => skip)
  (first | (refine' grow_skip rfl ?wt1001 ?put1001 ?next1001; (case wt1001 => rfl)) | (refine' grow_lit rfl ?wt1001 ?run1001 ?put1001 ?next1001; (case wt1001 => rfl); (case run1001 => (intro w' hS H; clear H; (obtain ⟨x0, x1, x2, -, -, -⟩ := (KX.out.keep hS).o3); (obtain ⟨hj, hw, hk2, hk3, hk4, hk5, hk6⟩ := HKK.out); clear hS; go_simp; first | done | exact rfl)))); (case put1001 => (simp only [Act.put, List.setIfInBounds_toArray, List.set_cons_zero, List.set_cons_succ]; first | done | exact rfl)); (case' next1001 => skip)
  (first | (refine' grow_skip rfl ?wt1002 ?put1002 ?next1002; (case wt1002 => rfl)) | (refine' grow_lit rfl ?wt1002 ?run1002 ?put1002 ?next1002; (case wt1002 => rfl); (case run1002 => (intro w' hS H; clear H; (obtain ⟨x0, x1, x2, -, -, -⟩ := (KX.out.keep hS).o3); (obtain ⟨hj, hw, hk2, hk3, hk4, hk5, hk6⟩ := HKK.out); clear hS; go_simp; first | done | exact rfl)))); (case put1002 => (simp only [Act.put, List.setIfInBounds_toArray, List.set_cons_zero, List.set_cons_succ]; first | done | exact rfl)); (case' next1002 => skip)
  intro w9 hb _
  have HF := Lib.hid (B0.out.trans (hb.mono B0.out.size))
  clear hb hGS
  go_wp2_with fail
  go_ret
  exact ⟨rfl, HF.out⟩

theorem parts_walk (v : Value) (n : NetD) (u : Value) (l : List Int) (at_ : Int) (w : World) (hg : ErrT w) (hv : NetV w v n) (hin : InNet n) (hu : I64s w u l) (_ : In64 l) (ha0 : 0 ≤ at_) (ha1 : at_ ≤ 255) :
    Calls Tryd.prog 7 #[v, u, .int .u8 at_] w fun e w' => e = .returned (.bool true) ∧ Below w.heap.size w w' := by
  obtain ⟨lq, lc, rfl⟩ := hu.shape
  cases hm : mayN n with
  | false => exact parts_no v n lq lc l at_ w hg hv hin hm
  | true =>
    by_cases h1 : l.length < 1
    · exact parts_short v n lq lc l at_ w hg hv hin hm h1
    · by_cases h2 : 60 < l.length
      · exact parts_long v n lq lc l at_ w hg hv hin hm h2
      · rcases hu with ⟨rfl, _⟩ | ⟨_, b, o, c, hlc, hcm, e, hc⟩
        · simp at h1
        · cases e
          have hm0 : 0 ≤ at_.tmod (l.length : Int) := Int.tmod_nonneg _ ha0
          have hm1 : at_.tmod (l.length : Int) < (l.length : Int) := Int.tmod_lt_of_pos _ (by omega)
          obtain ⟨k, hmod⟩ : ∃ k : Nat, at_.tmod (l.length : Int) = k := ⟨(at_.tmod (l.length : Int)).toNat, by omega⟩
          have hk : k < l.length := by omega
          cases hBA : n.walk (l.take (k + 1)) with
          | true => exact parts_t v n b o _ l at_ k (k + 1) w hg hv hin hc hlc hcm hk ha0 ha1 hmod rfl hm (by omega) (by omega) hBA
          | false => exact parts_f v n b o _ l at_ k (k + 1) w hg hv hin hc hlc hcm hk ha0 ha1 hmod rfl hm (by omega) (by omega) hBA

set_option maxRecDepth 100000 in
theorem netParts_walks : Walks laidAll 7 Tryd.f7 := by
  intro H enc W args ds g
  obtain ⟨ps, hA⟩ := g.reads
  obtain ⟨base, hval⟩ := g.okay
  rw [Tryd.params7] at hA hval
  obtain ⟨v0, vs0, d0, ds0, p0, q0, hargs, rfl, rfl, h0, r0⟩ := trodAll_cons hA
  obtain ⟨v1, vs1, d1, ds1, p1, q1, rfl, rfl, rfl, h1, r1⟩ := trodAll_cons r0
  obtain ⟨v2, vs2, d2, ds2, p2, q2, rfl, rfl, rfl, h2, r2⟩ := trodAll_cons r1
  obtain ⟨rfl, rfl, rfl⟩ := trodAll_nil r2
  obtain rfl : args = #[v0, v1, v2] := Array.toList_inj.1 hargs
  obtain ⟨n0, w0, u0⟩ := open_net (hval 0 26 v0 rfl rfl) h0
  obtain ⟨x1, w1, u1⟩ := open_intsIn (hval 1 46 v1 rfl rfl) h1
  obtain ⟨x2, rfl, rfl, rfl, w2⟩ := open_int Tryd.underlying5 (hval 2 5 v2 rfl rfl) h2
  exact parts_walk v0 n0 v1 x1 x2 W (errT_of_laid g.laid) w0 u0 w1 u1 (wfu8 w2).1 (wfu8 w2).2

theorem netParts_row : Rows.NetPartsSaid :=
  OpenClaim.holds_of_wide 7 Tryd.f7 rfl rfl rfl rfl rfl rfl rfl ⟨rfl, rfl, rfl, rfl, rfl⟩ rfl rfl rfl rfl rfl (by kernel_rfl) Tryd.func7 (by kernel_rfl)
    (of_decide_eq_true (by kernel_rfl)) (by unfold Func.isWrapper; rw [if_neg (of_decide_eq_false (by kernel_rfl))]; exact ⟨rfl, rfl⟩)
    (fun os started H enc _ => law_lifted (s := Rows.netPartsSpec) (L := laidAll) Tryd.func7 (by kernel_rfl) rfl (by kernel_rfl)
      (fun H ds hl => by
        rw [Tryd.params7] at hl
        match ds, hl with
        | [_, _, _], _ => exact ⟨rfl, rfl, rfl⟩)
      (by kernel_rfl) os started H enc
      (ChangeSpec.witness_at (enc := enc) (C := Tryd.checked) (os := os) (X := fun w _ => laidMetH Tryd.prog laidAll w) false (laidWorld os) #[.agg #[.slice none 0 0, .slice none 0 0, .slice none 0 0], .slice none 0 0, .int .u8 0] 8 rfl (by kernel_rfl) (by kernel_rfl) (by kernel_rfl) (by kernel_rfl) (by kernel_rfl) (laidWorld_met os _))
      netParts_walks)

theorem netParts_card : Rows.NetPartsCardSaid :=
  Claim7.holds_tied_plain_at .later [] laidKindsAll true (Rows.netPartsCard.stood.harness) true
    netParts_row (fun _ h => by cases h) (by kernel_rfl) (fun _ h => by cases h) netParts_row_tie rfl ⟨rfl, rfl⟩ (by kernel_rfl) rfl
    (fun f fn hf hfn => by
      obtain rfl : f = 7 := Option.some.inj ((show Tryd.prog.funcNamed "roundsman/roundsmanlaw3.NetParts" = some 7 by kernel_rfl).symm.trans hf) |>.symm
      obtain rfl : fn = Tryd.f7 := (Option.some.inj (Tryd.func7.symm.trans hfn)).symm
      exact ⟨by kernel_rfl, fun j t ht => by
        rw [Tryd.params7] at ht
        exact stand_all #[26, 46, 5] (by kernel_rfl) j t ht⟩)
    (by kernel_rfl)
#print axioms netParts_card

end Go.Proofs.YtbdompngabokgaaDoor
