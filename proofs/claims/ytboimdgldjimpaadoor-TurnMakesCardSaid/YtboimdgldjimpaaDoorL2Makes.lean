/-
  PROVED: tables of any size, free, and without a way back, or why there are none, are told by the program as the document has them; what is told may be, and a table without a way back forbids just as many turns as it has ins. For every three numbers. Conditions: the listed library variable holds what the program's own text lays (the card ties it).
-/
import Derived.Test.YtboimdgldjimpaaDoorKnown2
import Derived.Test.YtboimdgldjimpaaDoorLaw2T
import Derived.Test.YtboimdgldjimpaaDoorLaid2
import Derived.Test.YtboimdgldjimpaaDoorCards
import Derived.Test.YtboimdgldjimpaaDoorTie
import Derived.SevenTiedAt
namespace Go.Proofs.YtboimdgldjimpaaDoor
open Go.ChangeShapes Go.WideShapes Go.ChangeAt Go.RowKit

set_option maxHeartbeats 4000000 in
set_option maxRecDepth 100000 in
theorem makes_11 (ins outs n : Int) (aI aO : Int) (al : List Int) (xI xO : Int) (xl : List Int) (w : World) (hg : ErrT w) (hca : chkT aI aO al = (0, 0)) (inA : In64 al) (hcx : chkT xI xO xl = (0, 0)) (inX : In64 xl) (hbn : bansC xl = n)
    (ha1 : ∀ w, Calls Tryd.prog 22 #[.int .i64 ins, .int .i64 outs] w (TEPost aI aO al [] 0 w))
    (ha2 : ∀ w, Calls Tryd.prog 23 #[.int .i64 ins, .int .i64 outs] w (TWPost aI aO al [] 0 w))
    (hb1 : ∀ w, Calls Tryd.prog 24 #[.int .i64 n] w (TEPost xI xO xl [] 0 w))
    (hb2 : ∀ w, Calls Tryd.prog 25 #[.int .i64 n] w (TWPost xI xO xl [] 0 w)) :
    Calls Tryd.prog 4 #[.int .i64 ins, .int .i64 outs, .int .i64 n] w fun e w' => e = .returned (.bool true) ∧ Below w.heap.size w w' := by
  have HG := Lib.hid hg
  have HGL := Lib.hid hg.lt
  have HA1 := Lib.hid ha1
  have HA2 := Lib.hid ha2
  have HB1 := Lib.hid hb1
  have HB2 := Lib.hid hb2
  have HCA := Lib.hid hca
  have HCX := Lib.hid hcx
  have HBN := Lib.hid hbn
  clear hg ha1 ha2 hb1 hb2 hca hcx hbn
  go_enter Tryd.func4, Tryd.ntmps4
  go_wp2_with fail
  refine (known2_any _ HG.out).mono ?_
  rintro e w0 ⟨rfl, hb0⟩
  have HB0 := Lib.hid hb0
  clear hb0
  go_wp2_with fail
  refine (HA1.out _).mono ?_
  rintro e w1 ⟨tv, ev, rfl, ⟨au, rfl, hT⟩, hF, hb⟩
  obtain ⟨aq, ac, rfl⟩ := hT.shape
  obtain rfl := hF.none
  go_wp2_with fail
  obtain ⟨W1, hW1⟩ := named (w1.alloc (.cells #[.int .i64 aI, .int .i64 aO, .slice aq al.length ac] 34))
  rw [← hW1]
  have hc1 : Below w1.heap.size w1 W1 := by rw [hW1]; exact below_alloc1 _
  have hd1 : Below w0.heap.size w0 W1 := hb.trans (hc1.mono hb.size)
  have B0 : Hid (Below w.heap.size w W1) := Lib.hid (HB0.out.trans (hd1.mono HB0.out.size))
  have KA : Hid (Blk W1 (w1.heap.size) #[.int .i64 aI, .int .i64 aO, .slice aq al.length ac] 34) := by rw [hW1]; exact Lib.hid (Blk.new _ _ _ _ rfl)
  have TA := Lib.hid (hT.below hc1)
  have FA := Lib.hid (hF.below hc1)
  clear hb hT hF hd1 hc1 hW1 
  refine (HA2.out _).mono ?_
  rintro e w2 ⟨tv, wv, rfl, ⟨bu, rfl, hT⟩, hW, hb⟩
  obtain ⟨bq, bc, rfl⟩ := hT.shape
  obtain ⟨gq, gn, gc, rfl⟩ := hW.shape
  go_wp2_with fail
  obtain ⟨W2, hW2⟩ := named ((w2.alloc (.cells #[.int .i64 aI, .int .i64 aO, .slice bq al.length bc] 24)).alloc (.cells #[.slice gq gn gc, .int .i64 0] 28))
  rw [← hW2]
  have hc2 : Below w2.heap.size w2 W2 := by rw [hW2]; exact below_alloc2 _ _
  have hd2 : Below W1.heap.size W1 W2 := hb.trans (hc2.mono hb.size)
  have KA_ := Lib.hid (KA.out.keep hd2)
  have TA_ := Lib.hid (TA.out.below hd2)
  have FA_ := Lib.hid (FA.out.below hd2)
  clear KA TA FA
  have KA := KA_
  have TA := TA_
  have FA := FA_
  clear KA_ TA_ FA_
  have B1 : Hid (Below w.heap.size w W2) := Lib.hid (B0.out.trans (hd2.mono B0.out.size))
  clear B0
  have B0 := B1
  clear B1
  have KB : Hid (Blk W2 (w2.heap.size) #[.int .i64 aI, .int .i64 aO, .slice bq al.length bc] 24) := by rw [hW2]; exact Lib.hid ((Blk.new _ _ _ _ rfl).old _)
  have KG : Hid (Blk W2 (w2.heap.size + 1) #[.slice gq gn gc, .int .i64 0] 28) := by rw [hW2]; exact Lib.hid (Blk.new _ _ _ _ (by simp))
  have TB := Lib.hid (hT.below hc2)
  have WG := Lib.hid (hW.below hc2)
  clear hb hT hW hd2 hc2 hW2 
  refine (HB1.out _).mono ?_
  rintro e w3 ⟨tv, ev, rfl, ⟨xu, rfl, hT⟩, hF, hb⟩
  obtain ⟨xq, xc, rfl⟩ := hT.shape
  obtain rfl := hF.none
  go_wp2_with fail
  obtain ⟨W3, hW3⟩ := named (w3.alloc (.cells #[.int .i64 xI, .int .i64 xO, .slice xq xl.length xc] 34))
  rw [← hW3]
  have hc3 : Below w3.heap.size w3 W3 := by rw [hW3]; exact below_alloc1 _
  have hd3 : Below W2.heap.size W2 W3 := hb.trans (hc3.mono hb.size)
  have KA_ := Lib.hid (KA.out.keep hd3)
  have TA_ := Lib.hid (TA.out.below hd3)
  have FA_ := Lib.hid (FA.out.below hd3)
  have KB_ := Lib.hid (KB.out.keep hd3)
  have KG_ := Lib.hid (KG.out.keep hd3)
  have TB_ := Lib.hid (TB.out.below hd3)
  have WG_ := Lib.hid (WG.out.below hd3)
  clear KA TA FA KB KG TB WG
  have KA := KA_
  have TA := TA_
  have FA := FA_
  have KB := KB_
  have KG := KG_
  have TB := TB_
  have WG := WG_
  clear KA_ TA_ FA_ KB_ KG_ TB_ WG_
  have B1 : Hid (Below w.heap.size w W3) := Lib.hid (B0.out.trans (hd3.mono B0.out.size))
  clear B0
  have B0 := B1
  clear B1
  have KX : Hid (Blk W3 (w3.heap.size) #[.int .i64 xI, .int .i64 xO, .slice xq xl.length xc] 34) := by rw [hW3]; exact Lib.hid (Blk.new _ _ _ _ rfl)
  have TX := Lib.hid (hT.below hc3)
  have FX := Lib.hid (hF.below hc3)
  clear hb hT hF hd3 hc3 hW3 
  refine (HB2.out _).mono ?_
  rintro e w4 ⟨tv, wv, rfl, ⟨yu, rfl, hT⟩, hW, hb⟩
  obtain ⟨yq, yc, rfl⟩ := hT.shape
  obtain ⟨hq, hn, hcc, rfl⟩ := hW.shape
  go_wp2_with fail
  obtain ⟨W4, hW4⟩ := named ((w4.alloc (.cells #[.int .i64 xI, .int .i64 xO, .slice yq xl.length yc] 24)).alloc (.cells #[.slice hq hn hcc, .int .i64 0] 28))
  rw [← hW4]
  have hc4 : Below w4.heap.size w4 W4 := by rw [hW4]; exact below_alloc2 _ _
  have hd4 : Below W3.heap.size W3 W4 := hb.trans (hc4.mono hb.size)
  have KA_ := Lib.hid (KA.out.keep hd4)
  have TA_ := Lib.hid (TA.out.below hd4)
  have FA_ := Lib.hid (FA.out.below hd4)
  have KB_ := Lib.hid (KB.out.keep hd4)
  have KG_ := Lib.hid (KG.out.keep hd4)
  have TB_ := Lib.hid (TB.out.below hd4)
  have WG_ := Lib.hid (WG.out.below hd4)
  have KX_ := Lib.hid (KX.out.keep hd4)
  have TX_ := Lib.hid (TX.out.below hd4)
  have FX_ := Lib.hid (FX.out.below hd4)
  clear KA TA FA KB KG TB WG KX TX FX
  have KA := KA_
  have TA := TA_
  have FA := FA_
  have KB := KB_
  have KG := KG_
  have TB := TB_
  have WG := WG_
  have KX := KX_
  have TX := TX_
  have FX := FX_
  clear KA_ TA_ FA_ KB_ KG_ TB_ WG_ KX_ TX_ FX_
  have B1 : Hid (Below w.heap.size w W4) := Lib.hid (B0.out.trans (hd4.mono B0.out.size))
  clear B0
  have B0 := B1
  clear B1
  have KY : Hid (Blk W4 (w4.heap.size) #[.int .i64 xI, .int .i64 xO, .slice yq xl.length yc] 24) := by rw [hW4]; exact Lib.hid ((Blk.new _ _ _ _ rfl).old _)
  have KH : Hid (Blk W4 (w4.heap.size + 1) #[.slice hq hn hcc, .int .i64 0] 28) := by rw [hW4]; exact Lib.hid (Blk.new _ _ _ _ (by simp))
  have TY := Lib.hid (hT.below hc4)
  have WH := Lib.hid (hW.below hc4)
  clear hb hT hW hd4 hc4 hW4 
  have hGS : Grows (fun w' => Below W4.heap.size W4 w') := Grows.below W4
  refine' wp_growL _ (fun w' => Below W4.heap.size W4 w') [[], [], [0, 1], [2], [3], [3, 4], [3], [3, 5, 6], [3, 7], [8], [9], [9], [9, 10, 11], [9, 12], [13], [14], [14, 15], [14], [14, 16, 17], [14, 18], [19], [20], [20, 21], [20, 22], [20, 23], [24], [24, 25], [24, 26], [20, 24, 27], [20, 28], [29], [30], [30, 31], [30, 32], [30, 33], [34], [34, 35], [34, 36], [34, 37], [38], [38, 39], [38], [38, 40, 41], [34, 38, 42], [30, 34, 43], [30, 44], [45]] (Fact.lit _ :: Fact.lit _ :: Fact.lit _ :: Fact.lit _ :: Fact.lit _ :: Fact.prop _ _ :: Fact.lit _ :: Fact.lit _ :: Fact.lit _ :: Fact.lit _ :: Fact.lit _ :: Fact.lit _ :: Fact.lit _ :: Fact.lit _ :: Fact.lit _ :: Fact.lit _ :: Fact.prop _ _ :: Fact.lit _ :: Fact.lit _ :: Fact.lit _ :: Fact.lit _ :: Fact.lit _ :: Fact.lit _ :: Fact.lit _ :: Fact.lit _ :: Fact.lit _ :: Fact.lit _ :: Fact.lit _ :: Fact.lit _ :: Fact.lit _ :: Fact.lit _ :: Fact.lit _ :: Fact.lit _ :: Fact.lit _ :: Fact.lit _ :: Fact.lit _ :: Fact.lit _ :: Fact.lit _ :: Fact.lit _ :: Fact.lit _ :: Fact.lit _ :: Fact.lit _ :: Fact.lit _ :: Fact.lit _ :: Fact.lit _ :: Fact.lit _ :: Fact.lit _ :: []) (by kernel_rfl) rfl (by kernel_rfl) (Below.refl _ _).drew ?seqmakes_11
  case' seqmakes_11 => skip
  (first | (refine' grow_skip rfl ?wt149 ?put149 ?next149; (case wt149 => rfl)) | (refine' grow_lit rfl ?wt149 ?run149 ?put149 ?next149; (case wt149 => rfl); (case run149 => (intro w' hS H; clear H; (obtain ⟨a0, a1, a2, -, -, -⟩ := (KA.out.keep hS).o3); (obtain ⟨b0, b1, b2, -, -, -⟩ := (KB.out.keep hS).o3); (obtain ⟨g0, g1, -, -⟩ := (KG.out.keep hS).o2); (obtain ⟨x0, x1, x2, -, -, -⟩ := (KX.out.keep hS).o3); (obtain ⟨y0, y1, y2, -, -, -⟩ := (KY.out.keep hS).o3); (obtain ⟨h0, h1, -, -⟩ := (KH.out.keep hS).o2); clear hS; go_simp; first | done | exact rfl)))); (case put149 => (simp only [Act.put, List.setIfInBounds_toArray, List.set_cons_zero, List.set_cons_succ]; first | done | exact rfl)); (case' next149 => skip)
  (first | (refine' grow_skip rfl ?wt150 ?put150 ?next150; (case wt150 => rfl)) | (refine' grow_lit rfl ?wt150 ?run150 ?put150 ?next150; (case wt150 => rfl); (case run150 => (intro w' hS H; clear H; (obtain ⟨a0, a1, a2, -, -, -⟩ := (KA.out.keep hS).o3); (obtain ⟨b0, b1, b2, -, -, -⟩ := (KB.out.keep hS).o3); (obtain ⟨g0, g1, -, -⟩ := (KG.out.keep hS).o2); (obtain ⟨x0, x1, x2, -, -, -⟩ := (KX.out.keep hS).o3); (obtain ⟨y0, y1, y2, -, -, -⟩ := (KY.out.keep hS).o3); (obtain ⟨h0, h1, -, -⟩ := (KH.out.keep hS).o2); clear hS; go_simp; first | done | exact rfl)))); (case put150 => (simp only [Act.put, List.setIfInBounds_toArray, List.set_cons_zero, List.set_cons_succ]; first | done | exact rfl)); (case' next150 => skip)
  (refine' grow_call (u := .bool true) rfl Tryd.func10 (by kernel_rfl) rfl hGS rfl ?wt307 ?run307 ?put307 ?next307; (case wt307 => rfl); (case run307 => (intro w' hS H; exact tells_post _ _ [] 0 w' (HG.out.below HGL.out (B0.out.trans (hS.mono B0.out.size))) (FA.out.below hS) (WG.out.below hS) (Or.inl ⟨rfl, rfl⟩))); (case put307 => (simp only [Act.put, List.setIfInBounds_toArray, List.set_cons_zero, List.set_cons_succ]; first | done | exact rfl)); (case' next307 => skip))
  (first | (refine' grow_skip rfl ?wt151 ?put151 ?next151; (case wt151 => rfl)) | (refine' grow_lit rfl ?wt151 ?run151 ?put151 ?next151; (case wt151 => rfl); (case run151 => (intro w' hS H; clear H; (obtain ⟨a0, a1, a2, -, -, -⟩ := (KA.out.keep hS).o3); (obtain ⟨b0, b1, b2, -, -, -⟩ := (KB.out.keep hS).o3); (obtain ⟨g0, g1, -, -⟩ := (KG.out.keep hS).o2); (obtain ⟨x0, x1, x2, -, -, -⟩ := (KX.out.keep hS).o3); (obtain ⟨y0, y1, y2, -, -, -⟩ := (KY.out.keep hS).o3); (obtain ⟨h0, h1, -, -⟩ := (KH.out.keep hS).o2); clear hS; go_simp; first | done | exact rfl)))); (case put151 => (simp only [Act.put, List.setIfInBounds_toArray, List.set_cons_zero, List.set_cons_succ]; first | done | exact rfl)); (case' next151 => skip)
  (first | (refine' grow_skip rfl ?wt152 ?put152 ?next152; (case wt152 => rfl)) | (refine' grow_lit rfl ?wt152 ?run152 ?put152 ?next152; (case wt152 => rfl); (case run152 => (intro w' hS H; clear H; (obtain ⟨a0, a1, a2, -, -, -⟩ := (KA.out.keep hS).o3); (obtain ⟨b0, b1, b2, -, -, -⟩ := (KB.out.keep hS).o3); (obtain ⟨g0, g1, -, -⟩ := (KG.out.keep hS).o2); (obtain ⟨x0, x1, x2, -, -, -⟩ := (KX.out.keep hS).o3); (obtain ⟨y0, y1, y2, -, -, -⟩ := (KY.out.keep hS).o3); (obtain ⟨h0, h1, -, -⟩ := (KH.out.keep hS).o2); clear hS; go_simp; first | done | exact rfl)))); (case put152 => (simp only [Act.put, List.setIfInBounds_toArray, List.set_cons_zero, List.set_cons_succ]; first | done | exact rfl)); (case' next152 => skip)
  (refine' grow_callP (p := fun v w => TabV w v aI aO al) (hp := fun v w w' h hb => h.below hb) rfl Tryd.func21 (by kernel_rfl) rfl hGS rfl ?wt308 ?run308 ?put308 ?next308; (case wt308 => rfl); (case run308 => (intro w' hS H; exact (of_any aI aO _ al w' (TA.out.below hS)).mono (fun e w2 ⟨v, h1, h2, h3⟩ => ⟨v, h1, h2, h3⟩))); (case put308 => (intro v; simp only [Act.put, List.setIfInBounds_toArray, List.set_cons_zero, List.set_cons_succ]; first | done | exact rfl)); (case' next308 => intro v5))
  (first | (refine' grow_skip rfl ?wt153 ?put153 ?next153; (case wt153 => rfl)) | (refine' grow_lit rfl ?wt153 ?run153 ?put153 ?next153; (case wt153 => rfl); (case run153 => (intro w' hS H; clear H; (obtain ⟨a0, a1, a2, -, -, -⟩ := (KA.out.keep hS).o3); (obtain ⟨b0, b1, b2, -, -, -⟩ := (KB.out.keep hS).o3); (obtain ⟨g0, g1, -, -⟩ := (KG.out.keep hS).o2); (obtain ⟨x0, x1, x2, -, -, -⟩ := (KX.out.keep hS).o3); (obtain ⟨y0, y1, y2, -, -, -⟩ := (KY.out.keep hS).o3); (obtain ⟨h0, h1, -, -⟩ := (KH.out.keep hS).o2); clear hS; go_simp; first | done | exact rfl)))); (case put153 => (simp only [Act.put, List.setIfInBounds_toArray, List.set_cons_zero, List.set_cons_succ]; first | done | exact rfl)); (case' next153 => skip)
  (refine' grow_call (u := .bool true) rfl Tryd.func14 (by kernel_rfl) rfl hGS rfl ?wt309 ?run309 ?put309 ?next309; (case wt309 => rfl); (case run309 => (intro w' hS H; (have hv : TabV w' v5 aI aO al := H 5 (by decide)); (obtain ⟨vu, rfl, hvu⟩ := hv); exact (rsame_any aI aO aI aO _ _ al al w' hvu (TB.out.below hS)).mono (fun e w2 h => ⟨h.1.trans (by simp), h.2⟩))); (case put309 => (simp only [Act.put, List.setIfInBounds_toArray, List.set_cons_zero, List.set_cons_succ]; first | done | exact rfl)); (case' next309 => skip))
  (first | (refine' grow_skip rfl ?wt154 ?put154 ?next154; (case wt154 => rfl)) | (refine' grow_lit rfl ?wt154 ?run154 ?put154 ?next154; (case wt154 => rfl); (case run154 => (intro w' hS H; clear H; (obtain ⟨a0, a1, a2, -, -, -⟩ := (KA.out.keep hS).o3); (obtain ⟨b0, b1, b2, -, -, -⟩ := (KB.out.keep hS).o3); (obtain ⟨g0, g1, -, -⟩ := (KG.out.keep hS).o2); (obtain ⟨x0, x1, x2, -, -, -⟩ := (KX.out.keep hS).o3); (obtain ⟨y0, y1, y2, -, -, -⟩ := (KY.out.keep hS).o3); (obtain ⟨h0, h1, -, -⟩ := (KH.out.keep hS).o2); clear hS; go_simp; first | done | exact rfl)))); (case put154 => (simp only [Act.put, List.setIfInBounds_toArray, List.set_cons_zero, List.set_cons_succ]; first | done | exact rfl)); (case' next154 => skip)
  (first | (refine' grow_skip rfl ?wt155 ?put155 ?next155; (case wt155 => rfl)) | (refine' grow_lit rfl ?wt155 ?run155 ?put155 ?next155; (case wt155 => rfl); (case run155 => (intro w' hS H; clear H; (obtain ⟨a0, a1, a2, -, -, -⟩ := (KA.out.keep hS).o3); (obtain ⟨b0, b1, b2, -, -, -⟩ := (KB.out.keep hS).o3); (obtain ⟨g0, g1, -, -⟩ := (KG.out.keep hS).o2); (obtain ⟨x0, x1, x2, -, -, -⟩ := (KX.out.keep hS).o3); (obtain ⟨y0, y1, y2, -, -, -⟩ := (KY.out.keep hS).o3); (obtain ⟨h0, h1, -, -⟩ := (KH.out.keep hS).o2); clear hS; go_simp; first | done | exact rfl)))); (case put155 => (simp only [Act.put, List.setIfInBounds_toArray, List.set_cons_zero, List.set_cons_succ]; first | done | exact rfl)); (case' next155 => skip)
  (first | (refine' grow_skip rfl ?wt156 ?put156 ?next156; (case wt156 => rfl)) | (refine' grow_lit rfl ?wt156 ?run156 ?put156 ?next156; (case wt156 => rfl); (case run156 => (intro w' hS H; clear H; (obtain ⟨a0, a1, a2, -, -, -⟩ := (KA.out.keep hS).o3); (obtain ⟨b0, b1, b2, -, -, -⟩ := (KB.out.keep hS).o3); (obtain ⟨g0, g1, -, -⟩ := (KG.out.keep hS).o2); (obtain ⟨x0, x1, x2, -, -, -⟩ := (KX.out.keep hS).o3); (obtain ⟨y0, y1, y2, -, -, -⟩ := (KY.out.keep hS).o3); (obtain ⟨h0, h1, -, -⟩ := (KH.out.keep hS).o2); clear hS; go_simp; first | done | exact rfl)))); (case put156 => (simp only [Act.put, List.setIfInBounds_toArray, List.set_cons_zero, List.set_cons_succ]; first | done | exact rfl)); (case' next156 => skip)
  (first | (refine' grow_skip rfl ?wt157 ?put157 ?next157; (case wt157 => rfl)) | (refine' grow_lit rfl ?wt157 ?run157 ?put157 ?next157; (case wt157 => rfl); (case run157 => (intro w' hS H; clear H; (obtain ⟨a0, a1, a2, -, -, -⟩ := (KA.out.keep hS).o3); (obtain ⟨b0, b1, b2, -, -, -⟩ := (KB.out.keep hS).o3); (obtain ⟨g0, g1, -, -⟩ := (KG.out.keep hS).o2); (obtain ⟨x0, x1, x2, -, -, -⟩ := (KX.out.keep hS).o3); (obtain ⟨y0, y1, y2, -, -, -⟩ := (KY.out.keep hS).o3); (obtain ⟨h0, h1, -, -⟩ := (KH.out.keep hS).o2); clear hS; go_simp; first | done | exact rfl)))); (case put157 => (simp only [Act.put, List.setIfInBounds_toArray, List.set_cons_zero, List.set_cons_succ]; first | done | exact rfl)); (case' next157 => skip)
  (refine' grow_call (u := .bool true) rfl Tryd.func10 (by kernel_rfl) rfl hGS rfl ?wt310 ?run310 ?put310 ?next310; (case wt310 => rfl); (case run310 => (intro w' hS H; exact tells_post _ _ [] 0 w' (HG.out.below HGL.out (B0.out.trans (hS.mono B0.out.size))) (FX.out.below hS) (WH.out.below hS) (Or.inl ⟨rfl, rfl⟩))); (case put310 => (simp only [Act.put, List.setIfInBounds_toArray, List.set_cons_zero, List.set_cons_succ]; first | done | exact rfl)); (case' next310 => skip))
  (first | (refine' grow_skip rfl ?wt158 ?put158 ?next158; (case wt158 => rfl)) | (refine' grow_lit rfl ?wt158 ?run158 ?put158 ?next158; (case wt158 => rfl); (case run158 => (intro w' hS H; clear H; (obtain ⟨a0, a1, a2, -, -, -⟩ := (KA.out.keep hS).o3); (obtain ⟨b0, b1, b2, -, -, -⟩ := (KB.out.keep hS).o3); (obtain ⟨g0, g1, -, -⟩ := (KG.out.keep hS).o2); (obtain ⟨x0, x1, x2, -, -, -⟩ := (KX.out.keep hS).o3); (obtain ⟨y0, y1, y2, -, -, -⟩ := (KY.out.keep hS).o3); (obtain ⟨h0, h1, -, -⟩ := (KH.out.keep hS).o2); clear hS; go_simp; first | done | exact rfl)))); (case put158 => (simp only [Act.put, List.setIfInBounds_toArray, List.set_cons_zero, List.set_cons_succ]; first | done | exact rfl)); (case' next158 => skip)
  (first | (refine' grow_skip rfl ?wt159 ?put159 ?next159; (case wt159 => rfl)) | (refine' grow_lit rfl ?wt159 ?run159 ?put159 ?next159; (case wt159 => rfl); (case run159 => (intro w' hS H; clear H; (obtain ⟨a0, a1, a2, -, -, -⟩ := (KA.out.keep hS).o3); (obtain ⟨b0, b1, b2, -, -, -⟩ := (KB.out.keep hS).o3); (obtain ⟨g0, g1, -, -⟩ := (KG.out.keep hS).o2); (obtain ⟨x0, x1, x2, -, -, -⟩ := (KX.out.keep hS).o3); (obtain ⟨y0, y1, y2, -, -, -⟩ := (KY.out.keep hS).o3); (obtain ⟨h0, h1, -, -⟩ := (KH.out.keep hS).o2); clear hS; go_simp; first | done | exact rfl)))); (case put159 => (simp only [Act.put, List.setIfInBounds_toArray, List.set_cons_zero, List.set_cons_succ]; first | done | exact rfl)); (case' next159 => skip)
  (first | (refine' grow_skip rfl ?wt160 ?put160 ?next160; (case wt160 => rfl)) | (refine' grow_lit rfl ?wt160 ?run160 ?put160 ?next160; (case wt160 => rfl); (case run160 => (intro w' hS H; clear H; (obtain ⟨a0, a1, a2, -, -, -⟩ := (KA.out.keep hS).o3); (obtain ⟨b0, b1, b2, -, -, -⟩ := (KB.out.keep hS).o3); (obtain ⟨g0, g1, -, -⟩ := (KG.out.keep hS).o2); (obtain ⟨x0, x1, x2, -, -, -⟩ := (KX.out.keep hS).o3); (obtain ⟨y0, y1, y2, -, -, -⟩ := (KY.out.keep hS).o3); (obtain ⟨h0, h1, -, -⟩ := (KH.out.keep hS).o2); clear hS; go_simp; first | done | exact rfl)))); (case put160 => (simp only [Act.put, List.setIfInBounds_toArray, List.set_cons_zero, List.set_cons_succ]; first | done | exact rfl)); (case' next160 => skip)
  (refine' grow_callP (p := fun v w => TabV w v xI xO xl) (hp := fun v w w' h hb => h.below hb) rfl Tryd.func21 (by kernel_rfl) rfl hGS rfl ?wt311 ?run311 ?put311 ?next311; (case wt311 => rfl); (case run311 => (intro w' hS H; exact (of_any xI xO _ xl w' (TX.out.below hS)).mono (fun e w2 ⟨v, h1, h2, h3⟩ => ⟨v, h1, h2, h3⟩))); (case put311 => (intro v; simp only [Act.put, List.setIfInBounds_toArray, List.set_cons_zero, List.set_cons_succ]; first | done | exact rfl)); (case' next311 => intro v16))
  (first | (refine' grow_skip rfl ?wt161 ?put161 ?next161; (case wt161 => rfl)) | (refine' grow_lit rfl ?wt161 ?run161 ?put161 ?next161; (case wt161 => rfl); (case run161 => (intro w' hS H; clear H; (obtain ⟨a0, a1, a2, -, -, -⟩ := (KA.out.keep hS).o3); (obtain ⟨b0, b1, b2, -, -, -⟩ := (KB.out.keep hS).o3); (obtain ⟨g0, g1, -, -⟩ := (KG.out.keep hS).o2); (obtain ⟨x0, x1, x2, -, -, -⟩ := (KX.out.keep hS).o3); (obtain ⟨y0, y1, y2, -, -, -⟩ := (KY.out.keep hS).o3); (obtain ⟨h0, h1, -, -⟩ := (KH.out.keep hS).o2); clear hS; go_simp; first | done | exact rfl)))); (case put161 => (simp only [Act.put, List.setIfInBounds_toArray, List.set_cons_zero, List.set_cons_succ]; first | done | exact rfl)); (case' next161 => skip)
  (refine' grow_call (u := .bool true) rfl Tryd.func14 (by kernel_rfl) rfl hGS rfl ?wt312 ?run312 ?put312 ?next312; (case wt312 => rfl); (case run312 => (intro w' hS H; (have hv : TabV w' v16 xI xO xl := H 16 (by decide)); (obtain ⟨vu, rfl, hvu⟩ := hv); exact (rsame_any xI xO xI xO _ _ xl xl w' hvu (TY.out.below hS)).mono (fun e w2 h => ⟨h.1.trans (by simp), h.2⟩))); (case put312 => (simp only [Act.put, List.setIfInBounds_toArray, List.set_cons_zero, List.set_cons_succ]; first | done | exact rfl)); (case' next312 => skip))
  (first | (refine' grow_skip rfl ?wt162 ?put162 ?next162; (case wt162 => rfl)) | (refine' grow_lit rfl ?wt162 ?run162 ?put162 ?next162; (case wt162 => rfl); (case run162 => (intro w' hS H; clear H; (obtain ⟨a0, a1, a2, -, -, -⟩ := (KA.out.keep hS).o3); (obtain ⟨b0, b1, b2, -, -, -⟩ := (KB.out.keep hS).o3); (obtain ⟨g0, g1, -, -⟩ := (KG.out.keep hS).o2); (obtain ⟨x0, x1, x2, -, -, -⟩ := (KX.out.keep hS).o3); (obtain ⟨y0, y1, y2, -, -, -⟩ := (KY.out.keep hS).o3); (obtain ⟨h0, h1, -, -⟩ := (KH.out.keep hS).o2); clear hS; go_simp; first | done | exact rfl)))); (case put162 => (simp only [Act.put, List.setIfInBounds_toArray, List.set_cons_zero, List.set_cons_succ]; first | done | exact rfl)); (case' next162 => skip)
  (first | (refine' grow_skip rfl ?wt163 ?put163 ?next163; (case wt163 => rfl)) | (refine' grow_lit rfl ?wt163 ?run163 ?put163 ?next163; (case wt163 => rfl); (case run163 => (intro w' hS H; clear H; (obtain ⟨a0, a1, a2, -, -, -⟩ := (KA.out.keep hS).o3); (obtain ⟨b0, b1, b2, -, -, -⟩ := (KB.out.keep hS).o3); (obtain ⟨g0, g1, -, -⟩ := (KG.out.keep hS).o2); (obtain ⟨x0, x1, x2, -, -, -⟩ := (KX.out.keep hS).o3); (obtain ⟨y0, y1, y2, -, -, -⟩ := (KY.out.keep hS).o3); (obtain ⟨h0, h1, -, -⟩ := (KH.out.keep hS).o2); clear hS; go_simp; first | done | exact rfl)))); (case put163 => (simp only [Act.put, List.setIfInBounds_toArray, List.set_cons_zero, List.set_cons_succ]; first | done | exact rfl)); (case' next163 => skip)
  (first | (refine' grow_skip rfl ?wt164 ?put164 ?next164; (case wt164 => rfl)) | (refine' grow_lit rfl ?wt164 ?run164 ?put164 ?next164; (case wt164 => rfl); (case run164 => (intro w' hS H; clear H; (obtain ⟨a0, a1, a2, -, -, -⟩ := (KA.out.keep hS).o3); (obtain ⟨b0, b1, b2, -, -, -⟩ := (KB.out.keep hS).o3); (obtain ⟨g0, g1, -, -⟩ := (KG.out.keep hS).o2); (obtain ⟨x0, x1, x2, -, -, -⟩ := (KX.out.keep hS).o3); (obtain ⟨y0, y1, y2, -, -, -⟩ := (KY.out.keep hS).o3); (obtain ⟨h0, h1, -, -⟩ := (KH.out.keep hS).o2); clear hS; go_simp; first | done | exact rfl)))); (case put164 => (simp only [Act.put, List.setIfInBounds_toArray, List.set_cons_zero, List.set_cons_succ]; first | done | exact rfl)); (case' next164 => skip)
  (first | (refine' grow_skip rfl ?wt165 ?put165 ?next165; (case wt165 => rfl)) | (refine' grow_lit rfl ?wt165 ?run165 ?put165 ?next165; (case wt165 => rfl); (case run165 => (intro w' hS H; clear H; (obtain ⟨a0, a1, a2, -, -, -⟩ := (KA.out.keep hS).o3); (obtain ⟨b0, b1, b2, -, -, -⟩ := (KB.out.keep hS).o3); (obtain ⟨g0, g1, -, -⟩ := (KG.out.keep hS).o2); (obtain ⟨x0, x1, x2, -, -, -⟩ := (KX.out.keep hS).o3); (obtain ⟨y0, y1, y2, -, -, -⟩ := (KY.out.keep hS).o3); (obtain ⟨h0, h1, -, -⟩ := (KH.out.keep hS).o2); clear hS; go_simp; first | done | exact rfl)))); (case put165 => (simp only [Act.put, List.setIfInBounds_toArray, List.set_cons_zero, List.set_cons_succ]; first | done | exact rfl)); (case' next165 => skip)
  (first | (refine' grow_skip rfl ?wt166 ?put166 ?next166; (case wt166 => rfl)) | (refine' grow_lit rfl ?wt166 ?run166 ?put166 ?next166; (case wt166 => rfl); (case run166 => (intro w' hS H; clear H; (obtain ⟨a0, a1, a2, -, -, -⟩ := (KA.out.keep hS).o3); (obtain ⟨b0, b1, b2, -, -, -⟩ := (KB.out.keep hS).o3); (obtain ⟨g0, g1, -, -⟩ := (KG.out.keep hS).o2); (obtain ⟨x0, x1, x2, -, -, -⟩ := (KX.out.keep hS).o3); (obtain ⟨y0, y1, y2, -, -, -⟩ := (KY.out.keep hS).o3); (obtain ⟨h0, h1, -, -⟩ := (KH.out.keep hS).o2); clear hS; go_simp; first | done | exact rfl)))); (case put166 => (simp only [Act.put, List.setIfInBounds_toArray, List.set_cons_zero, List.set_cons_succ]; first | done | exact rfl)); (case' next166 => skip)
  (first | (refine' grow_skip rfl ?wt167 ?put167 ?next167; (case wt167 => rfl)) | (refine' grow_lit rfl ?wt167 ?run167 ?put167 ?next167; (case wt167 => rfl); (case run167 => (intro w' hS H; clear H; (obtain ⟨a0, a1, a2, -, -, -⟩ := (KA.out.keep hS).o3); (obtain ⟨b0, b1, b2, -, -, -⟩ := (KB.out.keep hS).o3); (obtain ⟨g0, g1, -, -⟩ := (KG.out.keep hS).o2); (obtain ⟨x0, x1, x2, -, -, -⟩ := (KX.out.keep hS).o3); (obtain ⟨y0, y1, y2, -, -, -⟩ := (KY.out.keep hS).o3); (obtain ⟨h0, h1, -, -⟩ := (KH.out.keep hS).o2); clear hS; go_simp; first | done | exact rfl)))); (case put167 => (simp only [Act.put, List.setIfInBounds_toArray, List.set_cons_zero, List.set_cons_succ]; first | done | exact rfl)); (case' next167 => skip)
  (first | (refine' grow_skip rfl ?wt168 ?put168 ?next168; (case wt168 => rfl)) | (refine' grow_lit rfl ?wt168 ?run168 ?put168 ?next168; (case wt168 => rfl); (case run168 => (intro w' hS H; clear H; (obtain ⟨a0, a1, a2, -, -, -⟩ := (KA.out.keep hS).o3); (obtain ⟨b0, b1, b2, -, -, -⟩ := (KB.out.keep hS).o3); (obtain ⟨g0, g1, -, -⟩ := (KG.out.keep hS).o2); (obtain ⟨x0, x1, x2, -, -, -⟩ := (KX.out.keep hS).o3); (obtain ⟨y0, y1, y2, -, -, -⟩ := (KY.out.keep hS).o3); (obtain ⟨h0, h1, -, -⟩ := (KH.out.keep hS).o2); clear hS; go_simp; first | done | exact rfl)))); (case put168 => (simp only [Act.put, List.setIfInBounds_toArray, List.set_cons_zero, List.set_cons_succ]; first | done | exact rfl)); (case' next168 => skip)
  (refine' grow_call (u := .nilIface) rfl Tryd.func11 (by kernel_rfl) rfl hGS rfl ?wt313 ?run313 ?put313 ?next313; (case wt313 => rfl); (case run313 => (intro w' hS H; exact (tcheck_any aI aO _ al w' (TA.out.below hS) inA).mono (fun e w2 ⟨v, h1, h2, h3⟩ => ⟨h1.trans (by rw [HCA.out] at h2; rw [h2.none]), h3⟩))); (case put313 => (simp only [Act.put, List.setIfInBounds_toArray, List.set_cons_zero, List.set_cons_succ]; first | done | exact rfl)); (case' next313 => skip))
  (first | (refine' grow_skip rfl ?wt169 ?put169 ?next169; (case wt169 => rfl)) | (refine' grow_lit rfl ?wt169 ?run169 ?put169 ?next169; (case wt169 => rfl); (case run169 => (intro w' hS H; clear H; (obtain ⟨a0, a1, a2, -, -, -⟩ := (KA.out.keep hS).o3); (obtain ⟨b0, b1, b2, -, -, -⟩ := (KB.out.keep hS).o3); (obtain ⟨g0, g1, -, -⟩ := (KG.out.keep hS).o2); (obtain ⟨x0, x1, x2, -, -, -⟩ := (KX.out.keep hS).o3); (obtain ⟨y0, y1, y2, -, -, -⟩ := (KY.out.keep hS).o3); (obtain ⟨h0, h1, -, -⟩ := (KH.out.keep hS).o2); clear hS; go_simp; first | done | exact rfl)))); (case put169 => (simp only [Act.put, List.setIfInBounds_toArray, List.set_cons_zero, List.set_cons_succ]; first | done | exact rfl)); (case' next169 => skip)
  (first | (refine' grow_skip rfl ?wt170 ?put170 ?next170; (case wt170 => rfl)) | (refine' grow_lit rfl ?wt170 ?run170 ?put170 ?next170; (case wt170 => rfl); (case run170 => (intro w' hS H; clear H; (obtain ⟨a0, a1, a2, -, -, -⟩ := (KA.out.keep hS).o3); (obtain ⟨b0, b1, b2, -, -, -⟩ := (KB.out.keep hS).o3); (obtain ⟨g0, g1, -, -⟩ := (KG.out.keep hS).o2); (obtain ⟨x0, x1, x2, -, -, -⟩ := (KX.out.keep hS).o3); (obtain ⟨y0, y1, y2, -, -, -⟩ := (KY.out.keep hS).o3); (obtain ⟨h0, h1, -, -⟩ := (KH.out.keep hS).o2); clear hS; go_simp; first | done | exact rfl)))); (case put170 => (simp only [Act.put, List.setIfInBounds_toArray, List.set_cons_zero, List.set_cons_succ]; first | done | exact rfl)); (case' next170 => skip)
  (first | (refine' grow_skip rfl ?wt171 ?put171 ?next171; (case wt171 => rfl)) | (refine' grow_lit rfl ?wt171 ?run171 ?put171 ?next171; (case wt171 => rfl); (case run171 => (intro w' hS H; clear H; (obtain ⟨a0, a1, a2, -, -, -⟩ := (KA.out.keep hS).o3); (obtain ⟨b0, b1, b2, -, -, -⟩ := (KB.out.keep hS).o3); (obtain ⟨g0, g1, -, -⟩ := (KG.out.keep hS).o2); (obtain ⟨x0, x1, x2, -, -, -⟩ := (KX.out.keep hS).o3); (obtain ⟨y0, y1, y2, -, -, -⟩ := (KY.out.keep hS).o3); (obtain ⟨h0, h1, -, -⟩ := (KH.out.keep hS).o2); clear hS; go_simp; first | done | exact rfl)))); (case put171 => (simp only [Act.put, List.setIfInBounds_toArray, List.set_cons_zero, List.set_cons_succ]; first | done | exact rfl)); (case' next171 => skip)
  (first | (refine' grow_skip rfl ?wt172 ?put172 ?next172; (case wt172 => rfl)) | (refine' grow_lit rfl ?wt172 ?run172 ?put172 ?next172; (case wt172 => rfl); (case run172 => (intro w' hS H; clear H; (obtain ⟨a0, a1, a2, -, -, -⟩ := (KA.out.keep hS).o3); (obtain ⟨b0, b1, b2, -, -, -⟩ := (KB.out.keep hS).o3); (obtain ⟨g0, g1, -, -⟩ := (KG.out.keep hS).o2); (obtain ⟨x0, x1, x2, -, -, -⟩ := (KX.out.keep hS).o3); (obtain ⟨y0, y1, y2, -, -, -⟩ := (KY.out.keep hS).o3); (obtain ⟨h0, h1, -, -⟩ := (KH.out.keep hS).o2); clear hS; go_simp; first | done | exact rfl)))); (case put172 => (simp only [Act.put, List.setIfInBounds_toArray, List.set_cons_zero, List.set_cons_succ]; first | done | exact rfl)); (case' next172 => skip)
  (first | (refine' grow_skip rfl ?wt173 ?put173 ?next173; (case wt173 => rfl)) | (refine' grow_lit rfl ?wt173 ?run173 ?put173 ?next173; (case wt173 => rfl); (case run173 => (intro w' hS H; clear H; (obtain ⟨a0, a1, a2, -, -, -⟩ := (KA.out.keep hS).o3); (obtain ⟨b0, b1, b2, -, -, -⟩ := (KB.out.keep hS).o3); (obtain ⟨g0, g1, -, -⟩ := (KG.out.keep hS).o2); (obtain ⟨x0, x1, x2, -, -, -⟩ := (KX.out.keep hS).o3); (obtain ⟨y0, y1, y2, -, -, -⟩ := (KY.out.keep hS).o3); (obtain ⟨h0, h1, -, -⟩ := (KH.out.keep hS).o2); clear hS; go_simp; first | done | exact rfl)))); (case put173 => (simp only [Act.put, List.setIfInBounds_toArray, List.set_cons_zero, List.set_cons_succ]; first | done | exact rfl)); (case' next173 => skip)
  (first | (refine' grow_skip rfl ?wt174 ?put174 ?next174; (case wt174 => rfl)) | (refine' grow_lit rfl ?wt174 ?run174 ?put174 ?next174; (case wt174 => rfl); (case run174 => (intro w' hS H; clear H; (obtain ⟨a0, a1, a2, -, -, -⟩ := (KA.out.keep hS).o3); (obtain ⟨b0, b1, b2, -, -, -⟩ := (KB.out.keep hS).o3); (obtain ⟨g0, g1, -, -⟩ := (KG.out.keep hS).o2); (obtain ⟨x0, x1, x2, -, -, -⟩ := (KX.out.keep hS).o3); (obtain ⟨y0, y1, y2, -, -, -⟩ := (KY.out.keep hS).o3); (obtain ⟨h0, h1, -, -⟩ := (KH.out.keep hS).o2); clear hS; go_simp; first | done | exact rfl)))); (case put174 => (simp only [Act.put, List.setIfInBounds_toArray, List.set_cons_zero, List.set_cons_succ]; first | done | exact rfl)); (case' next174 => skip)
  (first | (refine' grow_skip rfl ?wt175 ?put175 ?next175; (case wt175 => rfl)) | (refine' grow_lit rfl ?wt175 ?run175 ?put175 ?next175; (case wt175 => rfl); (case run175 => (intro w' hS H; clear H; (obtain ⟨a0, a1, a2, -, -, -⟩ := (KA.out.keep hS).o3); (obtain ⟨b0, b1, b2, -, -, -⟩ := (KB.out.keep hS).o3); (obtain ⟨g0, g1, -, -⟩ := (KG.out.keep hS).o2); (obtain ⟨x0, x1, x2, -, -, -⟩ := (KX.out.keep hS).o3); (obtain ⟨y0, y1, y2, -, -, -⟩ := (KY.out.keep hS).o3); (obtain ⟨h0, h1, -, -⟩ := (KH.out.keep hS).o2); clear hS; go_simp; first | done | exact rfl)))); (case put175 => (simp only [Act.put, List.setIfInBounds_toArray, List.set_cons_zero, List.set_cons_succ]; first | done | exact rfl)); (case' next175 => skip)
  (first | (refine' grow_skip rfl ?wt176 ?put176 ?next176; (case wt176 => rfl)) | (refine' grow_lit rfl ?wt176 ?run176 ?put176 ?next176; (case wt176 => rfl); (case run176 => (intro w' hS H; clear H; (obtain ⟨a0, a1, a2, -, -, -⟩ := (KA.out.keep hS).o3); (obtain ⟨b0, b1, b2, -, -, -⟩ := (KB.out.keep hS).o3); (obtain ⟨g0, g1, -, -⟩ := (KG.out.keep hS).o2); (obtain ⟨x0, x1, x2, -, -, -⟩ := (KX.out.keep hS).o3); (obtain ⟨y0, y1, y2, -, -, -⟩ := (KY.out.keep hS).o3); (obtain ⟨h0, h1, -, -⟩ := (KH.out.keep hS).o2); clear hS; go_simp; first | done | exact rfl)))); (case put176 => (simp only [Act.put, List.setIfInBounds_toArray, List.set_cons_zero, List.set_cons_succ]; first | done | exact rfl)); (case' next176 => skip)
  (first | (refine' grow_skip rfl ?wt177 ?put177 ?next177; (case wt177 => rfl)) | (refine' grow_lit rfl ?wt177 ?run177 ?put177 ?next177; (case wt177 => rfl); (case run177 => (intro w' hS H; clear H; (obtain ⟨a0, a1, a2, -, -, -⟩ := (KA.out.keep hS).o3); (obtain ⟨b0, b1, b2, -, -, -⟩ := (KB.out.keep hS).o3); (obtain ⟨g0, g1, -, -⟩ := (KG.out.keep hS).o2); (obtain ⟨x0, x1, x2, -, -, -⟩ := (KX.out.keep hS).o3); (obtain ⟨y0, y1, y2, -, -, -⟩ := (KY.out.keep hS).o3); (obtain ⟨h0, h1, -, -⟩ := (KH.out.keep hS).o2); clear hS; go_simp; first | done | exact rfl)))); (case put177 => (simp only [Act.put, List.setIfInBounds_toArray, List.set_cons_zero, List.set_cons_succ]; first | done | exact rfl)); (case' next177 => skip)
  (refine' grow_call (u := .nilIface) rfl Tryd.func11 (by kernel_rfl) rfl hGS rfl ?wt314 ?run314 ?put314 ?next314; (case wt314 => rfl); (case run314 => (intro w' hS H; exact (tcheck_any xI xO _ xl w' (TX.out.below hS) inX).mono (fun e w2 ⟨v, h1, h2, h3⟩ => ⟨h1.trans (by rw [HCX.out] at h2; rw [h2.none]), h3⟩))); (case put314 => (simp only [Act.put, List.setIfInBounds_toArray, List.set_cons_zero, List.set_cons_succ]; first | done | exact rfl)); (case' next314 => skip))
  (first | (refine' grow_skip rfl ?wt178 ?put178 ?next178; (case wt178 => rfl)) | (refine' grow_lit rfl ?wt178 ?run178 ?put178 ?next178; (case wt178 => rfl); (case run178 => (intro w' hS H; clear H; (obtain ⟨a0, a1, a2, -, -, -⟩ := (KA.out.keep hS).o3); (obtain ⟨b0, b1, b2, -, -, -⟩ := (KB.out.keep hS).o3); (obtain ⟨g0, g1, -, -⟩ := (KG.out.keep hS).o2); (obtain ⟨x0, x1, x2, -, -, -⟩ := (KX.out.keep hS).o3); (obtain ⟨y0, y1, y2, -, -, -⟩ := (KY.out.keep hS).o3); (obtain ⟨h0, h1, -, -⟩ := (KH.out.keep hS).o2); clear hS; go_simp; first | done | exact rfl)))); (case put178 => (simp only [Act.put, List.setIfInBounds_toArray, List.set_cons_zero, List.set_cons_succ]; first | done | exact rfl)); (case' next178 => skip)
  (first | (refine' grow_skip rfl ?wt179 ?put179 ?next179; (case wt179 => rfl)) | (refine' grow_lit rfl ?wt179 ?run179 ?put179 ?next179; (case wt179 => rfl); (case run179 => (intro w' hS H; clear H; (obtain ⟨a0, a1, a2, -, -, -⟩ := (KA.out.keep hS).o3); (obtain ⟨b0, b1, b2, -, -, -⟩ := (KB.out.keep hS).o3); (obtain ⟨g0, g1, -, -⟩ := (KG.out.keep hS).o2); (obtain ⟨x0, x1, x2, -, -, -⟩ := (KX.out.keep hS).o3); (obtain ⟨y0, y1, y2, -, -, -⟩ := (KY.out.keep hS).o3); (obtain ⟨h0, h1, -, -⟩ := (KH.out.keep hS).o2); clear hS; go_simp; first | done | exact rfl)))); (case put179 => (simp only [Act.put, List.setIfInBounds_toArray, List.set_cons_zero, List.set_cons_succ]; first | done | exact rfl)); (case' next179 => skip)
  (first | (refine' grow_skip rfl ?wt180 ?put180 ?next180; (case wt180 => rfl)) | (refine' grow_lit rfl ?wt180 ?run180 ?put180 ?next180; (case wt180 => rfl); (case run180 => (intro w' hS H; clear H; (obtain ⟨a0, a1, a2, -, -, -⟩ := (KA.out.keep hS).o3); (obtain ⟨b0, b1, b2, -, -, -⟩ := (KB.out.keep hS).o3); (obtain ⟨g0, g1, -, -⟩ := (KG.out.keep hS).o2); (obtain ⟨x0, x1, x2, -, -, -⟩ := (KX.out.keep hS).o3); (obtain ⟨y0, y1, y2, -, -, -⟩ := (KY.out.keep hS).o3); (obtain ⟨h0, h1, -, -⟩ := (KH.out.keep hS).o2); clear hS; go_simp; first | done | exact rfl)))); (case put180 => (simp only [Act.put, List.setIfInBounds_toArray, List.set_cons_zero, List.set_cons_succ]; first | done | exact rfl)); (case' next180 => skip)
  (refine' grow_call (u := .int .i64 n) rfl Tryd.func19 (by kernel_rfl) rfl hGS rfl ?wt315 ?run315 ?put315 ?next315; (case wt315 => rfl); (case run315 => (intro w' hS H; exact (tbans_any xI xO _ xl w' (TX.out.below hS)).mono (fun e w2 h => ⟨h.1.trans (by rw [HBN.out]), h.2⟩))); (case put315 => (simp only [Act.put, List.setIfInBounds_toArray, List.set_cons_zero, List.set_cons_succ]; first | done | exact rfl)); (case' next315 => skip))
  (first | (refine' grow_skip rfl ?wt181 ?put181 ?next181; (case wt181 => rfl)) | (refine' grow_lit rfl ?wt181 ?run181 ?put181 ?next181; (case wt181 => rfl); (case run181 => (intro w' hS H; clear H; (obtain ⟨a0, a1, a2, -, -, -⟩ := (KA.out.keep hS).o3); (obtain ⟨b0, b1, b2, -, -, -⟩ := (KB.out.keep hS).o3); (obtain ⟨g0, g1, -, -⟩ := (KG.out.keep hS).o2); (obtain ⟨x0, x1, x2, -, -, -⟩ := (KX.out.keep hS).o3); (obtain ⟨y0, y1, y2, -, -, -⟩ := (KY.out.keep hS).o3); (obtain ⟨h0, h1, -, -⟩ := (KH.out.keep hS).o2); clear hS; go_simp; first | done | exact rfl)))); (case put181 => (simp only [Act.put, List.setIfInBounds_toArray, List.set_cons_zero, List.set_cons_succ]; first | done | exact rfl)); (case' next181 => skip)
  (first | (refine' grow_skip rfl ?wt182 ?put182 ?next182; (case wt182 => rfl)) | (refine' grow_lit rfl ?wt182 ?run182 ?put182 ?next182; (case wt182 => rfl); (case run182 => (intro w' hS H; clear H; (obtain ⟨a0, a1, a2, -, -, -⟩ := (KA.out.keep hS).o3); (obtain ⟨b0, b1, b2, -, -, -⟩ := (KB.out.keep hS).o3); (obtain ⟨g0, g1, -, -⟩ := (KG.out.keep hS).o2); (obtain ⟨x0, x1, x2, -, -, -⟩ := (KX.out.keep hS).o3); (obtain ⟨y0, y1, y2, -, -, -⟩ := (KY.out.keep hS).o3); (obtain ⟨h0, h1, -, -⟩ := (KH.out.keep hS).o2); clear hS; go_simp; first | done | exact rfl)))); (case put182 => (simp only [Act.put, List.setIfInBounds_toArray, List.set_cons_zero, List.set_cons_succ]; first | done | exact rfl)); (case' next182 => skip)
  (first | (refine' grow_skip rfl ?wt183 ?put183 ?next183; (case wt183 => rfl)) | (refine' grow_lit rfl ?wt183 ?run183 ?put183 ?next183; (case wt183 => rfl); (case run183 => (intro w' hS H; clear H; (obtain ⟨a0, a1, a2, -, -, -⟩ := (KA.out.keep hS).o3); (obtain ⟨b0, b1, b2, -, -, -⟩ := (KB.out.keep hS).o3); (obtain ⟨g0, g1, -, -⟩ := (KG.out.keep hS).o2); (obtain ⟨x0, x1, x2, -, -, -⟩ := (KX.out.keep hS).o3); (obtain ⟨y0, y1, y2, -, -, -⟩ := (KY.out.keep hS).o3); (obtain ⟨h0, h1, -, -⟩ := (KH.out.keep hS).o2); clear hS; go_simp; first | done | exact rfl)))); (case put183 => (simp only [Act.put, List.setIfInBounds_toArray, List.set_cons_zero, List.set_cons_succ]; first | done | exact rfl)); (case' next183 => skip)
  (first | (refine' grow_skip rfl ?wt184 ?put184 ?next184; (case wt184 => rfl)) | (refine' grow_lit rfl ?wt184 ?run184 ?put184 ?next184; (case wt184 => rfl); (case run184 => (intro w' hS H; clear H; (obtain ⟨a0, a1, a2, -, -, -⟩ := (KA.out.keep hS).o3); (obtain ⟨b0, b1, b2, -, -, -⟩ := (KB.out.keep hS).o3); (obtain ⟨g0, g1, -, -⟩ := (KG.out.keep hS).o2); (obtain ⟨x0, x1, x2, -, -, -⟩ := (KX.out.keep hS).o3); (obtain ⟨y0, y1, y2, -, -, -⟩ := (KY.out.keep hS).o3); (obtain ⟨h0, h1, -, -⟩ := (KH.out.keep hS).o2); clear hS; go_simp; first | done | exact rfl)))); (case put184 => (simp only [Act.put, List.setIfInBounds_toArray, List.set_cons_zero, List.set_cons_succ]; first | done | exact rfl)); (case' next184 => skip)
  (first | (refine' grow_skip rfl ?wt185 ?put185 ?next185; (case wt185 => rfl)) | (refine' grow_lit rfl ?wt185 ?run185 ?put185 ?next185; (case wt185 => rfl); (case run185 => (intro w' hS H; clear H; (obtain ⟨a0, a1, a2, -, -, -⟩ := (KA.out.keep hS).o3); (obtain ⟨b0, b1, b2, -, -, -⟩ := (KB.out.keep hS).o3); (obtain ⟨g0, g1, -, -⟩ := (KG.out.keep hS).o2); (obtain ⟨x0, x1, x2, -, -, -⟩ := (KX.out.keep hS).o3); (obtain ⟨y0, y1, y2, -, -, -⟩ := (KY.out.keep hS).o3); (obtain ⟨h0, h1, -, -⟩ := (KH.out.keep hS).o2); clear hS; go_simp; first | done | exact rfl)))); (case put185 => (simp only [Act.put, List.setIfInBounds_toArray, List.set_cons_zero, List.set_cons_succ]; first | done | exact rfl)); (case' next185 => skip)
  (first | (refine' grow_skip rfl ?wt186 ?put186 ?next186; (case wt186 => rfl)) | (refine' grow_lit rfl ?wt186 ?run186 ?put186 ?next186; (case wt186 => rfl); (case run186 => (intro w' hS H; clear H; (obtain ⟨a0, a1, a2, -, -, -⟩ := (KA.out.keep hS).o3); (obtain ⟨b0, b1, b2, -, -, -⟩ := (KB.out.keep hS).o3); (obtain ⟨g0, g1, -, -⟩ := (KG.out.keep hS).o2); (obtain ⟨x0, x1, x2, -, -, -⟩ := (KX.out.keep hS).o3); (obtain ⟨y0, y1, y2, -, -, -⟩ := (KY.out.keep hS).o3); (obtain ⟨h0, h1, -, -⟩ := (KH.out.keep hS).o2); clear hS; go_simp; first | done | exact rfl)))); (case put186 => (simp only [Act.put, List.setIfInBounds_toArray, List.set_cons_zero, List.set_cons_succ]; first | done | exact rfl)); (case' next186 => skip)
  intro w' hS _
  have HF := Lib.hid (B0.out.trans (hS.mono B0.out.size))
  clear hS
  go_wp2_with fail
  go_ret
  exact ⟨rfl, HF.out⟩

set_option maxHeartbeats 4000000 in
set_option maxRecDepth 100000 in
theorem makes_10 (ins outs n : Int) (aI aO : Int) (al : List Int) (xI xO : Int) (xl : List Int) (q : Int) (w : World) (hg : ErrT w) (hca : chkT aI aO al = (0, 0)) (inA : In64 al)
    (ha1 : ∀ w, Calls Tryd.prog 22 #[.int .i64 ins, .int .i64 outs] w (TEPost aI aO al [] 0 w))
    (ha2 : ∀ w, Calls Tryd.prog 23 #[.int .i64 ins, .int .i64 outs] w (TWPost aI aO al [] 0 w))
    (hb1 : ∀ w, Calls Tryd.prog 24 #[.int .i64 n] w (TEPost xI xO xl [(turnB, q)] 1 w))
    (hb2 : ∀ w, Calls Tryd.prog 25 #[.int .i64 n] w (TWPost xI xO xl [(turnB, q)] 1 w)) :
    Calls Tryd.prog 4 #[.int .i64 ins, .int .i64 outs, .int .i64 n] w fun e w' => e = .returned (.bool true) ∧ Below w.heap.size w w' := by
  have HG := Lib.hid hg
  have HGL := Lib.hid hg.lt
  have HA1 := Lib.hid ha1
  have HA2 := Lib.hid ha2
  have HB1 := Lib.hid hb1
  have HB2 := Lib.hid hb2
  have HCA := Lib.hid hca
  clear hg ha1 ha2 hb1 hb2 hca
  go_enter Tryd.func4, Tryd.ntmps4
  go_wp2_with fail
  refine (known2_any _ HG.out).mono ?_
  rintro e w0 ⟨rfl, hb0⟩
  have HB0 := Lib.hid hb0
  clear hb0
  go_wp2_with fail
  refine (HA1.out _).mono ?_
  rintro e w1 ⟨tv, ev, rfl, ⟨au, rfl, hT⟩, hF, hb⟩
  obtain ⟨aq, ac, rfl⟩ := hT.shape
  obtain rfl := hF.none
  go_wp2_with fail
  obtain ⟨W1, hW1⟩ := named (w1.alloc (.cells #[.int .i64 aI, .int .i64 aO, .slice aq al.length ac] 34))
  rw [← hW1]
  have hc1 : Below w1.heap.size w1 W1 := by rw [hW1]; exact below_alloc1 _
  have hd1 : Below w0.heap.size w0 W1 := hb.trans (hc1.mono hb.size)
  have B0 : Hid (Below w.heap.size w W1) := Lib.hid (HB0.out.trans (hd1.mono HB0.out.size))
  have KA : Hid (Blk W1 (w1.heap.size) #[.int .i64 aI, .int .i64 aO, .slice aq al.length ac] 34) := by rw [hW1]; exact Lib.hid (Blk.new _ _ _ _ rfl)
  have TA := Lib.hid (hT.below hc1)
  have FA := Lib.hid (hF.below hc1)
  clear hb hT hF hd1 hc1 hW1 
  refine (HA2.out _).mono ?_
  rintro e w2 ⟨tv, wv, rfl, ⟨bu, rfl, hT⟩, hW, hb⟩
  obtain ⟨bq, bc, rfl⟩ := hT.shape
  obtain ⟨gq, gn, gc, rfl⟩ := hW.shape
  go_wp2_with fail
  obtain ⟨W2, hW2⟩ := named ((w2.alloc (.cells #[.int .i64 aI, .int .i64 aO, .slice bq al.length bc] 24)).alloc (.cells #[.slice gq gn gc, .int .i64 0] 28))
  rw [← hW2]
  have hc2 : Below w2.heap.size w2 W2 := by rw [hW2]; exact below_alloc2 _ _
  have hd2 : Below W1.heap.size W1 W2 := hb.trans (hc2.mono hb.size)
  have KA_ := Lib.hid (KA.out.keep hd2)
  have TA_ := Lib.hid (TA.out.below hd2)
  have FA_ := Lib.hid (FA.out.below hd2)
  clear KA TA FA
  have KA := KA_
  have TA := TA_
  have FA := FA_
  clear KA_ TA_ FA_
  have B1 : Hid (Below w.heap.size w W2) := Lib.hid (B0.out.trans (hd2.mono B0.out.size))
  clear B0
  have B0 := B1
  clear B1
  have KB : Hid (Blk W2 (w2.heap.size) #[.int .i64 aI, .int .i64 aO, .slice bq al.length bc] 24) := by rw [hW2]; exact Lib.hid ((Blk.new _ _ _ _ rfl).old _)
  have KG : Hid (Blk W2 (w2.heap.size + 1) #[.slice gq gn gc, .int .i64 0] 28) := by rw [hW2]; exact Lib.hid (Blk.new _ _ _ _ (by simp))
  have TB := Lib.hid (hT.below hc2)
  have WG := Lib.hid (hW.below hc2)
  clear hb hT hW hd2 hc2 hW2 
  refine (HB1.out _).mono ?_
  rintro e w3 ⟨tv, ev, rfl, ⟨xu, rfl, hT⟩, hF, hb⟩
  obtain ⟨xq, xc, rfl⟩ := hT.shape
  obtain ⟨xf, rfl, _⟩ := hF.iface
  go_wp2_with fail
  obtain ⟨W3, hW3⟩ := named (w3.alloc (.cells #[.int .i64 xI, .int .i64 xO, .slice xq xl.length xc] 34))
  rw [← hW3]
  have hc3 : Below w3.heap.size w3 W3 := by rw [hW3]; exact below_alloc1 _
  have hd3 : Below W2.heap.size W2 W3 := hb.trans (hc3.mono hb.size)
  have KA_ := Lib.hid (KA.out.keep hd3)
  have TA_ := Lib.hid (TA.out.below hd3)
  have FA_ := Lib.hid (FA.out.below hd3)
  have KB_ := Lib.hid (KB.out.keep hd3)
  have KG_ := Lib.hid (KG.out.keep hd3)
  have TB_ := Lib.hid (TB.out.below hd3)
  have WG_ := Lib.hid (WG.out.below hd3)
  clear KA TA FA KB KG TB WG
  have KA := KA_
  have TA := TA_
  have FA := FA_
  have KB := KB_
  have KG := KG_
  have TB := TB_
  have WG := WG_
  clear KA_ TA_ FA_ KB_ KG_ TB_ WG_
  have B1 : Hid (Below w.heap.size w W3) := Lib.hid (B0.out.trans (hd3.mono B0.out.size))
  clear B0
  have B0 := B1
  clear B1
  have KX : Hid (Blk W3 (w3.heap.size) #[.int .i64 xI, .int .i64 xO, .slice xq xl.length xc] 34) := by rw [hW3]; exact Lib.hid (Blk.new _ _ _ _ rfl)
  have TX := Lib.hid (hT.below hc3)
  have FX := Lib.hid (hF.below hc3)
  clear hb hT hF hd3 hc3 hW3 
  refine (HB2.out _).mono ?_
  rintro e w4 ⟨tv, wv, rfl, ⟨yu, rfl, hT⟩, hW, hb⟩
  obtain ⟨yq, yc, rfl⟩ := hT.shape
  obtain ⟨hq, hn, hcc, rfl⟩ := hW.shape
  go_wp2_with fail
  obtain ⟨W4, hW4⟩ := named ((w4.alloc (.cells #[.int .i64 xI, .int .i64 xO, .slice yq xl.length yc] 24)).alloc (.cells #[.slice hq hn hcc, .int .i64 1] 28))
  rw [← hW4]
  have hc4 : Below w4.heap.size w4 W4 := by rw [hW4]; exact below_alloc2 _ _
  have hd4 : Below W3.heap.size W3 W4 := hb.trans (hc4.mono hb.size)
  have KA_ := Lib.hid (KA.out.keep hd4)
  have TA_ := Lib.hid (TA.out.below hd4)
  have FA_ := Lib.hid (FA.out.below hd4)
  have KB_ := Lib.hid (KB.out.keep hd4)
  have KG_ := Lib.hid (KG.out.keep hd4)
  have TB_ := Lib.hid (TB.out.below hd4)
  have WG_ := Lib.hid (WG.out.below hd4)
  have KX_ := Lib.hid (KX.out.keep hd4)
  have TX_ := Lib.hid (TX.out.below hd4)
  have FX_ := Lib.hid (FX.out.below hd4)
  clear KA TA FA KB KG TB WG KX TX FX
  have KA := KA_
  have TA := TA_
  have FA := FA_
  have KB := KB_
  have KG := KG_
  have TB := TB_
  have WG := WG_
  have KX := KX_
  have TX := TX_
  have FX := FX_
  clear KA_ TA_ FA_ KB_ KG_ TB_ WG_ KX_ TX_ FX_
  have B1 : Hid (Below w.heap.size w W4) := Lib.hid (B0.out.trans (hd4.mono B0.out.size))
  clear B0
  have B0 := B1
  clear B1
  have KY : Hid (Blk W4 (w4.heap.size) #[.int .i64 xI, .int .i64 xO, .slice yq xl.length yc] 24) := by rw [hW4]; exact Lib.hid ((Blk.new _ _ _ _ rfl).old _)
  have KH : Hid (Blk W4 (w4.heap.size + 1) #[.slice hq hn hcc, .int .i64 1] 28) := by rw [hW4]; exact Lib.hid (Blk.new _ _ _ _ (by simp))
  have TY := Lib.hid (hT.below hc4)
  have WH := Lib.hid (hW.below hc4)
  clear hb hT hW hd4 hc4 hW4 
  have hGS : Grows (fun w' => Below W4.heap.size W4 w') := Grows.below W4
  refine' wp_growL _ (fun w' => Below W4.heap.size W4 w') [[], [], [0, 1], [2], [3], [3, 4], [3], [3, 5, 6], [3, 7], [8], [9], [9], [9, 10, 11], [9, 12], [13], [14], [14, 15], [14], [14, 16, 17], [14, 18], [19], [20], [20, 21], [20, 22], [20, 23], [24], [24, 25], [24, 26], [20, 24, 27], [20, 28], [29], [30], [30, 31], [30, 32], [30, 33], [34], [34, 35], [34, 36], [34, 37], [38], [38, 39], [38], [38, 40, 41], [34, 38, 42], [30, 34, 43], [30, 44], [45]] (Fact.lit _ :: Fact.lit _ :: Fact.lit _ :: Fact.lit _ :: Fact.lit _ :: Fact.prop _ _ :: Fact.lit _ :: Fact.lit _ :: Fact.lit _ :: Fact.lit _ :: Fact.lit _ :: Fact.lit _ :: Fact.lit _ :: Fact.lit _ :: Fact.lit _ :: Fact.lit _ :: Fact.prop _ _ :: Fact.lit _ :: Fact.lit _ :: Fact.lit _ :: Fact.lit _ :: Fact.lit _ :: Fact.lit _ :: Fact.lit _ :: Fact.lit _ :: Fact.lit _ :: Fact.lit _ :: Fact.lit _ :: Fact.lit _ :: Fact.lit _ :: Fact.lit _ :: Fact.lit _ :: Fact.lit _ :: Fact.lit _ :: Fact.lit _ :: Fact.lit _ :: Fact.lit _ :: Fact.lit _ :: Fact.lit _ :: Fact.lit _ :: Fact.lit _ :: Fact.lit _ :: Fact.lit _ :: Fact.lit _ :: Fact.lit _ :: Fact.lit _ :: Fact.lit _ :: []) (by kernel_rfl) rfl (by kernel_rfl) (Below.refl _ _).drew ?seqmakes_10
  case' seqmakes_10 => skip
  (first | (refine' grow_skip rfl ?wt187 ?put187 ?next187; (case wt187 => rfl)) | (refine' grow_lit rfl ?wt187 ?run187 ?put187 ?next187; (case wt187 => rfl); (case run187 => (intro w' hS H; clear H; (obtain ⟨a0, a1, a2, -, -, -⟩ := (KA.out.keep hS).o3); (obtain ⟨b0, b1, b2, -, -, -⟩ := (KB.out.keep hS).o3); (obtain ⟨g0, g1, -, -⟩ := (KG.out.keep hS).o2); (obtain ⟨x0, x1, x2, -, -, -⟩ := (KX.out.keep hS).o3); (obtain ⟨y0, y1, y2, -, -, -⟩ := (KY.out.keep hS).o3); (obtain ⟨h0, h1, -, -⟩ := (KH.out.keep hS).o2); clear hS; go_simp; first | done | exact rfl)))); (case put187 => (simp only [Act.put, List.setIfInBounds_toArray, List.set_cons_zero, List.set_cons_succ]; first | done | exact rfl)); (case' next187 => skip)
  (first | (refine' grow_skip rfl ?wt188 ?put188 ?next188; (case wt188 => rfl)) | (refine' grow_lit rfl ?wt188 ?run188 ?put188 ?next188; (case wt188 => rfl); (case run188 => (intro w' hS H; clear H; (obtain ⟨a0, a1, a2, -, -, -⟩ := (KA.out.keep hS).o3); (obtain ⟨b0, b1, b2, -, -, -⟩ := (KB.out.keep hS).o3); (obtain ⟨g0, g1, -, -⟩ := (KG.out.keep hS).o2); (obtain ⟨x0, x1, x2, -, -, -⟩ := (KX.out.keep hS).o3); (obtain ⟨y0, y1, y2, -, -, -⟩ := (KY.out.keep hS).o3); (obtain ⟨h0, h1, -, -⟩ := (KH.out.keep hS).o2); clear hS; go_simp; first | done | exact rfl)))); (case put188 => (simp only [Act.put, List.setIfInBounds_toArray, List.set_cons_zero, List.set_cons_succ]; first | done | exact rfl)); (case' next188 => skip)
  (refine' grow_call (u := .bool true) rfl Tryd.func10 (by kernel_rfl) rfl hGS rfl ?wt316 ?run316 ?put316 ?next316; (case wt316 => rfl); (case run316 => (intro w' hS H; exact tells_post _ _ [] 0 w' (HG.out.below HGL.out (B0.out.trans (hS.mono B0.out.size))) (FA.out.below hS) (WG.out.below hS) (Or.inl ⟨rfl, rfl⟩))); (case put316 => (simp only [Act.put, List.setIfInBounds_toArray, List.set_cons_zero, List.set_cons_succ]; first | done | exact rfl)); (case' next316 => skip))
  (first | (refine' grow_skip rfl ?wt189 ?put189 ?next189; (case wt189 => rfl)) | (refine' grow_lit rfl ?wt189 ?run189 ?put189 ?next189; (case wt189 => rfl); (case run189 => (intro w' hS H; clear H; (obtain ⟨a0, a1, a2, -, -, -⟩ := (KA.out.keep hS).o3); (obtain ⟨b0, b1, b2, -, -, -⟩ := (KB.out.keep hS).o3); (obtain ⟨g0, g1, -, -⟩ := (KG.out.keep hS).o2); (obtain ⟨x0, x1, x2, -, -, -⟩ := (KX.out.keep hS).o3); (obtain ⟨y0, y1, y2, -, -, -⟩ := (KY.out.keep hS).o3); (obtain ⟨h0, h1, -, -⟩ := (KH.out.keep hS).o2); clear hS; go_simp; first | done | exact rfl)))); (case put189 => (simp only [Act.put, List.setIfInBounds_toArray, List.set_cons_zero, List.set_cons_succ]; first | done | exact rfl)); (case' next189 => skip)
  (first | (refine' grow_skip rfl ?wt190 ?put190 ?next190; (case wt190 => rfl)) | (refine' grow_lit rfl ?wt190 ?run190 ?put190 ?next190; (case wt190 => rfl); (case run190 => (intro w' hS H; clear H; (obtain ⟨a0, a1, a2, -, -, -⟩ := (KA.out.keep hS).o3); (obtain ⟨b0, b1, b2, -, -, -⟩ := (KB.out.keep hS).o3); (obtain ⟨g0, g1, -, -⟩ := (KG.out.keep hS).o2); (obtain ⟨x0, x1, x2, -, -, -⟩ := (KX.out.keep hS).o3); (obtain ⟨y0, y1, y2, -, -, -⟩ := (KY.out.keep hS).o3); (obtain ⟨h0, h1, -, -⟩ := (KH.out.keep hS).o2); clear hS; go_simp; first | done | exact rfl)))); (case put190 => (simp only [Act.put, List.setIfInBounds_toArray, List.set_cons_zero, List.set_cons_succ]; first | done | exact rfl)); (case' next190 => skip)
  (refine' grow_callP (p := fun v w => TabV w v aI aO al) (hp := fun v w w' h hb => h.below hb) rfl Tryd.func21 (by kernel_rfl) rfl hGS rfl ?wt317 ?run317 ?put317 ?next317; (case wt317 => rfl); (case run317 => (intro w' hS H; exact (of_any aI aO _ al w' (TA.out.below hS)).mono (fun e w2 ⟨v, h1, h2, h3⟩ => ⟨v, h1, h2, h3⟩))); (case put317 => (intro v; simp only [Act.put, List.setIfInBounds_toArray, List.set_cons_zero, List.set_cons_succ]; first | done | exact rfl)); (case' next317 => intro v5))
  (first | (refine' grow_skip rfl ?wt191 ?put191 ?next191; (case wt191 => rfl)) | (refine' grow_lit rfl ?wt191 ?run191 ?put191 ?next191; (case wt191 => rfl); (case run191 => (intro w' hS H; clear H; (obtain ⟨a0, a1, a2, -, -, -⟩ := (KA.out.keep hS).o3); (obtain ⟨b0, b1, b2, -, -, -⟩ := (KB.out.keep hS).o3); (obtain ⟨g0, g1, -, -⟩ := (KG.out.keep hS).o2); (obtain ⟨x0, x1, x2, -, -, -⟩ := (KX.out.keep hS).o3); (obtain ⟨y0, y1, y2, -, -, -⟩ := (KY.out.keep hS).o3); (obtain ⟨h0, h1, -, -⟩ := (KH.out.keep hS).o2); clear hS; go_simp; first | done | exact rfl)))); (case put191 => (simp only [Act.put, List.setIfInBounds_toArray, List.set_cons_zero, List.set_cons_succ]; first | done | exact rfl)); (case' next191 => skip)
  (refine' grow_call (u := .bool true) rfl Tryd.func14 (by kernel_rfl) rfl hGS rfl ?wt318 ?run318 ?put318 ?next318; (case wt318 => rfl); (case run318 => (intro w' hS H; (have hv : TabV w' v5 aI aO al := H 5 (by decide)); (obtain ⟨vu, rfl, hvu⟩ := hv); exact (rsame_any aI aO aI aO _ _ al al w' hvu (TB.out.below hS)).mono (fun e w2 h => ⟨h.1.trans (by simp), h.2⟩))); (case put318 => (simp only [Act.put, List.setIfInBounds_toArray, List.set_cons_zero, List.set_cons_succ]; first | done | exact rfl)); (case' next318 => skip))
  (first | (refine' grow_skip rfl ?wt192 ?put192 ?next192; (case wt192 => rfl)) | (refine' grow_lit rfl ?wt192 ?run192 ?put192 ?next192; (case wt192 => rfl); (case run192 => (intro w' hS H; clear H; (obtain ⟨a0, a1, a2, -, -, -⟩ := (KA.out.keep hS).o3); (obtain ⟨b0, b1, b2, -, -, -⟩ := (KB.out.keep hS).o3); (obtain ⟨g0, g1, -, -⟩ := (KG.out.keep hS).o2); (obtain ⟨x0, x1, x2, -, -, -⟩ := (KX.out.keep hS).o3); (obtain ⟨y0, y1, y2, -, -, -⟩ := (KY.out.keep hS).o3); (obtain ⟨h0, h1, -, -⟩ := (KH.out.keep hS).o2); clear hS; go_simp; first | done | exact rfl)))); (case put192 => (simp only [Act.put, List.setIfInBounds_toArray, List.set_cons_zero, List.set_cons_succ]; first | done | exact rfl)); (case' next192 => skip)
  (first | (refine' grow_skip rfl ?wt193 ?put193 ?next193; (case wt193 => rfl)) | (refine' grow_lit rfl ?wt193 ?run193 ?put193 ?next193; (case wt193 => rfl); (case run193 => (intro w' hS H; clear H; (obtain ⟨a0, a1, a2, -, -, -⟩ := (KA.out.keep hS).o3); (obtain ⟨b0, b1, b2, -, -, -⟩ := (KB.out.keep hS).o3); (obtain ⟨g0, g1, -, -⟩ := (KG.out.keep hS).o2); (obtain ⟨x0, x1, x2, -, -, -⟩ := (KX.out.keep hS).o3); (obtain ⟨y0, y1, y2, -, -, -⟩ := (KY.out.keep hS).o3); (obtain ⟨h0, h1, -, -⟩ := (KH.out.keep hS).o2); clear hS; go_simp; first | done | exact rfl)))); (case put193 => (simp only [Act.put, List.setIfInBounds_toArray, List.set_cons_zero, List.set_cons_succ]; first | done | exact rfl)); (case' next193 => skip)
  (first | (refine' grow_skip rfl ?wt194 ?put194 ?next194; (case wt194 => rfl)) | (refine' grow_lit rfl ?wt194 ?run194 ?put194 ?next194; (case wt194 => rfl); (case run194 => (intro w' hS H; clear H; (obtain ⟨a0, a1, a2, -, -, -⟩ := (KA.out.keep hS).o3); (obtain ⟨b0, b1, b2, -, -, -⟩ := (KB.out.keep hS).o3); (obtain ⟨g0, g1, -, -⟩ := (KG.out.keep hS).o2); (obtain ⟨x0, x1, x2, -, -, -⟩ := (KX.out.keep hS).o3); (obtain ⟨y0, y1, y2, -, -, -⟩ := (KY.out.keep hS).o3); (obtain ⟨h0, h1, -, -⟩ := (KH.out.keep hS).o2); clear hS; go_simp; first | done | exact rfl)))); (case put194 => (simp only [Act.put, List.setIfInBounds_toArray, List.set_cons_zero, List.set_cons_succ]; first | done | exact rfl)); (case' next194 => skip)
  (first | (refine' grow_skip rfl ?wt195 ?put195 ?next195; (case wt195 => rfl)) | (refine' grow_lit rfl ?wt195 ?run195 ?put195 ?next195; (case wt195 => rfl); (case run195 => (intro w' hS H; clear H; (obtain ⟨a0, a1, a2, -, -, -⟩ := (KA.out.keep hS).o3); (obtain ⟨b0, b1, b2, -, -, -⟩ := (KB.out.keep hS).o3); (obtain ⟨g0, g1, -, -⟩ := (KG.out.keep hS).o2); (obtain ⟨x0, x1, x2, -, -, -⟩ := (KX.out.keep hS).o3); (obtain ⟨y0, y1, y2, -, -, -⟩ := (KY.out.keep hS).o3); (obtain ⟨h0, h1, -, -⟩ := (KH.out.keep hS).o2); clear hS; go_simp; first | done | exact rfl)))); (case put195 => (simp only [Act.put, List.setIfInBounds_toArray, List.set_cons_zero, List.set_cons_succ]; first | done | exact rfl)); (case' next195 => skip)
  (refine' grow_call (u := .bool true) rfl Tryd.func10 (by kernel_rfl) rfl hGS rfl ?wt319 ?run319 ?put319 ?next319; (case wt319 => rfl); (case run319 => (intro w' hS H; exact tells_post _ _ [(turnB, q)] 1 w' (HG.out.below HGL.out (B0.out.trans (hS.mono B0.out.size))) (FX.out.below hS) (WH.out.below hS) (Or.inr (by simp)))); (case put319 => (simp only [Act.put, List.setIfInBounds_toArray, List.set_cons_zero, List.set_cons_succ]; first | done | exact rfl)); (case' next319 => skip))
  (first | (refine' grow_skip rfl ?wt196 ?put196 ?next196; (case wt196 => rfl)) | (refine' grow_lit rfl ?wt196 ?run196 ?put196 ?next196; (case wt196 => rfl); (case run196 => (intro w' hS H; clear H; (obtain ⟨a0, a1, a2, -, -, -⟩ := (KA.out.keep hS).o3); (obtain ⟨b0, b1, b2, -, -, -⟩ := (KB.out.keep hS).o3); (obtain ⟨g0, g1, -, -⟩ := (KG.out.keep hS).o2); (obtain ⟨x0, x1, x2, -, -, -⟩ := (KX.out.keep hS).o3); (obtain ⟨y0, y1, y2, -, -, -⟩ := (KY.out.keep hS).o3); (obtain ⟨h0, h1, -, -⟩ := (KH.out.keep hS).o2); clear hS; go_simp; first | done | exact rfl)))); (case put196 => (simp only [Act.put, List.setIfInBounds_toArray, List.set_cons_zero, List.set_cons_succ]; first | done | exact rfl)); (case' next196 => skip)
  (first | (refine' grow_skip rfl ?wt197 ?put197 ?next197; (case wt197 => rfl)) | (refine' grow_lit rfl ?wt197 ?run197 ?put197 ?next197; (case wt197 => rfl); (case run197 => (intro w' hS H; clear H; (obtain ⟨a0, a1, a2, -, -, -⟩ := (KA.out.keep hS).o3); (obtain ⟨b0, b1, b2, -, -, -⟩ := (KB.out.keep hS).o3); (obtain ⟨g0, g1, -, -⟩ := (KG.out.keep hS).o2); (obtain ⟨x0, x1, x2, -, -, -⟩ := (KX.out.keep hS).o3); (obtain ⟨y0, y1, y2, -, -, -⟩ := (KY.out.keep hS).o3); (obtain ⟨h0, h1, -, -⟩ := (KH.out.keep hS).o2); clear hS; go_simp; first | done | exact rfl)))); (case put197 => (simp only [Act.put, List.setIfInBounds_toArray, List.set_cons_zero, List.set_cons_succ]; first | done | exact rfl)); (case' next197 => skip)
  (first | (refine' grow_skip rfl ?wt198 ?put198 ?next198; (case wt198 => rfl)) | (refine' grow_lit rfl ?wt198 ?run198 ?put198 ?next198; (case wt198 => rfl); (case run198 => (intro w' hS H; clear H; (obtain ⟨a0, a1, a2, -, -, -⟩ := (KA.out.keep hS).o3); (obtain ⟨b0, b1, b2, -, -, -⟩ := (KB.out.keep hS).o3); (obtain ⟨g0, g1, -, -⟩ := (KG.out.keep hS).o2); (obtain ⟨x0, x1, x2, -, -, -⟩ := (KX.out.keep hS).o3); (obtain ⟨y0, y1, y2, -, -, -⟩ := (KY.out.keep hS).o3); (obtain ⟨h0, h1, -, -⟩ := (KH.out.keep hS).o2); clear hS; go_simp; first | done | exact rfl)))); (case put198 => (simp only [Act.put, List.setIfInBounds_toArray, List.set_cons_zero, List.set_cons_succ]; first | done | exact rfl)); (case' next198 => skip)
  (refine' grow_callP (p := fun v w => TabV w v xI xO xl) (hp := fun v w w' h hb => h.below hb) rfl Tryd.func21 (by kernel_rfl) rfl hGS rfl ?wt320 ?run320 ?put320 ?next320; (case wt320 => rfl); (case run320 => (intro w' hS H; exact (of_any xI xO _ xl w' (TX.out.below hS)).mono (fun e w2 ⟨v, h1, h2, h3⟩ => ⟨v, h1, h2, h3⟩))); (case put320 => (intro v; simp only [Act.put, List.setIfInBounds_toArray, List.set_cons_zero, List.set_cons_succ]; first | done | exact rfl)); (case' next320 => intro v16))
  (first | (refine' grow_skip rfl ?wt199 ?put199 ?next199; (case wt199 => rfl)) | (refine' grow_lit rfl ?wt199 ?run199 ?put199 ?next199; (case wt199 => rfl); (case run199 => (intro w' hS H; clear H; (obtain ⟨a0, a1, a2, -, -, -⟩ := (KA.out.keep hS).o3); (obtain ⟨b0, b1, b2, -, -, -⟩ := (KB.out.keep hS).o3); (obtain ⟨g0, g1, -, -⟩ := (KG.out.keep hS).o2); (obtain ⟨x0, x1, x2, -, -, -⟩ := (KX.out.keep hS).o3); (obtain ⟨y0, y1, y2, -, -, -⟩ := (KY.out.keep hS).o3); (obtain ⟨h0, h1, -, -⟩ := (KH.out.keep hS).o2); clear hS; go_simp; first | done | exact rfl)))); (case put199 => (simp only [Act.put, List.setIfInBounds_toArray, List.set_cons_zero, List.set_cons_succ]; first | done | exact rfl)); (case' next199 => skip)
  (refine' grow_call (u := .bool true) rfl Tryd.func14 (by kernel_rfl) rfl hGS rfl ?wt321 ?run321 ?put321 ?next321; (case wt321 => rfl); (case run321 => (intro w' hS H; (have hv : TabV w' v16 xI xO xl := H 16 (by decide)); (obtain ⟨vu, rfl, hvu⟩ := hv); exact (rsame_any xI xO xI xO _ _ xl xl w' hvu (TY.out.below hS)).mono (fun e w2 h => ⟨h.1.trans (by simp), h.2⟩))); (case put321 => (simp only [Act.put, List.setIfInBounds_toArray, List.set_cons_zero, List.set_cons_succ]; first | done | exact rfl)); (case' next321 => skip))
  (first | (refine' grow_skip rfl ?wt200 ?put200 ?next200; (case wt200 => rfl)) | (refine' grow_lit rfl ?wt200 ?run200 ?put200 ?next200; (case wt200 => rfl); (case run200 => (intro w' hS H; clear H; (obtain ⟨a0, a1, a2, -, -, -⟩ := (KA.out.keep hS).o3); (obtain ⟨b0, b1, b2, -, -, -⟩ := (KB.out.keep hS).o3); (obtain ⟨g0, g1, -, -⟩ := (KG.out.keep hS).o2); (obtain ⟨x0, x1, x2, -, -, -⟩ := (KX.out.keep hS).o3); (obtain ⟨y0, y1, y2, -, -, -⟩ := (KY.out.keep hS).o3); (obtain ⟨h0, h1, -, -⟩ := (KH.out.keep hS).o2); clear hS; go_simp; first | done | exact rfl)))); (case put200 => (simp only [Act.put, List.setIfInBounds_toArray, List.set_cons_zero, List.set_cons_succ]; first | done | exact rfl)); (case' next200 => skip)
  (first | (refine' grow_skip rfl ?wt201 ?put201 ?next201; (case wt201 => rfl)) | (refine' grow_lit rfl ?wt201 ?run201 ?put201 ?next201; (case wt201 => rfl); (case run201 => (intro w' hS H; clear H; (obtain ⟨a0, a1, a2, -, -, -⟩ := (KA.out.keep hS).o3); (obtain ⟨b0, b1, b2, -, -, -⟩ := (KB.out.keep hS).o3); (obtain ⟨g0, g1, -, -⟩ := (KG.out.keep hS).o2); (obtain ⟨x0, x1, x2, -, -, -⟩ := (KX.out.keep hS).o3); (obtain ⟨y0, y1, y2, -, -, -⟩ := (KY.out.keep hS).o3); (obtain ⟨h0, h1, -, -⟩ := (KH.out.keep hS).o2); clear hS; go_simp; first | done | exact rfl)))); (case put201 => (simp only [Act.put, List.setIfInBounds_toArray, List.set_cons_zero, List.set_cons_succ]; first | done | exact rfl)); (case' next201 => skip)
  (first | (refine' grow_skip rfl ?wt202 ?put202 ?next202; (case wt202 => rfl)) | (refine' grow_lit rfl ?wt202 ?run202 ?put202 ?next202; (case wt202 => rfl); (case run202 => (intro w' hS H; clear H; (obtain ⟨a0, a1, a2, -, -, -⟩ := (KA.out.keep hS).o3); (obtain ⟨b0, b1, b2, -, -, -⟩ := (KB.out.keep hS).o3); (obtain ⟨g0, g1, -, -⟩ := (KG.out.keep hS).o2); (obtain ⟨x0, x1, x2, -, -, -⟩ := (KX.out.keep hS).o3); (obtain ⟨y0, y1, y2, -, -, -⟩ := (KY.out.keep hS).o3); (obtain ⟨h0, h1, -, -⟩ := (KH.out.keep hS).o2); clear hS; go_simp; first | done | exact rfl)))); (case put202 => (simp only [Act.put, List.setIfInBounds_toArray, List.set_cons_zero, List.set_cons_succ]; first | done | exact rfl)); (case' next202 => skip)
  (first | (refine' grow_skip rfl ?wt203 ?put203 ?next203; (case wt203 => rfl)) | (refine' grow_lit rfl ?wt203 ?run203 ?put203 ?next203; (case wt203 => rfl); (case run203 => (intro w' hS H; clear H; (obtain ⟨a0, a1, a2, -, -, -⟩ := (KA.out.keep hS).o3); (obtain ⟨b0, b1, b2, -, -, -⟩ := (KB.out.keep hS).o3); (obtain ⟨g0, g1, -, -⟩ := (KG.out.keep hS).o2); (obtain ⟨x0, x1, x2, -, -, -⟩ := (KX.out.keep hS).o3); (obtain ⟨y0, y1, y2, -, -, -⟩ := (KY.out.keep hS).o3); (obtain ⟨h0, h1, -, -⟩ := (KH.out.keep hS).o2); clear hS; go_simp; first | done | exact rfl)))); (case put203 => (simp only [Act.put, List.setIfInBounds_toArray, List.set_cons_zero, List.set_cons_succ]; first | done | exact rfl)); (case' next203 => skip)
  (first | (refine' grow_skip rfl ?wt204 ?put204 ?next204; (case wt204 => rfl)) | (refine' grow_lit rfl ?wt204 ?run204 ?put204 ?next204; (case wt204 => rfl); (case run204 => (intro w' hS H; clear H; (obtain ⟨a0, a1, a2, -, -, -⟩ := (KA.out.keep hS).o3); (obtain ⟨b0, b1, b2, -, -, -⟩ := (KB.out.keep hS).o3); (obtain ⟨g0, g1, -, -⟩ := (KG.out.keep hS).o2); (obtain ⟨x0, x1, x2, -, -, -⟩ := (KX.out.keep hS).o3); (obtain ⟨y0, y1, y2, -, -, -⟩ := (KY.out.keep hS).o3); (obtain ⟨h0, h1, -, -⟩ := (KH.out.keep hS).o2); clear hS; go_simp; first | done | exact rfl)))); (case put204 => (simp only [Act.put, List.setIfInBounds_toArray, List.set_cons_zero, List.set_cons_succ]; first | done | exact rfl)); (case' next204 => skip)
  (first | (refine' grow_skip rfl ?wt205 ?put205 ?next205; (case wt205 => rfl)) | (refine' grow_lit rfl ?wt205 ?run205 ?put205 ?next205; (case wt205 => rfl); (case run205 => (intro w' hS H; clear H; (obtain ⟨a0, a1, a2, -, -, -⟩ := (KA.out.keep hS).o3); (obtain ⟨b0, b1, b2, -, -, -⟩ := (KB.out.keep hS).o3); (obtain ⟨g0, g1, -, -⟩ := (KG.out.keep hS).o2); (obtain ⟨x0, x1, x2, -, -, -⟩ := (KX.out.keep hS).o3); (obtain ⟨y0, y1, y2, -, -, -⟩ := (KY.out.keep hS).o3); (obtain ⟨h0, h1, -, -⟩ := (KH.out.keep hS).o2); clear hS; go_simp; first | done | exact rfl)))); (case put205 => (simp only [Act.put, List.setIfInBounds_toArray, List.set_cons_zero, List.set_cons_succ]; first | done | exact rfl)); (case' next205 => skip)
  (first | (refine' grow_skip rfl ?wt206 ?put206 ?next206; (case wt206 => rfl)) | (refine' grow_lit rfl ?wt206 ?run206 ?put206 ?next206; (case wt206 => rfl); (case run206 => (intro w' hS H; clear H; (obtain ⟨a0, a1, a2, -, -, -⟩ := (KA.out.keep hS).o3); (obtain ⟨b0, b1, b2, -, -, -⟩ := (KB.out.keep hS).o3); (obtain ⟨g0, g1, -, -⟩ := (KG.out.keep hS).o2); (obtain ⟨x0, x1, x2, -, -, -⟩ := (KX.out.keep hS).o3); (obtain ⟨y0, y1, y2, -, -, -⟩ := (KY.out.keep hS).o3); (obtain ⟨h0, h1, -, -⟩ := (KH.out.keep hS).o2); clear hS; go_simp; first | done | exact rfl)))); (case put206 => (simp only [Act.put, List.setIfInBounds_toArray, List.set_cons_zero, List.set_cons_succ]; first | done | exact rfl)); (case' next206 => skip)
  (refine' grow_call (u := .nilIface) rfl Tryd.func11 (by kernel_rfl) rfl hGS rfl ?wt322 ?run322 ?put322 ?next322; (case wt322 => rfl); (case run322 => (intro w' hS H; exact (tcheck_any aI aO _ al w' (TA.out.below hS) inA).mono (fun e w2 ⟨v, h1, h2, h3⟩ => ⟨h1.trans (by rw [HCA.out] at h2; rw [h2.none]), h3⟩))); (case put322 => (simp only [Act.put, List.setIfInBounds_toArray, List.set_cons_zero, List.set_cons_succ]; first | done | exact rfl)); (case' next322 => skip))
  (first | (refine' grow_skip rfl ?wt207 ?put207 ?next207; (case wt207 => rfl)) | (refine' grow_lit rfl ?wt207 ?run207 ?put207 ?next207; (case wt207 => rfl); (case run207 => (intro w' hS H; clear H; (obtain ⟨a0, a1, a2, -, -, -⟩ := (KA.out.keep hS).o3); (obtain ⟨b0, b1, b2, -, -, -⟩ := (KB.out.keep hS).o3); (obtain ⟨g0, g1, -, -⟩ := (KG.out.keep hS).o2); (obtain ⟨x0, x1, x2, -, -, -⟩ := (KX.out.keep hS).o3); (obtain ⟨y0, y1, y2, -, -, -⟩ := (KY.out.keep hS).o3); (obtain ⟨h0, h1, -, -⟩ := (KH.out.keep hS).o2); clear hS; go_simp; first | done | exact rfl)))); (case put207 => (simp only [Act.put, List.setIfInBounds_toArray, List.set_cons_zero, List.set_cons_succ]; first | done | exact rfl)); (case' next207 => skip)
  (first | (refine' grow_skip rfl ?wt208 ?put208 ?next208; (case wt208 => rfl)) | (refine' grow_lit rfl ?wt208 ?run208 ?put208 ?next208; (case wt208 => rfl); (case run208 => (intro w' hS H; clear H; (obtain ⟨a0, a1, a2, -, -, -⟩ := (KA.out.keep hS).o3); (obtain ⟨b0, b1, b2, -, -, -⟩ := (KB.out.keep hS).o3); (obtain ⟨g0, g1, -, -⟩ := (KG.out.keep hS).o2); (obtain ⟨x0, x1, x2, -, -, -⟩ := (KX.out.keep hS).o3); (obtain ⟨y0, y1, y2, -, -, -⟩ := (KY.out.keep hS).o3); (obtain ⟨h0, h1, -, -⟩ := (KH.out.keep hS).o2); clear hS; go_simp; first | done | exact rfl)))); (case put208 => (simp only [Act.put, List.setIfInBounds_toArray, List.set_cons_zero, List.set_cons_succ]; first | done | exact rfl)); (case' next208 => skip)
  (first | (refine' grow_skip rfl ?wt209 ?put209 ?next209; (case wt209 => rfl)) | (refine' grow_lit rfl ?wt209 ?run209 ?put209 ?next209; (case wt209 => rfl); (case run209 => (intro w' hS H; clear H; (obtain ⟨a0, a1, a2, -, -, -⟩ := (KA.out.keep hS).o3); (obtain ⟨b0, b1, b2, -, -, -⟩ := (KB.out.keep hS).o3); (obtain ⟨g0, g1, -, -⟩ := (KG.out.keep hS).o2); (obtain ⟨x0, x1, x2, -, -, -⟩ := (KX.out.keep hS).o3); (obtain ⟨y0, y1, y2, -, -, -⟩ := (KY.out.keep hS).o3); (obtain ⟨h0, h1, -, -⟩ := (KH.out.keep hS).o2); clear hS; go_simp; first | done | exact rfl)))); (case put209 => (simp only [Act.put, List.setIfInBounds_toArray, List.set_cons_zero, List.set_cons_succ]; first | done | exact rfl)); (case' next209 => skip)
  (first | (refine' grow_skip rfl ?wt210 ?put210 ?next210; (case wt210 => rfl)) | (refine' grow_lit rfl ?wt210 ?run210 ?put210 ?next210; (case wt210 => rfl); (case run210 => (intro w' hS H; clear H; (obtain ⟨a0, a1, a2, -, -, -⟩ := (KA.out.keep hS).o3); (obtain ⟨b0, b1, b2, -, -, -⟩ := (KB.out.keep hS).o3); (obtain ⟨g0, g1, -, -⟩ := (KG.out.keep hS).o2); (obtain ⟨x0, x1, x2, -, -, -⟩ := (KX.out.keep hS).o3); (obtain ⟨y0, y1, y2, -, -, -⟩ := (KY.out.keep hS).o3); (obtain ⟨h0, h1, -, -⟩ := (KH.out.keep hS).o2); clear hS; go_simp; first | done | exact rfl)))); (case put210 => (simp only [Act.put, List.setIfInBounds_toArray, List.set_cons_zero, List.set_cons_succ]; first | done | exact rfl)); (case' next210 => skip)
  (first | (refine' grow_skip rfl ?wt211 ?put211 ?next211; (case wt211 => rfl)) | (refine' grow_lit rfl ?wt211 ?run211 ?put211 ?next211; (case wt211 => rfl); (case run211 => (intro w' hS H; clear H; (obtain ⟨a0, a1, a2, -, -, -⟩ := (KA.out.keep hS).o3); (obtain ⟨b0, b1, b2, -, -, -⟩ := (KB.out.keep hS).o3); (obtain ⟨g0, g1, -, -⟩ := (KG.out.keep hS).o2); (obtain ⟨x0, x1, x2, -, -, -⟩ := (KX.out.keep hS).o3); (obtain ⟨y0, y1, y2, -, -, -⟩ := (KY.out.keep hS).o3); (obtain ⟨h0, h1, -, -⟩ := (KH.out.keep hS).o2); clear hS; go_simp; first | done | exact rfl)))); (case put211 => (simp only [Act.put, List.setIfInBounds_toArray, List.set_cons_zero, List.set_cons_succ]; first | done | exact rfl)); (case' next211 => skip)
  (first | (refine' grow_skip rfl ?wt212 ?put212 ?next212; (case wt212 => rfl)) | (refine' grow_lit rfl ?wt212 ?run212 ?put212 ?next212; (case wt212 => rfl); (case run212 => (intro w' hS H; clear H; (obtain ⟨a0, a1, a2, -, -, -⟩ := (KA.out.keep hS).o3); (obtain ⟨b0, b1, b2, -, -, -⟩ := (KB.out.keep hS).o3); (obtain ⟨g0, g1, -, -⟩ := (KG.out.keep hS).o2); (obtain ⟨x0, x1, x2, -, -, -⟩ := (KX.out.keep hS).o3); (obtain ⟨y0, y1, y2, -, -, -⟩ := (KY.out.keep hS).o3); (obtain ⟨h0, h1, -, -⟩ := (KH.out.keep hS).o2); clear hS; go_simp; first | done | exact rfl)))); (case put212 => (simp only [Act.put, List.setIfInBounds_toArray, List.set_cons_zero, List.set_cons_succ]; first | done | exact rfl)); (case' next212 => skip)
  (first | (refine' grow_skip rfl ?wt213 ?put213 ?next213; (case wt213 => rfl)) | (refine' grow_lit rfl ?wt213 ?run213 ?put213 ?next213; (case wt213 => rfl); (case run213 => (intro w' hS H; clear H; (obtain ⟨a0, a1, a2, -, -, -⟩ := (KA.out.keep hS).o3); (obtain ⟨b0, b1, b2, -, -, -⟩ := (KB.out.keep hS).o3); (obtain ⟨g0, g1, -, -⟩ := (KG.out.keep hS).o2); (obtain ⟨x0, x1, x2, -, -, -⟩ := (KX.out.keep hS).o3); (obtain ⟨y0, y1, y2, -, -, -⟩ := (KY.out.keep hS).o3); (obtain ⟨h0, h1, -, -⟩ := (KH.out.keep hS).o2); clear hS; go_simp; first | done | exact rfl)))); (case put213 => (simp only [Act.put, List.setIfInBounds_toArray, List.set_cons_zero, List.set_cons_succ]; first | done | exact rfl)); (case' next213 => skip)
  (first | (refine' grow_skip rfl ?wt214 ?put214 ?next214; (case wt214 => rfl)) | (refine' grow_lit rfl ?wt214 ?run214 ?put214 ?next214; (case wt214 => rfl); (case run214 => (intro w' hS H; clear H; (obtain ⟨a0, a1, a2, -, -, -⟩ := (KA.out.keep hS).o3); (obtain ⟨b0, b1, b2, -, -, -⟩ := (KB.out.keep hS).o3); (obtain ⟨g0, g1, -, -⟩ := (KG.out.keep hS).o2); (obtain ⟨x0, x1, x2, -, -, -⟩ := (KX.out.keep hS).o3); (obtain ⟨y0, y1, y2, -, -, -⟩ := (KY.out.keep hS).o3); (obtain ⟨h0, h1, -, -⟩ := (KH.out.keep hS).o2); clear hS; go_simp; first | done | exact rfl)))); (case put214 => (simp only [Act.put, List.setIfInBounds_toArray, List.set_cons_zero, List.set_cons_succ]; first | done | exact rfl)); (case' next214 => skip)
  (first | (refine' grow_skip rfl ?wt215 ?put215 ?next215; (case wt215 => rfl)) | (refine' grow_lit rfl ?wt215 ?run215 ?put215 ?next215; (case wt215 => rfl); (case run215 => (intro w' hS H; clear H; (obtain ⟨a0, a1, a2, -, -, -⟩ := (KA.out.keep hS).o3); (obtain ⟨b0, b1, b2, -, -, -⟩ := (KB.out.keep hS).o3); (obtain ⟨g0, g1, -, -⟩ := (KG.out.keep hS).o2); (obtain ⟨x0, x1, x2, -, -, -⟩ := (KX.out.keep hS).o3); (obtain ⟨y0, y1, y2, -, -, -⟩ := (KY.out.keep hS).o3); (obtain ⟨h0, h1, -, -⟩ := (KH.out.keep hS).o2); clear hS; go_simp; first | done | exact rfl)))); (case put215 => (simp only [Act.put, List.setIfInBounds_toArray, List.set_cons_zero, List.set_cons_succ]; first | done | exact rfl)); (case' next215 => skip)
  (first | (refine' grow_skip rfl ?wt216 ?put216 ?next216; (case wt216 => rfl)) | (refine' grow_lit rfl ?wt216 ?run216 ?put216 ?next216; (case wt216 => rfl); (case run216 => (intro w' hS H; clear H; (obtain ⟨a0, a1, a2, -, -, -⟩ := (KA.out.keep hS).o3); (obtain ⟨b0, b1, b2, -, -, -⟩ := (KB.out.keep hS).o3); (obtain ⟨g0, g1, -, -⟩ := (KG.out.keep hS).o2); (obtain ⟨x0, x1, x2, -, -, -⟩ := (KX.out.keep hS).o3); (obtain ⟨y0, y1, y2, -, -, -⟩ := (KY.out.keep hS).o3); (obtain ⟨h0, h1, -, -⟩ := (KH.out.keep hS).o2); clear hS; go_simp; first | done | exact rfl)))); (case put216 => (simp only [Act.put, List.setIfInBounds_toArray, List.set_cons_zero, List.set_cons_succ]; first | done | exact rfl)); (case' next216 => skip)
  (first | (refine' grow_skip rfl ?wt217 ?put217 ?next217; (case wt217 => rfl)) | (refine' grow_lit rfl ?wt217 ?run217 ?put217 ?next217; (case wt217 => rfl); (case run217 => (intro w' hS H; clear H; (obtain ⟨a0, a1, a2, -, -, -⟩ := (KA.out.keep hS).o3); (obtain ⟨b0, b1, b2, -, -, -⟩ := (KB.out.keep hS).o3); (obtain ⟨g0, g1, -, -⟩ := (KG.out.keep hS).o2); (obtain ⟨x0, x1, x2, -, -, -⟩ := (KX.out.keep hS).o3); (obtain ⟨y0, y1, y2, -, -, -⟩ := (KY.out.keep hS).o3); (obtain ⟨h0, h1, -, -⟩ := (KH.out.keep hS).o2); clear hS; go_simp; first | done | exact rfl)))); (case put217 => (simp only [Act.put, List.setIfInBounds_toArray, List.set_cons_zero, List.set_cons_succ]; first | done | exact rfl)); (case' next217 => skip)
  (first | (refine' grow_skip rfl ?wt218 ?put218 ?next218; (case wt218 => rfl)) | (refine' grow_lit rfl ?wt218 ?run218 ?put218 ?next218; (case wt218 => rfl); (case run218 => (intro w' hS H; clear H; (obtain ⟨a0, a1, a2, -, -, -⟩ := (KA.out.keep hS).o3); (obtain ⟨b0, b1, b2, -, -, -⟩ := (KB.out.keep hS).o3); (obtain ⟨g0, g1, -, -⟩ := (KG.out.keep hS).o2); (obtain ⟨x0, x1, x2, -, -, -⟩ := (KX.out.keep hS).o3); (obtain ⟨y0, y1, y2, -, -, -⟩ := (KY.out.keep hS).o3); (obtain ⟨h0, h1, -, -⟩ := (KH.out.keep hS).o2); clear hS; go_simp; first | done | exact rfl)))); (case put218 => (simp only [Act.put, List.setIfInBounds_toArray, List.set_cons_zero, List.set_cons_succ]; first | done | exact rfl)); (case' next218 => skip)
  (first | (refine' grow_skip rfl ?wt219 ?put219 ?next219; (case wt219 => rfl)) | (refine' grow_lit rfl ?wt219 ?run219 ?put219 ?next219; (case wt219 => rfl); (case run219 => (intro w' hS H; clear H; (obtain ⟨a0, a1, a2, -, -, -⟩ := (KA.out.keep hS).o3); (obtain ⟨b0, b1, b2, -, -, -⟩ := (KB.out.keep hS).o3); (obtain ⟨g0, g1, -, -⟩ := (KG.out.keep hS).o2); (obtain ⟨x0, x1, x2, -, -, -⟩ := (KX.out.keep hS).o3); (obtain ⟨y0, y1, y2, -, -, -⟩ := (KY.out.keep hS).o3); (obtain ⟨h0, h1, -, -⟩ := (KH.out.keep hS).o2); clear hS; go_simp; first | done | exact rfl)))); (case put219 => (simp only [Act.put, List.setIfInBounds_toArray, List.set_cons_zero, List.set_cons_succ]; first | done | exact rfl)); (case' next219 => skip)
  (first | (refine' grow_skip rfl ?wt220 ?put220 ?next220; (case wt220 => rfl)) | (refine' grow_lit rfl ?wt220 ?run220 ?put220 ?next220; (case wt220 => rfl); (case run220 => (intro w' hS H; clear H; (obtain ⟨a0, a1, a2, -, -, -⟩ := (KA.out.keep hS).o3); (obtain ⟨b0, b1, b2, -, -, -⟩ := (KB.out.keep hS).o3); (obtain ⟨g0, g1, -, -⟩ := (KG.out.keep hS).o2); (obtain ⟨x0, x1, x2, -, -, -⟩ := (KX.out.keep hS).o3); (obtain ⟨y0, y1, y2, -, -, -⟩ := (KY.out.keep hS).o3); (obtain ⟨h0, h1, -, -⟩ := (KH.out.keep hS).o2); clear hS; go_simp; first | done | exact rfl)))); (case put220 => (simp only [Act.put, List.setIfInBounds_toArray, List.set_cons_zero, List.set_cons_succ]; first | done | exact rfl)); (case' next220 => skip)
  (first | (refine' grow_skip rfl ?wt221 ?put221 ?next221; (case wt221 => rfl)) | (refine' grow_lit rfl ?wt221 ?run221 ?put221 ?next221; (case wt221 => rfl); (case run221 => (intro w' hS H; clear H; (obtain ⟨a0, a1, a2, -, -, -⟩ := (KA.out.keep hS).o3); (obtain ⟨b0, b1, b2, -, -, -⟩ := (KB.out.keep hS).o3); (obtain ⟨g0, g1, -, -⟩ := (KG.out.keep hS).o2); (obtain ⟨x0, x1, x2, -, -, -⟩ := (KX.out.keep hS).o3); (obtain ⟨y0, y1, y2, -, -, -⟩ := (KY.out.keep hS).o3); (obtain ⟨h0, h1, -, -⟩ := (KH.out.keep hS).o2); clear hS; go_simp; first | done | exact rfl)))); (case put221 => (simp only [Act.put, List.setIfInBounds_toArray, List.set_cons_zero, List.set_cons_succ]; first | done | exact rfl)); (case' next221 => skip)
  (first | (refine' grow_skip rfl ?wt222 ?put222 ?next222; (case wt222 => rfl)) | (refine' grow_lit rfl ?wt222 ?run222 ?put222 ?next222; (case wt222 => rfl); (case run222 => (intro w' hS H; clear H; (obtain ⟨a0, a1, a2, -, -, -⟩ := (KA.out.keep hS).o3); (obtain ⟨b0, b1, b2, -, -, -⟩ := (KB.out.keep hS).o3); (obtain ⟨g0, g1, -, -⟩ := (KG.out.keep hS).o2); (obtain ⟨x0, x1, x2, -, -, -⟩ := (KX.out.keep hS).o3); (obtain ⟨y0, y1, y2, -, -, -⟩ := (KY.out.keep hS).o3); (obtain ⟨h0, h1, -, -⟩ := (KH.out.keep hS).o2); clear hS; go_simp; first | done | exact rfl)))); (case put222 => (simp only [Act.put, List.setIfInBounds_toArray, List.set_cons_zero, List.set_cons_succ]; first | done | exact rfl)); (case' next222 => skip)
  (first | (refine' grow_skip rfl ?wt223 ?put223 ?next223; (case wt223 => rfl)) | (refine' grow_lit rfl ?wt223 ?run223 ?put223 ?next223; (case wt223 => rfl); (case run223 => (intro w' hS H; clear H; (obtain ⟨a0, a1, a2, -, -, -⟩ := (KA.out.keep hS).o3); (obtain ⟨b0, b1, b2, -, -, -⟩ := (KB.out.keep hS).o3); (obtain ⟨g0, g1, -, -⟩ := (KG.out.keep hS).o2); (obtain ⟨x0, x1, x2, -, -, -⟩ := (KX.out.keep hS).o3); (obtain ⟨y0, y1, y2, -, -, -⟩ := (KY.out.keep hS).o3); (obtain ⟨h0, h1, -, -⟩ := (KH.out.keep hS).o2); clear hS; go_simp; first | done | exact rfl)))); (case put223 => (simp only [Act.put, List.setIfInBounds_toArray, List.set_cons_zero, List.set_cons_succ]; first | done | exact rfl)); (case' next223 => skip)
  (first | (refine' grow_skip rfl ?wt224 ?put224 ?next224; (case wt224 => rfl)) | (refine' grow_lit rfl ?wt224 ?run224 ?put224 ?next224; (case wt224 => rfl); (case run224 => (intro w' hS H; clear H; (obtain ⟨a0, a1, a2, -, -, -⟩ := (KA.out.keep hS).o3); (obtain ⟨b0, b1, b2, -, -, -⟩ := (KB.out.keep hS).o3); (obtain ⟨g0, g1, -, -⟩ := (KG.out.keep hS).o2); (obtain ⟨x0, x1, x2, -, -, -⟩ := (KX.out.keep hS).o3); (obtain ⟨y0, y1, y2, -, -, -⟩ := (KY.out.keep hS).o3); (obtain ⟨h0, h1, -, -⟩ := (KH.out.keep hS).o2); clear hS; go_simp; first | done | exact rfl)))); (case put224 => (simp only [Act.put, List.setIfInBounds_toArray, List.set_cons_zero, List.set_cons_succ]; first | done | exact rfl)); (case' next224 => skip)
  (first | (refine' grow_skip rfl ?wt225 ?put225 ?next225; (case wt225 => rfl)) | (refine' grow_lit rfl ?wt225 ?run225 ?put225 ?next225; (case wt225 => rfl); (case run225 => (intro w' hS H; clear H; (obtain ⟨a0, a1, a2, -, -, -⟩ := (KA.out.keep hS).o3); (obtain ⟨b0, b1, b2, -, -, -⟩ := (KB.out.keep hS).o3); (obtain ⟨g0, g1, -, -⟩ := (KG.out.keep hS).o2); (obtain ⟨x0, x1, x2, -, -, -⟩ := (KX.out.keep hS).o3); (obtain ⟨y0, y1, y2, -, -, -⟩ := (KY.out.keep hS).o3); (obtain ⟨h0, h1, -, -⟩ := (KH.out.keep hS).o2); clear hS; go_simp; first | done | exact rfl)))); (case put225 => (simp only [Act.put, List.setIfInBounds_toArray, List.set_cons_zero, List.set_cons_succ]; first | done | exact rfl)); (case' next225 => skip)
  (first | (refine' grow_skip rfl ?wt226 ?put226 ?next226; (case wt226 => rfl)) | (refine' grow_lit rfl ?wt226 ?run226 ?put226 ?next226; (case wt226 => rfl); (case run226 => (intro w' hS H; clear H; (obtain ⟨a0, a1, a2, -, -, -⟩ := (KA.out.keep hS).o3); (obtain ⟨b0, b1, b2, -, -, -⟩ := (KB.out.keep hS).o3); (obtain ⟨g0, g1, -, -⟩ := (KG.out.keep hS).o2); (obtain ⟨x0, x1, x2, -, -, -⟩ := (KX.out.keep hS).o3); (obtain ⟨y0, y1, y2, -, -, -⟩ := (KY.out.keep hS).o3); (obtain ⟨h0, h1, -, -⟩ := (KH.out.keep hS).o2); clear hS; go_simp; first | done | exact rfl)))); (case put226 => (simp only [Act.put, List.setIfInBounds_toArray, List.set_cons_zero, List.set_cons_succ]; first | done | exact rfl)); (case' next226 => skip)
  intro w' hS _
  have HF := Lib.hid (B0.out.trans (hS.mono B0.out.size))
  clear hS
  go_wp2_with fail
  go_ret
  exact ⟨rfl, HF.out⟩

set_option maxHeartbeats 4000000 in
set_option maxRecDepth 100000 in
theorem makes_01 (ins outs n : Int) (aI aO : Int) (al : List Int) (xI xO : Int) (xl : List Int) (p : Int) (w : World) (hg : ErrT w) (hcx : chkT xI xO xl = (0, 0)) (inX : In64 xl) (hbn : bansC xl = n)
    (ha1 : ∀ w, Calls Tryd.prog 22 #[.int .i64 ins, .int .i64 outs] w (TEPost aI aO al [(turnB, p)] 1 w))
    (ha2 : ∀ w, Calls Tryd.prog 23 #[.int .i64 ins, .int .i64 outs] w (TWPost aI aO al [(turnB, p)] 1 w))
    (hb1 : ∀ w, Calls Tryd.prog 24 #[.int .i64 n] w (TEPost xI xO xl [] 0 w))
    (hb2 : ∀ w, Calls Tryd.prog 25 #[.int .i64 n] w (TWPost xI xO xl [] 0 w)) :
    Calls Tryd.prog 4 #[.int .i64 ins, .int .i64 outs, .int .i64 n] w fun e w' => e = .returned (.bool true) ∧ Below w.heap.size w w' := by
  have HG := Lib.hid hg
  have HGL := Lib.hid hg.lt
  have HA1 := Lib.hid ha1
  have HA2 := Lib.hid ha2
  have HB1 := Lib.hid hb1
  have HB2 := Lib.hid hb2
  have HCX := Lib.hid hcx
  have HBN := Lib.hid hbn
  clear hg ha1 ha2 hb1 hb2 hcx hbn
  go_enter Tryd.func4, Tryd.ntmps4
  go_wp2_with fail
  refine (known2_any _ HG.out).mono ?_
  rintro e w0 ⟨rfl, hb0⟩
  have HB0 := Lib.hid hb0
  clear hb0
  go_wp2_with fail
  refine (HA1.out _).mono ?_
  rintro e w1 ⟨tv, ev, rfl, ⟨au, rfl, hT⟩, hF, hb⟩
  obtain ⟨aq, ac, rfl⟩ := hT.shape
  obtain ⟨af, rfl, _⟩ := hF.iface
  go_wp2_with fail
  obtain ⟨W1, hW1⟩ := named (w1.alloc (.cells #[.int .i64 aI, .int .i64 aO, .slice aq al.length ac] 34))
  rw [← hW1]
  have hc1 : Below w1.heap.size w1 W1 := by rw [hW1]; exact below_alloc1 _
  have hd1 : Below w0.heap.size w0 W1 := hb.trans (hc1.mono hb.size)
  have B0 : Hid (Below w.heap.size w W1) := Lib.hid (HB0.out.trans (hd1.mono HB0.out.size))
  have KA : Hid (Blk W1 (w1.heap.size) #[.int .i64 aI, .int .i64 aO, .slice aq al.length ac] 34) := by rw [hW1]; exact Lib.hid (Blk.new _ _ _ _ rfl)
  have TA := Lib.hid (hT.below hc1)
  have FA := Lib.hid (hF.below hc1)
  clear hb hT hF hd1 hc1 hW1 
  refine (HA2.out _).mono ?_
  rintro e w2 ⟨tv, wv, rfl, ⟨bu, rfl, hT⟩, hW, hb⟩
  obtain ⟨bq, bc, rfl⟩ := hT.shape
  obtain ⟨gq, gn, gc, rfl⟩ := hW.shape
  go_wp2_with fail
  obtain ⟨W2, hW2⟩ := named ((w2.alloc (.cells #[.int .i64 aI, .int .i64 aO, .slice bq al.length bc] 24)).alloc (.cells #[.slice gq gn gc, .int .i64 1] 28))
  rw [← hW2]
  have hc2 : Below w2.heap.size w2 W2 := by rw [hW2]; exact below_alloc2 _ _
  have hd2 : Below W1.heap.size W1 W2 := hb.trans (hc2.mono hb.size)
  have KA_ := Lib.hid (KA.out.keep hd2)
  have TA_ := Lib.hid (TA.out.below hd2)
  have FA_ := Lib.hid (FA.out.below hd2)
  clear KA TA FA
  have KA := KA_
  have TA := TA_
  have FA := FA_
  clear KA_ TA_ FA_
  have B1 : Hid (Below w.heap.size w W2) := Lib.hid (B0.out.trans (hd2.mono B0.out.size))
  clear B0
  have B0 := B1
  clear B1
  have KB : Hid (Blk W2 (w2.heap.size) #[.int .i64 aI, .int .i64 aO, .slice bq al.length bc] 24) := by rw [hW2]; exact Lib.hid ((Blk.new _ _ _ _ rfl).old _)
  have KG : Hid (Blk W2 (w2.heap.size + 1) #[.slice gq gn gc, .int .i64 1] 28) := by rw [hW2]; exact Lib.hid (Blk.new _ _ _ _ (by simp))
  have TB := Lib.hid (hT.below hc2)
  have WG := Lib.hid (hW.below hc2)
  clear hb hT hW hd2 hc2 hW2 
  refine (HB1.out _).mono ?_
  rintro e w3 ⟨tv, ev, rfl, ⟨xu, rfl, hT⟩, hF, hb⟩
  obtain ⟨xq, xc, rfl⟩ := hT.shape
  obtain rfl := hF.none
  go_wp2_with fail
  obtain ⟨W3, hW3⟩ := named (w3.alloc (.cells #[.int .i64 xI, .int .i64 xO, .slice xq xl.length xc] 34))
  rw [← hW3]
  have hc3 : Below w3.heap.size w3 W3 := by rw [hW3]; exact below_alloc1 _
  have hd3 : Below W2.heap.size W2 W3 := hb.trans (hc3.mono hb.size)
  have KA_ := Lib.hid (KA.out.keep hd3)
  have TA_ := Lib.hid (TA.out.below hd3)
  have FA_ := Lib.hid (FA.out.below hd3)
  have KB_ := Lib.hid (KB.out.keep hd3)
  have KG_ := Lib.hid (KG.out.keep hd3)
  have TB_ := Lib.hid (TB.out.below hd3)
  have WG_ := Lib.hid (WG.out.below hd3)
  clear KA TA FA KB KG TB WG
  have KA := KA_
  have TA := TA_
  have FA := FA_
  have KB := KB_
  have KG := KG_
  have TB := TB_
  have WG := WG_
  clear KA_ TA_ FA_ KB_ KG_ TB_ WG_
  have B1 : Hid (Below w.heap.size w W3) := Lib.hid (B0.out.trans (hd3.mono B0.out.size))
  clear B0
  have B0 := B1
  clear B1
  have KX : Hid (Blk W3 (w3.heap.size) #[.int .i64 xI, .int .i64 xO, .slice xq xl.length xc] 34) := by rw [hW3]; exact Lib.hid (Blk.new _ _ _ _ rfl)
  have TX := Lib.hid (hT.below hc3)
  have FX := Lib.hid (hF.below hc3)
  clear hb hT hF hd3 hc3 hW3 
  refine (HB2.out _).mono ?_
  rintro e w4 ⟨tv, wv, rfl, ⟨yu, rfl, hT⟩, hW, hb⟩
  obtain ⟨yq, yc, rfl⟩ := hT.shape
  obtain ⟨hq, hn, hcc, rfl⟩ := hW.shape
  go_wp2_with fail
  obtain ⟨W4, hW4⟩ := named ((w4.alloc (.cells #[.int .i64 xI, .int .i64 xO, .slice yq xl.length yc] 24)).alloc (.cells #[.slice hq hn hcc, .int .i64 0] 28))
  rw [← hW4]
  have hc4 : Below w4.heap.size w4 W4 := by rw [hW4]; exact below_alloc2 _ _
  have hd4 : Below W3.heap.size W3 W4 := hb.trans (hc4.mono hb.size)
  have KA_ := Lib.hid (KA.out.keep hd4)
  have TA_ := Lib.hid (TA.out.below hd4)
  have FA_ := Lib.hid (FA.out.below hd4)
  have KB_ := Lib.hid (KB.out.keep hd4)
  have KG_ := Lib.hid (KG.out.keep hd4)
  have TB_ := Lib.hid (TB.out.below hd4)
  have WG_ := Lib.hid (WG.out.below hd4)
  have KX_ := Lib.hid (KX.out.keep hd4)
  have TX_ := Lib.hid (TX.out.below hd4)
  have FX_ := Lib.hid (FX.out.below hd4)
  clear KA TA FA KB KG TB WG KX TX FX
  have KA := KA_
  have TA := TA_
  have FA := FA_
  have KB := KB_
  have KG := KG_
  have TB := TB_
  have WG := WG_
  have KX := KX_
  have TX := TX_
  have FX := FX_
  clear KA_ TA_ FA_ KB_ KG_ TB_ WG_ KX_ TX_ FX_
  have B1 : Hid (Below w.heap.size w W4) := Lib.hid (B0.out.trans (hd4.mono B0.out.size))
  clear B0
  have B0 := B1
  clear B1
  have KY : Hid (Blk W4 (w4.heap.size) #[.int .i64 xI, .int .i64 xO, .slice yq xl.length yc] 24) := by rw [hW4]; exact Lib.hid ((Blk.new _ _ _ _ rfl).old _)
  have KH : Hid (Blk W4 (w4.heap.size + 1) #[.slice hq hn hcc, .int .i64 0] 28) := by rw [hW4]; exact Lib.hid (Blk.new _ _ _ _ (by simp))
  have TY := Lib.hid (hT.below hc4)
  have WH := Lib.hid (hW.below hc4)
  clear hb hT hW hd4 hc4 hW4 
  have hGS : Grows (fun w' => Below W4.heap.size W4 w') := Grows.below W4
  refine' wp_growL _ (fun w' => Below W4.heap.size W4 w') [[], [], [0, 1], [2], [3], [3, 4], [3], [3, 5, 6], [3, 7], [8], [9], [9], [9, 10, 11], [9, 12], [13], [14], [14, 15], [14], [14, 16, 17], [14, 18], [19], [20], [20, 21], [20, 22], [20, 23], [24], [24, 25], [24, 26], [20, 24, 27], [20, 28], [29], [30], [30, 31], [30, 32], [30, 33], [34], [34, 35], [34, 36], [34, 37], [38], [38, 39], [38], [38, 40, 41], [34, 38, 42], [30, 34, 43], [30, 44], [45]] (Fact.lit _ :: Fact.lit _ :: Fact.lit _ :: Fact.lit _ :: Fact.lit _ :: Fact.prop _ _ :: Fact.lit _ :: Fact.lit _ :: Fact.lit _ :: Fact.lit _ :: Fact.lit _ :: Fact.lit _ :: Fact.lit _ :: Fact.lit _ :: Fact.lit _ :: Fact.lit _ :: Fact.prop _ _ :: Fact.lit _ :: Fact.lit _ :: Fact.lit _ :: Fact.lit _ :: Fact.lit _ :: Fact.lit _ :: Fact.lit _ :: Fact.lit _ :: Fact.lit _ :: Fact.lit _ :: Fact.lit _ :: Fact.lit _ :: Fact.lit _ :: Fact.lit _ :: Fact.lit _ :: Fact.lit _ :: Fact.lit _ :: Fact.lit _ :: Fact.lit _ :: Fact.lit _ :: Fact.lit _ :: Fact.lit _ :: Fact.lit _ :: Fact.lit _ :: Fact.lit _ :: Fact.lit _ :: Fact.lit _ :: Fact.lit _ :: Fact.lit _ :: Fact.lit _ :: []) (by kernel_rfl) rfl (by kernel_rfl) (Below.refl _ _).drew ?seqmakes_01
  case' seqmakes_01 => skip
  (first | (refine' grow_skip rfl ?wt227 ?put227 ?next227; (case wt227 => rfl)) | (refine' grow_lit rfl ?wt227 ?run227 ?put227 ?next227; (case wt227 => rfl); (case run227 => (intro w' hS H; clear H; (obtain ⟨a0, a1, a2, -, -, -⟩ := (KA.out.keep hS).o3); (obtain ⟨b0, b1, b2, -, -, -⟩ := (KB.out.keep hS).o3); (obtain ⟨g0, g1, -, -⟩ := (KG.out.keep hS).o2); (obtain ⟨x0, x1, x2, -, -, -⟩ := (KX.out.keep hS).o3); (obtain ⟨y0, y1, y2, -, -, -⟩ := (KY.out.keep hS).o3); (obtain ⟨h0, h1, -, -⟩ := (KH.out.keep hS).o2); clear hS; go_simp; first | done | exact rfl)))); (case put227 => (simp only [Act.put, List.setIfInBounds_toArray, List.set_cons_zero, List.set_cons_succ]; first | done | exact rfl)); (case' next227 => skip)
  (first | (refine' grow_skip rfl ?wt228 ?put228 ?next228; (case wt228 => rfl)) | (refine' grow_lit rfl ?wt228 ?run228 ?put228 ?next228; (case wt228 => rfl); (case run228 => (intro w' hS H; clear H; (obtain ⟨a0, a1, a2, -, -, -⟩ := (KA.out.keep hS).o3); (obtain ⟨b0, b1, b2, -, -, -⟩ := (KB.out.keep hS).o3); (obtain ⟨g0, g1, -, -⟩ := (KG.out.keep hS).o2); (obtain ⟨x0, x1, x2, -, -, -⟩ := (KX.out.keep hS).o3); (obtain ⟨y0, y1, y2, -, -, -⟩ := (KY.out.keep hS).o3); (obtain ⟨h0, h1, -, -⟩ := (KH.out.keep hS).o2); clear hS; go_simp; first | done | exact rfl)))); (case put228 => (simp only [Act.put, List.setIfInBounds_toArray, List.set_cons_zero, List.set_cons_succ]; first | done | exact rfl)); (case' next228 => skip)
  (refine' grow_call (u := .bool true) rfl Tryd.func10 (by kernel_rfl) rfl hGS rfl ?wt323 ?run323 ?put323 ?next323; (case wt323 => rfl); (case run323 => (intro w' hS H; exact tells_post _ _ [(turnB, p)] 1 w' (HG.out.below HGL.out (B0.out.trans (hS.mono B0.out.size))) (FA.out.below hS) (WG.out.below hS) (Or.inr (by simp)))); (case put323 => (simp only [Act.put, List.setIfInBounds_toArray, List.set_cons_zero, List.set_cons_succ]; first | done | exact rfl)); (case' next323 => skip))
  (first | (refine' grow_skip rfl ?wt229 ?put229 ?next229; (case wt229 => rfl)) | (refine' grow_lit rfl ?wt229 ?run229 ?put229 ?next229; (case wt229 => rfl); (case run229 => (intro w' hS H; clear H; (obtain ⟨a0, a1, a2, -, -, -⟩ := (KA.out.keep hS).o3); (obtain ⟨b0, b1, b2, -, -, -⟩ := (KB.out.keep hS).o3); (obtain ⟨g0, g1, -, -⟩ := (KG.out.keep hS).o2); (obtain ⟨x0, x1, x2, -, -, -⟩ := (KX.out.keep hS).o3); (obtain ⟨y0, y1, y2, -, -, -⟩ := (KY.out.keep hS).o3); (obtain ⟨h0, h1, -, -⟩ := (KH.out.keep hS).o2); clear hS; go_simp; first | done | exact rfl)))); (case put229 => (simp only [Act.put, List.setIfInBounds_toArray, List.set_cons_zero, List.set_cons_succ]; first | done | exact rfl)); (case' next229 => skip)
  (first | (refine' grow_skip rfl ?wt230 ?put230 ?next230; (case wt230 => rfl)) | (refine' grow_lit rfl ?wt230 ?run230 ?put230 ?next230; (case wt230 => rfl); (case run230 => (intro w' hS H; clear H; (obtain ⟨a0, a1, a2, -, -, -⟩ := (KA.out.keep hS).o3); (obtain ⟨b0, b1, b2, -, -, -⟩ := (KB.out.keep hS).o3); (obtain ⟨g0, g1, -, -⟩ := (KG.out.keep hS).o2); (obtain ⟨x0, x1, x2, -, -, -⟩ := (KX.out.keep hS).o3); (obtain ⟨y0, y1, y2, -, -, -⟩ := (KY.out.keep hS).o3); (obtain ⟨h0, h1, -, -⟩ := (KH.out.keep hS).o2); clear hS; go_simp; first | done | exact rfl)))); (case put230 => (simp only [Act.put, List.setIfInBounds_toArray, List.set_cons_zero, List.set_cons_succ]; first | done | exact rfl)); (case' next230 => skip)
  (refine' grow_callP (p := fun v w => TabV w v aI aO al) (hp := fun v w w' h hb => h.below hb) rfl Tryd.func21 (by kernel_rfl) rfl hGS rfl ?wt324 ?run324 ?put324 ?next324; (case wt324 => rfl); (case run324 => (intro w' hS H; exact (of_any aI aO _ al w' (TA.out.below hS)).mono (fun e w2 ⟨v, h1, h2, h3⟩ => ⟨v, h1, h2, h3⟩))); (case put324 => (intro v; simp only [Act.put, List.setIfInBounds_toArray, List.set_cons_zero, List.set_cons_succ]; first | done | exact rfl)); (case' next324 => intro v5))
  (first | (refine' grow_skip rfl ?wt231 ?put231 ?next231; (case wt231 => rfl)) | (refine' grow_lit rfl ?wt231 ?run231 ?put231 ?next231; (case wt231 => rfl); (case run231 => (intro w' hS H; clear H; (obtain ⟨a0, a1, a2, -, -, -⟩ := (KA.out.keep hS).o3); (obtain ⟨b0, b1, b2, -, -, -⟩ := (KB.out.keep hS).o3); (obtain ⟨g0, g1, -, -⟩ := (KG.out.keep hS).o2); (obtain ⟨x0, x1, x2, -, -, -⟩ := (KX.out.keep hS).o3); (obtain ⟨y0, y1, y2, -, -, -⟩ := (KY.out.keep hS).o3); (obtain ⟨h0, h1, -, -⟩ := (KH.out.keep hS).o2); clear hS; go_simp; first | done | exact rfl)))); (case put231 => (simp only [Act.put, List.setIfInBounds_toArray, List.set_cons_zero, List.set_cons_succ]; first | done | exact rfl)); (case' next231 => skip)
  (refine' grow_call (u := .bool true) rfl Tryd.func14 (by kernel_rfl) rfl hGS rfl ?wt325 ?run325 ?put325 ?next325; (case wt325 => rfl); (case run325 => (intro w' hS H; (have hv : TabV w' v5 aI aO al := H 5 (by decide)); (obtain ⟨vu, rfl, hvu⟩ := hv); exact (rsame_any aI aO aI aO _ _ al al w' hvu (TB.out.below hS)).mono (fun e w2 h => ⟨h.1.trans (by simp), h.2⟩))); (case put325 => (simp only [Act.put, List.setIfInBounds_toArray, List.set_cons_zero, List.set_cons_succ]; first | done | exact rfl)); (case' next325 => skip))
  (first | (refine' grow_skip rfl ?wt232 ?put232 ?next232; (case wt232 => rfl)) | (refine' grow_lit rfl ?wt232 ?run232 ?put232 ?next232; (case wt232 => rfl); (case run232 => (intro w' hS H; clear H; (obtain ⟨a0, a1, a2, -, -, -⟩ := (KA.out.keep hS).o3); (obtain ⟨b0, b1, b2, -, -, -⟩ := (KB.out.keep hS).o3); (obtain ⟨g0, g1, -, -⟩ := (KG.out.keep hS).o2); (obtain ⟨x0, x1, x2, -, -, -⟩ := (KX.out.keep hS).o3); (obtain ⟨y0, y1, y2, -, -, -⟩ := (KY.out.keep hS).o3); (obtain ⟨h0, h1, -, -⟩ := (KH.out.keep hS).o2); clear hS; go_simp; first | done | exact rfl)))); (case put232 => (simp only [Act.put, List.setIfInBounds_toArray, List.set_cons_zero, List.set_cons_succ]; first | done | exact rfl)); (case' next232 => skip)
  (first | (refine' grow_skip rfl ?wt233 ?put233 ?next233; (case wt233 => rfl)) | (refine' grow_lit rfl ?wt233 ?run233 ?put233 ?next233; (case wt233 => rfl); (case run233 => (intro w' hS H; clear H; (obtain ⟨a0, a1, a2, -, -, -⟩ := (KA.out.keep hS).o3); (obtain ⟨b0, b1, b2, -, -, -⟩ := (KB.out.keep hS).o3); (obtain ⟨g0, g1, -, -⟩ := (KG.out.keep hS).o2); (obtain ⟨x0, x1, x2, -, -, -⟩ := (KX.out.keep hS).o3); (obtain ⟨y0, y1, y2, -, -, -⟩ := (KY.out.keep hS).o3); (obtain ⟨h0, h1, -, -⟩ := (KH.out.keep hS).o2); clear hS; go_simp; first | done | exact rfl)))); (case put233 => (simp only [Act.put, List.setIfInBounds_toArray, List.set_cons_zero, List.set_cons_succ]; first | done | exact rfl)); (case' next233 => skip)
  (first | (refine' grow_skip rfl ?wt234 ?put234 ?next234; (case wt234 => rfl)) | (refine' grow_lit rfl ?wt234 ?run234 ?put234 ?next234; (case wt234 => rfl); (case run234 => (intro w' hS H; clear H; (obtain ⟨a0, a1, a2, -, -, -⟩ := (KA.out.keep hS).o3); (obtain ⟨b0, b1, b2, -, -, -⟩ := (KB.out.keep hS).o3); (obtain ⟨g0, g1, -, -⟩ := (KG.out.keep hS).o2); (obtain ⟨x0, x1, x2, -, -, -⟩ := (KX.out.keep hS).o3); (obtain ⟨y0, y1, y2, -, -, -⟩ := (KY.out.keep hS).o3); (obtain ⟨h0, h1, -, -⟩ := (KH.out.keep hS).o2); clear hS; go_simp; first | done | exact rfl)))); (case put234 => (simp only [Act.put, List.setIfInBounds_toArray, List.set_cons_zero, List.set_cons_succ]; first | done | exact rfl)); (case' next234 => skip)
  (first | (refine' grow_skip rfl ?wt235 ?put235 ?next235; (case wt235 => rfl)) | (refine' grow_lit rfl ?wt235 ?run235 ?put235 ?next235; (case wt235 => rfl); (case run235 => (intro w' hS H; clear H; (obtain ⟨a0, a1, a2, -, -, -⟩ := (KA.out.keep hS).o3); (obtain ⟨b0, b1, b2, -, -, -⟩ := (KB.out.keep hS).o3); (obtain ⟨g0, g1, -, -⟩ := (KG.out.keep hS).o2); (obtain ⟨x0, x1, x2, -, -, -⟩ := (KX.out.keep hS).o3); (obtain ⟨y0, y1, y2, -, -, -⟩ := (KY.out.keep hS).o3); (obtain ⟨h0, h1, -, -⟩ := (KH.out.keep hS).o2); clear hS; go_simp; first | done | exact rfl)))); (case put235 => (simp only [Act.put, List.setIfInBounds_toArray, List.set_cons_zero, List.set_cons_succ]; first | done | exact rfl)); (case' next235 => skip)
  (refine' grow_call (u := .bool true) rfl Tryd.func10 (by kernel_rfl) rfl hGS rfl ?wt326 ?run326 ?put326 ?next326; (case wt326 => rfl); (case run326 => (intro w' hS H; exact tells_post _ _ [] 0 w' (HG.out.below HGL.out (B0.out.trans (hS.mono B0.out.size))) (FX.out.below hS) (WH.out.below hS) (Or.inl ⟨rfl, rfl⟩))); (case put326 => (simp only [Act.put, List.setIfInBounds_toArray, List.set_cons_zero, List.set_cons_succ]; first | done | exact rfl)); (case' next326 => skip))
  (first | (refine' grow_skip rfl ?wt236 ?put236 ?next236; (case wt236 => rfl)) | (refine' grow_lit rfl ?wt236 ?run236 ?put236 ?next236; (case wt236 => rfl); (case run236 => (intro w' hS H; clear H; (obtain ⟨a0, a1, a2, -, -, -⟩ := (KA.out.keep hS).o3); (obtain ⟨b0, b1, b2, -, -, -⟩ := (KB.out.keep hS).o3); (obtain ⟨g0, g1, -, -⟩ := (KG.out.keep hS).o2); (obtain ⟨x0, x1, x2, -, -, -⟩ := (KX.out.keep hS).o3); (obtain ⟨y0, y1, y2, -, -, -⟩ := (KY.out.keep hS).o3); (obtain ⟨h0, h1, -, -⟩ := (KH.out.keep hS).o2); clear hS; go_simp; first | done | exact rfl)))); (case put236 => (simp only [Act.put, List.setIfInBounds_toArray, List.set_cons_zero, List.set_cons_succ]; first | done | exact rfl)); (case' next236 => skip)
  (first | (refine' grow_skip rfl ?wt237 ?put237 ?next237; (case wt237 => rfl)) | (refine' grow_lit rfl ?wt237 ?run237 ?put237 ?next237; (case wt237 => rfl); (case run237 => (intro w' hS H; clear H; (obtain ⟨a0, a1, a2, -, -, -⟩ := (KA.out.keep hS).o3); (obtain ⟨b0, b1, b2, -, -, -⟩ := (KB.out.keep hS).o3); (obtain ⟨g0, g1, -, -⟩ := (KG.out.keep hS).o2); (obtain ⟨x0, x1, x2, -, -, -⟩ := (KX.out.keep hS).o3); (obtain ⟨y0, y1, y2, -, -, -⟩ := (KY.out.keep hS).o3); (obtain ⟨h0, h1, -, -⟩ := (KH.out.keep hS).o2); clear hS; go_simp; first | done | exact rfl)))); (case put237 => (simp only [Act.put, List.setIfInBounds_toArray, List.set_cons_zero, List.set_cons_succ]; first | done | exact rfl)); (case' next237 => skip)
  (first | (refine' grow_skip rfl ?wt238 ?put238 ?next238; (case wt238 => rfl)) | (refine' grow_lit rfl ?wt238 ?run238 ?put238 ?next238; (case wt238 => rfl); (case run238 => (intro w' hS H; clear H; (obtain ⟨a0, a1, a2, -, -, -⟩ := (KA.out.keep hS).o3); (obtain ⟨b0, b1, b2, -, -, -⟩ := (KB.out.keep hS).o3); (obtain ⟨g0, g1, -, -⟩ := (KG.out.keep hS).o2); (obtain ⟨x0, x1, x2, -, -, -⟩ := (KX.out.keep hS).o3); (obtain ⟨y0, y1, y2, -, -, -⟩ := (KY.out.keep hS).o3); (obtain ⟨h0, h1, -, -⟩ := (KH.out.keep hS).o2); clear hS; go_simp; first | done | exact rfl)))); (case put238 => (simp only [Act.put, List.setIfInBounds_toArray, List.set_cons_zero, List.set_cons_succ]; first | done | exact rfl)); (case' next238 => skip)
  (refine' grow_callP (p := fun v w => TabV w v xI xO xl) (hp := fun v w w' h hb => h.below hb) rfl Tryd.func21 (by kernel_rfl) rfl hGS rfl ?wt327 ?run327 ?put327 ?next327; (case wt327 => rfl); (case run327 => (intro w' hS H; exact (of_any xI xO _ xl w' (TX.out.below hS)).mono (fun e w2 ⟨v, h1, h2, h3⟩ => ⟨v, h1, h2, h3⟩))); (case put327 => (intro v; simp only [Act.put, List.setIfInBounds_toArray, List.set_cons_zero, List.set_cons_succ]; first | done | exact rfl)); (case' next327 => intro v16))
  (first | (refine' grow_skip rfl ?wt239 ?put239 ?next239; (case wt239 => rfl)) | (refine' grow_lit rfl ?wt239 ?run239 ?put239 ?next239; (case wt239 => rfl); (case run239 => (intro w' hS H; clear H; (obtain ⟨a0, a1, a2, -, -, -⟩ := (KA.out.keep hS).o3); (obtain ⟨b0, b1, b2, -, -, -⟩ := (KB.out.keep hS).o3); (obtain ⟨g0, g1, -, -⟩ := (KG.out.keep hS).o2); (obtain ⟨x0, x1, x2, -, -, -⟩ := (KX.out.keep hS).o3); (obtain ⟨y0, y1, y2, -, -, -⟩ := (KY.out.keep hS).o3); (obtain ⟨h0, h1, -, -⟩ := (KH.out.keep hS).o2); clear hS; go_simp; first | done | exact rfl)))); (case put239 => (simp only [Act.put, List.setIfInBounds_toArray, List.set_cons_zero, List.set_cons_succ]; first | done | exact rfl)); (case' next239 => skip)
  (refine' grow_call (u := .bool true) rfl Tryd.func14 (by kernel_rfl) rfl hGS rfl ?wt328 ?run328 ?put328 ?next328; (case wt328 => rfl); (case run328 => (intro w' hS H; (have hv : TabV w' v16 xI xO xl := H 16 (by decide)); (obtain ⟨vu, rfl, hvu⟩ := hv); exact (rsame_any xI xO xI xO _ _ xl xl w' hvu (TY.out.below hS)).mono (fun e w2 h => ⟨h.1.trans (by simp), h.2⟩))); (case put328 => (simp only [Act.put, List.setIfInBounds_toArray, List.set_cons_zero, List.set_cons_succ]; first | done | exact rfl)); (case' next328 => skip))
  (first | (refine' grow_skip rfl ?wt240 ?put240 ?next240; (case wt240 => rfl)) | (refine' grow_lit rfl ?wt240 ?run240 ?put240 ?next240; (case wt240 => rfl); (case run240 => (intro w' hS H; clear H; (obtain ⟨a0, a1, a2, -, -, -⟩ := (KA.out.keep hS).o3); (obtain ⟨b0, b1, b2, -, -, -⟩ := (KB.out.keep hS).o3); (obtain ⟨g0, g1, -, -⟩ := (KG.out.keep hS).o2); (obtain ⟨x0, x1, x2, -, -, -⟩ := (KX.out.keep hS).o3); (obtain ⟨y0, y1, y2, -, -, -⟩ := (KY.out.keep hS).o3); (obtain ⟨h0, h1, -, -⟩ := (KH.out.keep hS).o2); clear hS; go_simp; first | done | exact rfl)))); (case put240 => (simp only [Act.put, List.setIfInBounds_toArray, List.set_cons_zero, List.set_cons_succ]; first | done | exact rfl)); (case' next240 => skip)
  (first | (refine' grow_skip rfl ?wt241 ?put241 ?next241; (case wt241 => rfl)) | (refine' grow_lit rfl ?wt241 ?run241 ?put241 ?next241; (case wt241 => rfl); (case run241 => (intro w' hS H; clear H; (obtain ⟨a0, a1, a2, -, -, -⟩ := (KA.out.keep hS).o3); (obtain ⟨b0, b1, b2, -, -, -⟩ := (KB.out.keep hS).o3); (obtain ⟨g0, g1, -, -⟩ := (KG.out.keep hS).o2); (obtain ⟨x0, x1, x2, -, -, -⟩ := (KX.out.keep hS).o3); (obtain ⟨y0, y1, y2, -, -, -⟩ := (KY.out.keep hS).o3); (obtain ⟨h0, h1, -, -⟩ := (KH.out.keep hS).o2); clear hS; go_simp; first | done | exact rfl)))); (case put241 => (simp only [Act.put, List.setIfInBounds_toArray, List.set_cons_zero, List.set_cons_succ]; first | done | exact rfl)); (case' next241 => skip)
  (first | (refine' grow_skip rfl ?wt242 ?put242 ?next242; (case wt242 => rfl)) | (refine' grow_lit rfl ?wt242 ?run242 ?put242 ?next242; (case wt242 => rfl); (case run242 => (intro w' hS H; clear H; (obtain ⟨a0, a1, a2, -, -, -⟩ := (KA.out.keep hS).o3); (obtain ⟨b0, b1, b2, -, -, -⟩ := (KB.out.keep hS).o3); (obtain ⟨g0, g1, -, -⟩ := (KG.out.keep hS).o2); (obtain ⟨x0, x1, x2, -, -, -⟩ := (KX.out.keep hS).o3); (obtain ⟨y0, y1, y2, -, -, -⟩ := (KY.out.keep hS).o3); (obtain ⟨h0, h1, -, -⟩ := (KH.out.keep hS).o2); clear hS; go_simp; first | done | exact rfl)))); (case put242 => (simp only [Act.put, List.setIfInBounds_toArray, List.set_cons_zero, List.set_cons_succ]; first | done | exact rfl)); (case' next242 => skip)
  (first | (refine' grow_skip rfl ?wt243 ?put243 ?next243; (case wt243 => rfl)) | (refine' grow_lit rfl ?wt243 ?run243 ?put243 ?next243; (case wt243 => rfl); (case run243 => (intro w' hS H; clear H; (obtain ⟨a0, a1, a2, -, -, -⟩ := (KA.out.keep hS).o3); (obtain ⟨b0, b1, b2, -, -, -⟩ := (KB.out.keep hS).o3); (obtain ⟨g0, g1, -, -⟩ := (KG.out.keep hS).o2); (obtain ⟨x0, x1, x2, -, -, -⟩ := (KX.out.keep hS).o3); (obtain ⟨y0, y1, y2, -, -, -⟩ := (KY.out.keep hS).o3); (obtain ⟨h0, h1, -, -⟩ := (KH.out.keep hS).o2); clear hS; go_simp; first | done | exact rfl)))); (case put243 => (simp only [Act.put, List.setIfInBounds_toArray, List.set_cons_zero, List.set_cons_succ]; first | done | exact rfl)); (case' next243 => skip)
  (first | (refine' grow_skip rfl ?wt244 ?put244 ?next244; (case wt244 => rfl)) | (refine' grow_lit rfl ?wt244 ?run244 ?put244 ?next244; (case wt244 => rfl); (case run244 => (intro w' hS H; clear H; (obtain ⟨a0, a1, a2, -, -, -⟩ := (KA.out.keep hS).o3); (obtain ⟨b0, b1, b2, -, -, -⟩ := (KB.out.keep hS).o3); (obtain ⟨g0, g1, -, -⟩ := (KG.out.keep hS).o2); (obtain ⟨x0, x1, x2, -, -, -⟩ := (KX.out.keep hS).o3); (obtain ⟨y0, y1, y2, -, -, -⟩ := (KY.out.keep hS).o3); (obtain ⟨h0, h1, -, -⟩ := (KH.out.keep hS).o2); clear hS; go_simp; first | done | exact rfl)))); (case put244 => (simp only [Act.put, List.setIfInBounds_toArray, List.set_cons_zero, List.set_cons_succ]; first | done | exact rfl)); (case' next244 => skip)
  (first | (refine' grow_skip rfl ?wt245 ?put245 ?next245; (case wt245 => rfl)) | (refine' grow_lit rfl ?wt245 ?run245 ?put245 ?next245; (case wt245 => rfl); (case run245 => (intro w' hS H; clear H; (obtain ⟨a0, a1, a2, -, -, -⟩ := (KA.out.keep hS).o3); (obtain ⟨b0, b1, b2, -, -, -⟩ := (KB.out.keep hS).o3); (obtain ⟨g0, g1, -, -⟩ := (KG.out.keep hS).o2); (obtain ⟨x0, x1, x2, -, -, -⟩ := (KX.out.keep hS).o3); (obtain ⟨y0, y1, y2, -, -, -⟩ := (KY.out.keep hS).o3); (obtain ⟨h0, h1, -, -⟩ := (KH.out.keep hS).o2); clear hS; go_simp; first | done | exact rfl)))); (case put245 => (simp only [Act.put, List.setIfInBounds_toArray, List.set_cons_zero, List.set_cons_succ]; first | done | exact rfl)); (case' next245 => skip)
  (first | (refine' grow_skip rfl ?wt246 ?put246 ?next246; (case wt246 => rfl)) | (refine' grow_lit rfl ?wt246 ?run246 ?put246 ?next246; (case wt246 => rfl); (case run246 => (intro w' hS H; clear H; (obtain ⟨a0, a1, a2, -, -, -⟩ := (KA.out.keep hS).o3); (obtain ⟨b0, b1, b2, -, -, -⟩ := (KB.out.keep hS).o3); (obtain ⟨g0, g1, -, -⟩ := (KG.out.keep hS).o2); (obtain ⟨x0, x1, x2, -, -, -⟩ := (KX.out.keep hS).o3); (obtain ⟨y0, y1, y2, -, -, -⟩ := (KY.out.keep hS).o3); (obtain ⟨h0, h1, -, -⟩ := (KH.out.keep hS).o2); clear hS; go_simp; first | done | exact rfl)))); (case put246 => (simp only [Act.put, List.setIfInBounds_toArray, List.set_cons_zero, List.set_cons_succ]; first | done | exact rfl)); (case' next246 => skip)
  (first | (refine' grow_skip rfl ?wt247 ?put247 ?next247; (case wt247 => rfl)) | (refine' grow_lit rfl ?wt247 ?run247 ?put247 ?next247; (case wt247 => rfl); (case run247 => (intro w' hS H; clear H; (obtain ⟨a0, a1, a2, -, -, -⟩ := (KA.out.keep hS).o3); (obtain ⟨b0, b1, b2, -, -, -⟩ := (KB.out.keep hS).o3); (obtain ⟨g0, g1, -, -⟩ := (KG.out.keep hS).o2); (obtain ⟨x0, x1, x2, -, -, -⟩ := (KX.out.keep hS).o3); (obtain ⟨y0, y1, y2, -, -, -⟩ := (KY.out.keep hS).o3); (obtain ⟨h0, h1, -, -⟩ := (KH.out.keep hS).o2); clear hS; go_simp; first | done | exact rfl)))); (case put247 => (simp only [Act.put, List.setIfInBounds_toArray, List.set_cons_zero, List.set_cons_succ]; first | done | exact rfl)); (case' next247 => skip)
  (first | (refine' grow_skip rfl ?wt248 ?put248 ?next248; (case wt248 => rfl)) | (refine' grow_lit rfl ?wt248 ?run248 ?put248 ?next248; (case wt248 => rfl); (case run248 => (intro w' hS H; clear H; (obtain ⟨a0, a1, a2, -, -, -⟩ := (KA.out.keep hS).o3); (obtain ⟨b0, b1, b2, -, -, -⟩ := (KB.out.keep hS).o3); (obtain ⟨g0, g1, -, -⟩ := (KG.out.keep hS).o2); (obtain ⟨x0, x1, x2, -, -, -⟩ := (KX.out.keep hS).o3); (obtain ⟨y0, y1, y2, -, -, -⟩ := (KY.out.keep hS).o3); (obtain ⟨h0, h1, -, -⟩ := (KH.out.keep hS).o2); clear hS; go_simp; first | done | exact rfl)))); (case put248 => (simp only [Act.put, List.setIfInBounds_toArray, List.set_cons_zero, List.set_cons_succ]; first | done | exact rfl)); (case' next248 => skip)
  (first | (refine' grow_skip rfl ?wt249 ?put249 ?next249; (case wt249 => rfl)) | (refine' grow_lit rfl ?wt249 ?run249 ?put249 ?next249; (case wt249 => rfl); (case run249 => (intro w' hS H; clear H; (obtain ⟨a0, a1, a2, -, -, -⟩ := (KA.out.keep hS).o3); (obtain ⟨b0, b1, b2, -, -, -⟩ := (KB.out.keep hS).o3); (obtain ⟨g0, g1, -, -⟩ := (KG.out.keep hS).o2); (obtain ⟨x0, x1, x2, -, -, -⟩ := (KX.out.keep hS).o3); (obtain ⟨y0, y1, y2, -, -, -⟩ := (KY.out.keep hS).o3); (obtain ⟨h0, h1, -, -⟩ := (KH.out.keep hS).o2); clear hS; go_simp; first | done | exact rfl)))); (case put249 => (simp only [Act.put, List.setIfInBounds_toArray, List.set_cons_zero, List.set_cons_succ]; first | done | exact rfl)); (case' next249 => skip)
  (first | (refine' grow_skip rfl ?wt250 ?put250 ?next250; (case wt250 => rfl)) | (refine' grow_lit rfl ?wt250 ?run250 ?put250 ?next250; (case wt250 => rfl); (case run250 => (intro w' hS H; clear H; (obtain ⟨a0, a1, a2, -, -, -⟩ := (KA.out.keep hS).o3); (obtain ⟨b0, b1, b2, -, -, -⟩ := (KB.out.keep hS).o3); (obtain ⟨g0, g1, -, -⟩ := (KG.out.keep hS).o2); (obtain ⟨x0, x1, x2, -, -, -⟩ := (KX.out.keep hS).o3); (obtain ⟨y0, y1, y2, -, -, -⟩ := (KY.out.keep hS).o3); (obtain ⟨h0, h1, -, -⟩ := (KH.out.keep hS).o2); clear hS; go_simp; first | done | exact rfl)))); (case put250 => (simp only [Act.put, List.setIfInBounds_toArray, List.set_cons_zero, List.set_cons_succ]; first | done | exact rfl)); (case' next250 => skip)
  (first | (refine' grow_skip rfl ?wt251 ?put251 ?next251; (case wt251 => rfl)) | (refine' grow_lit rfl ?wt251 ?run251 ?put251 ?next251; (case wt251 => rfl); (case run251 => (intro w' hS H; clear H; (obtain ⟨a0, a1, a2, -, -, -⟩ := (KA.out.keep hS).o3); (obtain ⟨b0, b1, b2, -, -, -⟩ := (KB.out.keep hS).o3); (obtain ⟨g0, g1, -, -⟩ := (KG.out.keep hS).o2); (obtain ⟨x0, x1, x2, -, -, -⟩ := (KX.out.keep hS).o3); (obtain ⟨y0, y1, y2, -, -, -⟩ := (KY.out.keep hS).o3); (obtain ⟨h0, h1, -, -⟩ := (KH.out.keep hS).o2); clear hS; go_simp; first | done | exact rfl)))); (case put251 => (simp only [Act.put, List.setIfInBounds_toArray, List.set_cons_zero, List.set_cons_succ]; first | done | exact rfl)); (case' next251 => skip)
  (first | (refine' grow_skip rfl ?wt252 ?put252 ?next252; (case wt252 => rfl)) | (refine' grow_lit rfl ?wt252 ?run252 ?put252 ?next252; (case wt252 => rfl); (case run252 => (intro w' hS H; clear H; (obtain ⟨a0, a1, a2, -, -, -⟩ := (KA.out.keep hS).o3); (obtain ⟨b0, b1, b2, -, -, -⟩ := (KB.out.keep hS).o3); (obtain ⟨g0, g1, -, -⟩ := (KG.out.keep hS).o2); (obtain ⟨x0, x1, x2, -, -, -⟩ := (KX.out.keep hS).o3); (obtain ⟨y0, y1, y2, -, -, -⟩ := (KY.out.keep hS).o3); (obtain ⟨h0, h1, -, -⟩ := (KH.out.keep hS).o2); clear hS; go_simp; first | done | exact rfl)))); (case put252 => (simp only [Act.put, List.setIfInBounds_toArray, List.set_cons_zero, List.set_cons_succ]; first | done | exact rfl)); (case' next252 => skip)
  (first | (refine' grow_skip rfl ?wt253 ?put253 ?next253; (case wt253 => rfl)) | (refine' grow_lit rfl ?wt253 ?run253 ?put253 ?next253; (case wt253 => rfl); (case run253 => (intro w' hS H; clear H; (obtain ⟨a0, a1, a2, -, -, -⟩ := (KA.out.keep hS).o3); (obtain ⟨b0, b1, b2, -, -, -⟩ := (KB.out.keep hS).o3); (obtain ⟨g0, g1, -, -⟩ := (KG.out.keep hS).o2); (obtain ⟨x0, x1, x2, -, -, -⟩ := (KX.out.keep hS).o3); (obtain ⟨y0, y1, y2, -, -, -⟩ := (KY.out.keep hS).o3); (obtain ⟨h0, h1, -, -⟩ := (KH.out.keep hS).o2); clear hS; go_simp; first | done | exact rfl)))); (case put253 => (simp only [Act.put, List.setIfInBounds_toArray, List.set_cons_zero, List.set_cons_succ]; first | done | exact rfl)); (case' next253 => skip)
  (first | (refine' grow_skip rfl ?wt254 ?put254 ?next254; (case wt254 => rfl)) | (refine' grow_lit rfl ?wt254 ?run254 ?put254 ?next254; (case wt254 => rfl); (case run254 => (intro w' hS H; clear H; (obtain ⟨a0, a1, a2, -, -, -⟩ := (KA.out.keep hS).o3); (obtain ⟨b0, b1, b2, -, -, -⟩ := (KB.out.keep hS).o3); (obtain ⟨g0, g1, -, -⟩ := (KG.out.keep hS).o2); (obtain ⟨x0, x1, x2, -, -, -⟩ := (KX.out.keep hS).o3); (obtain ⟨y0, y1, y2, -, -, -⟩ := (KY.out.keep hS).o3); (obtain ⟨h0, h1, -, -⟩ := (KH.out.keep hS).o2); clear hS; go_simp; first | done | exact rfl)))); (case put254 => (simp only [Act.put, List.setIfInBounds_toArray, List.set_cons_zero, List.set_cons_succ]; first | done | exact rfl)); (case' next254 => skip)
  (first | (refine' grow_skip rfl ?wt255 ?put255 ?next255; (case wt255 => rfl)) | (refine' grow_lit rfl ?wt255 ?run255 ?put255 ?next255; (case wt255 => rfl); (case run255 => (intro w' hS H; clear H; (obtain ⟨a0, a1, a2, -, -, -⟩ := (KA.out.keep hS).o3); (obtain ⟨b0, b1, b2, -, -, -⟩ := (KB.out.keep hS).o3); (obtain ⟨g0, g1, -, -⟩ := (KG.out.keep hS).o2); (obtain ⟨x0, x1, x2, -, -, -⟩ := (KX.out.keep hS).o3); (obtain ⟨y0, y1, y2, -, -, -⟩ := (KY.out.keep hS).o3); (obtain ⟨h0, h1, -, -⟩ := (KH.out.keep hS).o2); clear hS; go_simp; first | done | exact rfl)))); (case put255 => (simp only [Act.put, List.setIfInBounds_toArray, List.set_cons_zero, List.set_cons_succ]; first | done | exact rfl)); (case' next255 => skip)
  (first | (refine' grow_skip rfl ?wt256 ?put256 ?next256; (case wt256 => rfl)) | (refine' grow_lit rfl ?wt256 ?run256 ?put256 ?next256; (case wt256 => rfl); (case run256 => (intro w' hS H; clear H; (obtain ⟨a0, a1, a2, -, -, -⟩ := (KA.out.keep hS).o3); (obtain ⟨b0, b1, b2, -, -, -⟩ := (KB.out.keep hS).o3); (obtain ⟨g0, g1, -, -⟩ := (KG.out.keep hS).o2); (obtain ⟨x0, x1, x2, -, -, -⟩ := (KX.out.keep hS).o3); (obtain ⟨y0, y1, y2, -, -, -⟩ := (KY.out.keep hS).o3); (obtain ⟨h0, h1, -, -⟩ := (KH.out.keep hS).o2); clear hS; go_simp; first | done | exact rfl)))); (case put256 => (simp only [Act.put, List.setIfInBounds_toArray, List.set_cons_zero, List.set_cons_succ]; first | done | exact rfl)); (case' next256 => skip)
  (refine' grow_call (u := .nilIface) rfl Tryd.func11 (by kernel_rfl) rfl hGS rfl ?wt329 ?run329 ?put329 ?next329; (case wt329 => rfl); (case run329 => (intro w' hS H; exact (tcheck_any xI xO _ xl w' (TX.out.below hS) inX).mono (fun e w2 ⟨v, h1, h2, h3⟩ => ⟨h1.trans (by rw [HCX.out] at h2; rw [h2.none]), h3⟩))); (case put329 => (simp only [Act.put, List.setIfInBounds_toArray, List.set_cons_zero, List.set_cons_succ]; first | done | exact rfl)); (case' next329 => skip))
  (first | (refine' grow_skip rfl ?wt257 ?put257 ?next257; (case wt257 => rfl)) | (refine' grow_lit rfl ?wt257 ?run257 ?put257 ?next257; (case wt257 => rfl); (case run257 => (intro w' hS H; clear H; (obtain ⟨a0, a1, a2, -, -, -⟩ := (KA.out.keep hS).o3); (obtain ⟨b0, b1, b2, -, -, -⟩ := (KB.out.keep hS).o3); (obtain ⟨g0, g1, -, -⟩ := (KG.out.keep hS).o2); (obtain ⟨x0, x1, x2, -, -, -⟩ := (KX.out.keep hS).o3); (obtain ⟨y0, y1, y2, -, -, -⟩ := (KY.out.keep hS).o3); (obtain ⟨h0, h1, -, -⟩ := (KH.out.keep hS).o2); clear hS; go_simp; first | done | exact rfl)))); (case put257 => (simp only [Act.put, List.setIfInBounds_toArray, List.set_cons_zero, List.set_cons_succ]; first | done | exact rfl)); (case' next257 => skip)
  (first | (refine' grow_skip rfl ?wt258 ?put258 ?next258; (case wt258 => rfl)) | (refine' grow_lit rfl ?wt258 ?run258 ?put258 ?next258; (case wt258 => rfl); (case run258 => (intro w' hS H; clear H; (obtain ⟨a0, a1, a2, -, -, -⟩ := (KA.out.keep hS).o3); (obtain ⟨b0, b1, b2, -, -, -⟩ := (KB.out.keep hS).o3); (obtain ⟨g0, g1, -, -⟩ := (KG.out.keep hS).o2); (obtain ⟨x0, x1, x2, -, -, -⟩ := (KX.out.keep hS).o3); (obtain ⟨y0, y1, y2, -, -, -⟩ := (KY.out.keep hS).o3); (obtain ⟨h0, h1, -, -⟩ := (KH.out.keep hS).o2); clear hS; go_simp; first | done | exact rfl)))); (case put258 => (simp only [Act.put, List.setIfInBounds_toArray, List.set_cons_zero, List.set_cons_succ]; first | done | exact rfl)); (case' next258 => skip)
  (first | (refine' grow_skip rfl ?wt259 ?put259 ?next259; (case wt259 => rfl)) | (refine' grow_lit rfl ?wt259 ?run259 ?put259 ?next259; (case wt259 => rfl); (case run259 => (intro w' hS H; clear H; (obtain ⟨a0, a1, a2, -, -, -⟩ := (KA.out.keep hS).o3); (obtain ⟨b0, b1, b2, -, -, -⟩ := (KB.out.keep hS).o3); (obtain ⟨g0, g1, -, -⟩ := (KG.out.keep hS).o2); (obtain ⟨x0, x1, x2, -, -, -⟩ := (KX.out.keep hS).o3); (obtain ⟨y0, y1, y2, -, -, -⟩ := (KY.out.keep hS).o3); (obtain ⟨h0, h1, -, -⟩ := (KH.out.keep hS).o2); clear hS; go_simp; first | done | exact rfl)))); (case put259 => (simp only [Act.put, List.setIfInBounds_toArray, List.set_cons_zero, List.set_cons_succ]; first | done | exact rfl)); (case' next259 => skip)
  (refine' grow_call (u := .int .i64 n) rfl Tryd.func19 (by kernel_rfl) rfl hGS rfl ?wt330 ?run330 ?put330 ?next330; (case wt330 => rfl); (case run330 => (intro w' hS H; exact (tbans_any xI xO _ xl w' (TX.out.below hS)).mono (fun e w2 h => ⟨h.1.trans (by rw [HBN.out]), h.2⟩))); (case put330 => (simp only [Act.put, List.setIfInBounds_toArray, List.set_cons_zero, List.set_cons_succ]; first | done | exact rfl)); (case' next330 => skip))
  (first | (refine' grow_skip rfl ?wt260 ?put260 ?next260; (case wt260 => rfl)) | (refine' grow_lit rfl ?wt260 ?run260 ?put260 ?next260; (case wt260 => rfl); (case run260 => (intro w' hS H; clear H; (obtain ⟨a0, a1, a2, -, -, -⟩ := (KA.out.keep hS).o3); (obtain ⟨b0, b1, b2, -, -, -⟩ := (KB.out.keep hS).o3); (obtain ⟨g0, g1, -, -⟩ := (KG.out.keep hS).o2); (obtain ⟨x0, x1, x2, -, -, -⟩ := (KX.out.keep hS).o3); (obtain ⟨y0, y1, y2, -, -, -⟩ := (KY.out.keep hS).o3); (obtain ⟨h0, h1, -, -⟩ := (KH.out.keep hS).o2); clear hS; go_simp; first | done | exact rfl)))); (case put260 => (simp only [Act.put, List.setIfInBounds_toArray, List.set_cons_zero, List.set_cons_succ]; first | done | exact rfl)); (case' next260 => skip)
  (first | (refine' grow_skip rfl ?wt261 ?put261 ?next261; (case wt261 => rfl)) | (refine' grow_lit rfl ?wt261 ?run261 ?put261 ?next261; (case wt261 => rfl); (case run261 => (intro w' hS H; clear H; (obtain ⟨a0, a1, a2, -, -, -⟩ := (KA.out.keep hS).o3); (obtain ⟨b0, b1, b2, -, -, -⟩ := (KB.out.keep hS).o3); (obtain ⟨g0, g1, -, -⟩ := (KG.out.keep hS).o2); (obtain ⟨x0, x1, x2, -, -, -⟩ := (KX.out.keep hS).o3); (obtain ⟨y0, y1, y2, -, -, -⟩ := (KY.out.keep hS).o3); (obtain ⟨h0, h1, -, -⟩ := (KH.out.keep hS).o2); clear hS; go_simp; first | done | exact rfl)))); (case put261 => (simp only [Act.put, List.setIfInBounds_toArray, List.set_cons_zero, List.set_cons_succ]; first | done | exact rfl)); (case' next261 => skip)
  (first | (refine' grow_skip rfl ?wt262 ?put262 ?next262; (case wt262 => rfl)) | (refine' grow_lit rfl ?wt262 ?run262 ?put262 ?next262; (case wt262 => rfl); (case run262 => (intro w' hS H; clear H; (obtain ⟨a0, a1, a2, -, -, -⟩ := (KA.out.keep hS).o3); (obtain ⟨b0, b1, b2, -, -, -⟩ := (KB.out.keep hS).o3); (obtain ⟨g0, g1, -, -⟩ := (KG.out.keep hS).o2); (obtain ⟨x0, x1, x2, -, -, -⟩ := (KX.out.keep hS).o3); (obtain ⟨y0, y1, y2, -, -, -⟩ := (KY.out.keep hS).o3); (obtain ⟨h0, h1, -, -⟩ := (KH.out.keep hS).o2); clear hS; go_simp; first | done | exact rfl)))); (case put262 => (simp only [Act.put, List.setIfInBounds_toArray, List.set_cons_zero, List.set_cons_succ]; first | done | exact rfl)); (case' next262 => skip)
  (first | (refine' grow_skip rfl ?wt263 ?put263 ?next263; (case wt263 => rfl)) | (refine' grow_lit rfl ?wt263 ?run263 ?put263 ?next263; (case wt263 => rfl); (case run263 => (intro w' hS H; clear H; (obtain ⟨a0, a1, a2, -, -, -⟩ := (KA.out.keep hS).o3); (obtain ⟨b0, b1, b2, -, -, -⟩ := (KB.out.keep hS).o3); (obtain ⟨g0, g1, -, -⟩ := (KG.out.keep hS).o2); (obtain ⟨x0, x1, x2, -, -, -⟩ := (KX.out.keep hS).o3); (obtain ⟨y0, y1, y2, -, -, -⟩ := (KY.out.keep hS).o3); (obtain ⟨h0, h1, -, -⟩ := (KH.out.keep hS).o2); clear hS; go_simp; first | done | exact rfl)))); (case put263 => (simp only [Act.put, List.setIfInBounds_toArray, List.set_cons_zero, List.set_cons_succ]; first | done | exact rfl)); (case' next263 => skip)
  (first | (refine' grow_skip rfl ?wt264 ?put264 ?next264; (case wt264 => rfl)) | (refine' grow_lit rfl ?wt264 ?run264 ?put264 ?next264; (case wt264 => rfl); (case run264 => (intro w' hS H; clear H; (obtain ⟨a0, a1, a2, -, -, -⟩ := (KA.out.keep hS).o3); (obtain ⟨b0, b1, b2, -, -, -⟩ := (KB.out.keep hS).o3); (obtain ⟨g0, g1, -, -⟩ := (KG.out.keep hS).o2); (obtain ⟨x0, x1, x2, -, -, -⟩ := (KX.out.keep hS).o3); (obtain ⟨y0, y1, y2, -, -, -⟩ := (KY.out.keep hS).o3); (obtain ⟨h0, h1, -, -⟩ := (KH.out.keep hS).o2); clear hS; go_simp; first | done | exact rfl)))); (case put264 => (simp only [Act.put, List.setIfInBounds_toArray, List.set_cons_zero, List.set_cons_succ]; first | done | exact rfl)); (case' next264 => skip)
  (first | (refine' grow_skip rfl ?wt265 ?put265 ?next265; (case wt265 => rfl)) | (refine' grow_lit rfl ?wt265 ?run265 ?put265 ?next265; (case wt265 => rfl); (case run265 => (intro w' hS H; clear H; (obtain ⟨a0, a1, a2, -, -, -⟩ := (KA.out.keep hS).o3); (obtain ⟨b0, b1, b2, -, -, -⟩ := (KB.out.keep hS).o3); (obtain ⟨g0, g1, -, -⟩ := (KG.out.keep hS).o2); (obtain ⟨x0, x1, x2, -, -, -⟩ := (KX.out.keep hS).o3); (obtain ⟨y0, y1, y2, -, -, -⟩ := (KY.out.keep hS).o3); (obtain ⟨h0, h1, -, -⟩ := (KH.out.keep hS).o2); clear hS; go_simp; first | done | exact rfl)))); (case put265 => (simp only [Act.put, List.setIfInBounds_toArray, List.set_cons_zero, List.set_cons_succ]; first | done | exact rfl)); (case' next265 => skip)
  intro w' hS _
  have HF := Lib.hid (B0.out.trans (hS.mono B0.out.size))
  clear hS
  go_wp2_with fail
  go_ret
  exact ⟨rfl, HF.out⟩

set_option maxHeartbeats 4000000 in
set_option maxRecDepth 100000 in
theorem makes_00 (ins outs n : Int) (aI aO : Int) (al : List Int) (xI xO : Int) (xl : List Int) (p : Int) (q : Int) (w : World) (hg : ErrT w)
    (ha1 : ∀ w, Calls Tryd.prog 22 #[.int .i64 ins, .int .i64 outs] w (TEPost aI aO al [(turnB, p)] 1 w))
    (ha2 : ∀ w, Calls Tryd.prog 23 #[.int .i64 ins, .int .i64 outs] w (TWPost aI aO al [(turnB, p)] 1 w))
    (hb1 : ∀ w, Calls Tryd.prog 24 #[.int .i64 n] w (TEPost xI xO xl [(turnB, q)] 1 w))
    (hb2 : ∀ w, Calls Tryd.prog 25 #[.int .i64 n] w (TWPost xI xO xl [(turnB, q)] 1 w)) :
    Calls Tryd.prog 4 #[.int .i64 ins, .int .i64 outs, .int .i64 n] w fun e w' => e = .returned (.bool true) ∧ Below w.heap.size w w' := by
  have HG := Lib.hid hg
  have HGL := Lib.hid hg.lt
  have HA1 := Lib.hid ha1
  have HA2 := Lib.hid ha2
  have HB1 := Lib.hid hb1
  have HB2 := Lib.hid hb2
  clear hg ha1 ha2 hb1 hb2 
  go_enter Tryd.func4, Tryd.ntmps4
  go_wp2_with fail
  refine (known2_any _ HG.out).mono ?_
  rintro e w0 ⟨rfl, hb0⟩
  have HB0 := Lib.hid hb0
  clear hb0
  go_wp2_with fail
  refine (HA1.out _).mono ?_
  rintro e w1 ⟨tv, ev, rfl, ⟨au, rfl, hT⟩, hF, hb⟩
  obtain ⟨aq, ac, rfl⟩ := hT.shape
  obtain ⟨af, rfl, _⟩ := hF.iface
  go_wp2_with fail
  obtain ⟨W1, hW1⟩ := named (w1.alloc (.cells #[.int .i64 aI, .int .i64 aO, .slice aq al.length ac] 34))
  rw [← hW1]
  have hc1 : Below w1.heap.size w1 W1 := by rw [hW1]; exact below_alloc1 _
  have hd1 : Below w0.heap.size w0 W1 := hb.trans (hc1.mono hb.size)
  have B0 : Hid (Below w.heap.size w W1) := Lib.hid (HB0.out.trans (hd1.mono HB0.out.size))
  have KA : Hid (Blk W1 (w1.heap.size) #[.int .i64 aI, .int .i64 aO, .slice aq al.length ac] 34) := by rw [hW1]; exact Lib.hid (Blk.new _ _ _ _ rfl)
  have TA := Lib.hid (hT.below hc1)
  have FA := Lib.hid (hF.below hc1)
  clear hb hT hF hd1 hc1 hW1 
  refine (HA2.out _).mono ?_
  rintro e w2 ⟨tv, wv, rfl, ⟨bu, rfl, hT⟩, hW, hb⟩
  obtain ⟨bq, bc, rfl⟩ := hT.shape
  obtain ⟨gq, gn, gc, rfl⟩ := hW.shape
  go_wp2_with fail
  obtain ⟨W2, hW2⟩ := named ((w2.alloc (.cells #[.int .i64 aI, .int .i64 aO, .slice bq al.length bc] 24)).alloc (.cells #[.slice gq gn gc, .int .i64 1] 28))
  rw [← hW2]
  have hc2 : Below w2.heap.size w2 W2 := by rw [hW2]; exact below_alloc2 _ _
  have hd2 : Below W1.heap.size W1 W2 := hb.trans (hc2.mono hb.size)
  have KA_ := Lib.hid (KA.out.keep hd2)
  have TA_ := Lib.hid (TA.out.below hd2)
  have FA_ := Lib.hid (FA.out.below hd2)
  clear KA TA FA
  have KA := KA_
  have TA := TA_
  have FA := FA_
  clear KA_ TA_ FA_
  have B1 : Hid (Below w.heap.size w W2) := Lib.hid (B0.out.trans (hd2.mono B0.out.size))
  clear B0
  have B0 := B1
  clear B1
  have KB : Hid (Blk W2 (w2.heap.size) #[.int .i64 aI, .int .i64 aO, .slice bq al.length bc] 24) := by rw [hW2]; exact Lib.hid ((Blk.new _ _ _ _ rfl).old _)
  have KG : Hid (Blk W2 (w2.heap.size + 1) #[.slice gq gn gc, .int .i64 1] 28) := by rw [hW2]; exact Lib.hid (Blk.new _ _ _ _ (by simp))
  have TB := Lib.hid (hT.below hc2)
  have WG := Lib.hid (hW.below hc2)
  clear hb hT hW hd2 hc2 hW2 
  refine (HB1.out _).mono ?_
  rintro e w3 ⟨tv, ev, rfl, ⟨xu, rfl, hT⟩, hF, hb⟩
  obtain ⟨xq, xc, rfl⟩ := hT.shape
  obtain ⟨xf, rfl, _⟩ := hF.iface
  go_wp2_with fail
  obtain ⟨W3, hW3⟩ := named (w3.alloc (.cells #[.int .i64 xI, .int .i64 xO, .slice xq xl.length xc] 34))
  rw [← hW3]
  have hc3 : Below w3.heap.size w3 W3 := by rw [hW3]; exact below_alloc1 _
  have hd3 : Below W2.heap.size W2 W3 := hb.trans (hc3.mono hb.size)
  have KA_ := Lib.hid (KA.out.keep hd3)
  have TA_ := Lib.hid (TA.out.below hd3)
  have FA_ := Lib.hid (FA.out.below hd3)
  have KB_ := Lib.hid (KB.out.keep hd3)
  have KG_ := Lib.hid (KG.out.keep hd3)
  have TB_ := Lib.hid (TB.out.below hd3)
  have WG_ := Lib.hid (WG.out.below hd3)
  clear KA TA FA KB KG TB WG
  have KA := KA_
  have TA := TA_
  have FA := FA_
  have KB := KB_
  have KG := KG_
  have TB := TB_
  have WG := WG_
  clear KA_ TA_ FA_ KB_ KG_ TB_ WG_
  have B1 : Hid (Below w.heap.size w W3) := Lib.hid (B0.out.trans (hd3.mono B0.out.size))
  clear B0
  have B0 := B1
  clear B1
  have KX : Hid (Blk W3 (w3.heap.size) #[.int .i64 xI, .int .i64 xO, .slice xq xl.length xc] 34) := by rw [hW3]; exact Lib.hid (Blk.new _ _ _ _ rfl)
  have TX := Lib.hid (hT.below hc3)
  have FX := Lib.hid (hF.below hc3)
  clear hb hT hF hd3 hc3 hW3 
  refine (HB2.out _).mono ?_
  rintro e w4 ⟨tv, wv, rfl, ⟨yu, rfl, hT⟩, hW, hb⟩
  obtain ⟨yq, yc, rfl⟩ := hT.shape
  obtain ⟨hq, hn, hcc, rfl⟩ := hW.shape
  go_wp2_with fail
  obtain ⟨W4, hW4⟩ := named ((w4.alloc (.cells #[.int .i64 xI, .int .i64 xO, .slice yq xl.length yc] 24)).alloc (.cells #[.slice hq hn hcc, .int .i64 1] 28))
  rw [← hW4]
  have hc4 : Below w4.heap.size w4 W4 := by rw [hW4]; exact below_alloc2 _ _
  have hd4 : Below W3.heap.size W3 W4 := hb.trans (hc4.mono hb.size)
  have KA_ := Lib.hid (KA.out.keep hd4)
  have TA_ := Lib.hid (TA.out.below hd4)
  have FA_ := Lib.hid (FA.out.below hd4)
  have KB_ := Lib.hid (KB.out.keep hd4)
  have KG_ := Lib.hid (KG.out.keep hd4)
  have TB_ := Lib.hid (TB.out.below hd4)
  have WG_ := Lib.hid (WG.out.below hd4)
  have KX_ := Lib.hid (KX.out.keep hd4)
  have TX_ := Lib.hid (TX.out.below hd4)
  have FX_ := Lib.hid (FX.out.below hd4)
  clear KA TA FA KB KG TB WG KX TX FX
  have KA := KA_
  have TA := TA_
  have FA := FA_
  have KB := KB_
  have KG := KG_
  have TB := TB_
  have WG := WG_
  have KX := KX_
  have TX := TX_
  have FX := FX_
  clear KA_ TA_ FA_ KB_ KG_ TB_ WG_ KX_ TX_ FX_
  have B1 : Hid (Below w.heap.size w W4) := Lib.hid (B0.out.trans (hd4.mono B0.out.size))
  clear B0
  have B0 := B1
  clear B1
  have KY : Hid (Blk W4 (w4.heap.size) #[.int .i64 xI, .int .i64 xO, .slice yq xl.length yc] 24) := by rw [hW4]; exact Lib.hid ((Blk.new _ _ _ _ rfl).old _)
  have KH : Hid (Blk W4 (w4.heap.size + 1) #[.slice hq hn hcc, .int .i64 1] 28) := by rw [hW4]; exact Lib.hid (Blk.new _ _ _ _ (by simp))
  have TY := Lib.hid (hT.below hc4)
  have WH := Lib.hid (hW.below hc4)
  clear hb hT hW hd4 hc4 hW4 
  have hGS : Grows (fun w' => Below W4.heap.size W4 w') := Grows.below W4
  refine' wp_growL _ (fun w' => Below W4.heap.size W4 w') [[], [], [0, 1], [2], [3], [3, 4], [3], [3, 5, 6], [3, 7], [8], [9], [9], [9, 10, 11], [9, 12], [13], [14], [14, 15], [14], [14, 16, 17], [14, 18], [19], [20], [20, 21], [20, 22], [20, 23], [24], [24, 25], [24, 26], [20, 24, 27], [20, 28], [29], [30], [30, 31], [30, 32], [30, 33], [34], [34, 35], [34, 36], [34, 37], [38], [38, 39], [38], [38, 40, 41], [34, 38, 42], [30, 34, 43], [30, 44], [45]] (Fact.lit _ :: Fact.lit _ :: Fact.lit _ :: Fact.lit _ :: Fact.lit _ :: Fact.prop _ _ :: Fact.lit _ :: Fact.lit _ :: Fact.lit _ :: Fact.lit _ :: Fact.lit _ :: Fact.lit _ :: Fact.lit _ :: Fact.lit _ :: Fact.lit _ :: Fact.lit _ :: Fact.prop _ _ :: Fact.lit _ :: Fact.lit _ :: Fact.lit _ :: Fact.lit _ :: Fact.lit _ :: Fact.lit _ :: Fact.lit _ :: Fact.lit _ :: Fact.lit _ :: Fact.lit _ :: Fact.lit _ :: Fact.lit _ :: Fact.lit _ :: Fact.lit _ :: Fact.lit _ :: Fact.lit _ :: Fact.lit _ :: Fact.lit _ :: Fact.lit _ :: Fact.lit _ :: Fact.lit _ :: Fact.lit _ :: Fact.lit _ :: Fact.lit _ :: Fact.lit _ :: Fact.lit _ :: Fact.lit _ :: Fact.lit _ :: Fact.lit _ :: Fact.lit _ :: []) (by kernel_rfl) rfl (by kernel_rfl) (Below.refl _ _).drew ?seqmakes_00
  case' seqmakes_00 => skip
  (first | (refine' grow_skip rfl ?wt266 ?put266 ?next266; (case wt266 => rfl)) | (refine' grow_lit rfl ?wt266 ?run266 ?put266 ?next266; (case wt266 => rfl); (case run266 => (intro w' hS H; clear H; (obtain ⟨a0, a1, a2, -, -, -⟩ := (KA.out.keep hS).o3); (obtain ⟨b0, b1, b2, -, -, -⟩ := (KB.out.keep hS).o3); (obtain ⟨g0, g1, -, -⟩ := (KG.out.keep hS).o2); (obtain ⟨x0, x1, x2, -, -, -⟩ := (KX.out.keep hS).o3); (obtain ⟨y0, y1, y2, -, -, -⟩ := (KY.out.keep hS).o3); (obtain ⟨h0, h1, -, -⟩ := (KH.out.keep hS).o2); clear hS; go_simp; first | done | exact rfl)))); (case put266 => (simp only [Act.put, List.setIfInBounds_toArray, List.set_cons_zero, List.set_cons_succ]; first | done | exact rfl)); (case' next266 => skip)
  (first | (refine' grow_skip rfl ?wt267 ?put267 ?next267; (case wt267 => rfl)) | (refine' grow_lit rfl ?wt267 ?run267 ?put267 ?next267; (case wt267 => rfl); (case run267 => (intro w' hS H; clear H; (obtain ⟨a0, a1, a2, -, -, -⟩ := (KA.out.keep hS).o3); (obtain ⟨b0, b1, b2, -, -, -⟩ := (KB.out.keep hS).o3); (obtain ⟨g0, g1, -, -⟩ := (KG.out.keep hS).o2); (obtain ⟨x0, x1, x2, -, -, -⟩ := (KX.out.keep hS).o3); (obtain ⟨y0, y1, y2, -, -, -⟩ := (KY.out.keep hS).o3); (obtain ⟨h0, h1, -, -⟩ := (KH.out.keep hS).o2); clear hS; go_simp; first | done | exact rfl)))); (case put267 => (simp only [Act.put, List.setIfInBounds_toArray, List.set_cons_zero, List.set_cons_succ]; first | done | exact rfl)); (case' next267 => skip)
  (refine' grow_call (u := .bool true) rfl Tryd.func10 (by kernel_rfl) rfl hGS rfl ?wt331 ?run331 ?put331 ?next331; (case wt331 => rfl); (case run331 => (intro w' hS H; exact tells_post _ _ [(turnB, p)] 1 w' (HG.out.below HGL.out (B0.out.trans (hS.mono B0.out.size))) (FA.out.below hS) (WG.out.below hS) (Or.inr (by simp)))); (case put331 => (simp only [Act.put, List.setIfInBounds_toArray, List.set_cons_zero, List.set_cons_succ]; first | done | exact rfl)); (case' next331 => skip))
  (first | (refine' grow_skip rfl ?wt268 ?put268 ?next268; (case wt268 => rfl)) | (refine' grow_lit rfl ?wt268 ?run268 ?put268 ?next268; (case wt268 => rfl); (case run268 => (intro w' hS H; clear H; (obtain ⟨a0, a1, a2, -, -, -⟩ := (KA.out.keep hS).o3); (obtain ⟨b0, b1, b2, -, -, -⟩ := (KB.out.keep hS).o3); (obtain ⟨g0, g1, -, -⟩ := (KG.out.keep hS).o2); (obtain ⟨x0, x1, x2, -, -, -⟩ := (KX.out.keep hS).o3); (obtain ⟨y0, y1, y2, -, -, -⟩ := (KY.out.keep hS).o3); (obtain ⟨h0, h1, -, -⟩ := (KH.out.keep hS).o2); clear hS; go_simp; first | done | exact rfl)))); (case put268 => (simp only [Act.put, List.setIfInBounds_toArray, List.set_cons_zero, List.set_cons_succ]; first | done | exact rfl)); (case' next268 => skip)
  (first | (refine' grow_skip rfl ?wt269 ?put269 ?next269; (case wt269 => rfl)) | (refine' grow_lit rfl ?wt269 ?run269 ?put269 ?next269; (case wt269 => rfl); (case run269 => (intro w' hS H; clear H; (obtain ⟨a0, a1, a2, -, -, -⟩ := (KA.out.keep hS).o3); (obtain ⟨b0, b1, b2, -, -, -⟩ := (KB.out.keep hS).o3); (obtain ⟨g0, g1, -, -⟩ := (KG.out.keep hS).o2); (obtain ⟨x0, x1, x2, -, -, -⟩ := (KX.out.keep hS).o3); (obtain ⟨y0, y1, y2, -, -, -⟩ := (KY.out.keep hS).o3); (obtain ⟨h0, h1, -, -⟩ := (KH.out.keep hS).o2); clear hS; go_simp; first | done | exact rfl)))); (case put269 => (simp only [Act.put, List.setIfInBounds_toArray, List.set_cons_zero, List.set_cons_succ]; first | done | exact rfl)); (case' next269 => skip)
  (refine' grow_callP (p := fun v w => TabV w v aI aO al) (hp := fun v w w' h hb => h.below hb) rfl Tryd.func21 (by kernel_rfl) rfl hGS rfl ?wt332 ?run332 ?put332 ?next332; (case wt332 => rfl); (case run332 => (intro w' hS H; exact (of_any aI aO _ al w' (TA.out.below hS)).mono (fun e w2 ⟨v, h1, h2, h3⟩ => ⟨v, h1, h2, h3⟩))); (case put332 => (intro v; simp only [Act.put, List.setIfInBounds_toArray, List.set_cons_zero, List.set_cons_succ]; first | done | exact rfl)); (case' next332 => intro v5))
  (first | (refine' grow_skip rfl ?wt270 ?put270 ?next270; (case wt270 => rfl)) | (refine' grow_lit rfl ?wt270 ?run270 ?put270 ?next270; (case wt270 => rfl); (case run270 => (intro w' hS H; clear H; (obtain ⟨a0, a1, a2, -, -, -⟩ := (KA.out.keep hS).o3); (obtain ⟨b0, b1, b2, -, -, -⟩ := (KB.out.keep hS).o3); (obtain ⟨g0, g1, -, -⟩ := (KG.out.keep hS).o2); (obtain ⟨x0, x1, x2, -, -, -⟩ := (KX.out.keep hS).o3); (obtain ⟨y0, y1, y2, -, -, -⟩ := (KY.out.keep hS).o3); (obtain ⟨h0, h1, -, -⟩ := (KH.out.keep hS).o2); clear hS; go_simp; first | done | exact rfl)))); (case put270 => (simp only [Act.put, List.setIfInBounds_toArray, List.set_cons_zero, List.set_cons_succ]; first | done | exact rfl)); (case' next270 => skip)
  (refine' grow_call (u := .bool true) rfl Tryd.func14 (by kernel_rfl) rfl hGS rfl ?wt333 ?run333 ?put333 ?next333; (case wt333 => rfl); (case run333 => (intro w' hS H; (have hv : TabV w' v5 aI aO al := H 5 (by decide)); (obtain ⟨vu, rfl, hvu⟩ := hv); exact (rsame_any aI aO aI aO _ _ al al w' hvu (TB.out.below hS)).mono (fun e w2 h => ⟨h.1.trans (by simp), h.2⟩))); (case put333 => (simp only [Act.put, List.setIfInBounds_toArray, List.set_cons_zero, List.set_cons_succ]; first | done | exact rfl)); (case' next333 => skip))
  (first | (refine' grow_skip rfl ?wt271 ?put271 ?next271; (case wt271 => rfl)) | (refine' grow_lit rfl ?wt271 ?run271 ?put271 ?next271; (case wt271 => rfl); (case run271 => (intro w' hS H; clear H; (obtain ⟨a0, a1, a2, -, -, -⟩ := (KA.out.keep hS).o3); (obtain ⟨b0, b1, b2, -, -, -⟩ := (KB.out.keep hS).o3); (obtain ⟨g0, g1, -, -⟩ := (KG.out.keep hS).o2); (obtain ⟨x0, x1, x2, -, -, -⟩ := (KX.out.keep hS).o3); (obtain ⟨y0, y1, y2, -, -, -⟩ := (KY.out.keep hS).o3); (obtain ⟨h0, h1, -, -⟩ := (KH.out.keep hS).o2); clear hS; go_simp; first | done | exact rfl)))); (case put271 => (simp only [Act.put, List.setIfInBounds_toArray, List.set_cons_zero, List.set_cons_succ]; first | done | exact rfl)); (case' next271 => skip)
  (first | (refine' grow_skip rfl ?wt272 ?put272 ?next272; (case wt272 => rfl)) | (refine' grow_lit rfl ?wt272 ?run272 ?put272 ?next272; (case wt272 => rfl); (case run272 => (intro w' hS H; clear H; (obtain ⟨a0, a1, a2, -, -, -⟩ := (KA.out.keep hS).o3); (obtain ⟨b0, b1, b2, -, -, -⟩ := (KB.out.keep hS).o3); (obtain ⟨g0, g1, -, -⟩ := (KG.out.keep hS).o2); (obtain ⟨x0, x1, x2, -, -, -⟩ := (KX.out.keep hS).o3); (obtain ⟨y0, y1, y2, -, -, -⟩ := (KY.out.keep hS).o3); (obtain ⟨h0, h1, -, -⟩ := (KH.out.keep hS).o2); clear hS; go_simp; first | done | exact rfl)))); (case put272 => (simp only [Act.put, List.setIfInBounds_toArray, List.set_cons_zero, List.set_cons_succ]; first | done | exact rfl)); (case' next272 => skip)
  (first | (refine' grow_skip rfl ?wt273 ?put273 ?next273; (case wt273 => rfl)) | (refine' grow_lit rfl ?wt273 ?run273 ?put273 ?next273; (case wt273 => rfl); (case run273 => (intro w' hS H; clear H; (obtain ⟨a0, a1, a2, -, -, -⟩ := (KA.out.keep hS).o3); (obtain ⟨b0, b1, b2, -, -, -⟩ := (KB.out.keep hS).o3); (obtain ⟨g0, g1, -, -⟩ := (KG.out.keep hS).o2); (obtain ⟨x0, x1, x2, -, -, -⟩ := (KX.out.keep hS).o3); (obtain ⟨y0, y1, y2, -, -, -⟩ := (KY.out.keep hS).o3); (obtain ⟨h0, h1, -, -⟩ := (KH.out.keep hS).o2); clear hS; go_simp; first | done | exact rfl)))); (case put273 => (simp only [Act.put, List.setIfInBounds_toArray, List.set_cons_zero, List.set_cons_succ]; first | done | exact rfl)); (case' next273 => skip)
  (first | (refine' grow_skip rfl ?wt274 ?put274 ?next274; (case wt274 => rfl)) | (refine' grow_lit rfl ?wt274 ?run274 ?put274 ?next274; (case wt274 => rfl); (case run274 => (intro w' hS H; clear H; (obtain ⟨a0, a1, a2, -, -, -⟩ := (KA.out.keep hS).o3); (obtain ⟨b0, b1, b2, -, -, -⟩ := (KB.out.keep hS).o3); (obtain ⟨g0, g1, -, -⟩ := (KG.out.keep hS).o2); (obtain ⟨x0, x1, x2, -, -, -⟩ := (KX.out.keep hS).o3); (obtain ⟨y0, y1, y2, -, -, -⟩ := (KY.out.keep hS).o3); (obtain ⟨h0, h1, -, -⟩ := (KH.out.keep hS).o2); clear hS; go_simp; first | done | exact rfl)))); (case put274 => (simp only [Act.put, List.setIfInBounds_toArray, List.set_cons_zero, List.set_cons_succ]; first | done | exact rfl)); (case' next274 => skip)
  (refine' grow_call (u := .bool true) rfl Tryd.func10 (by kernel_rfl) rfl hGS rfl ?wt334 ?run334 ?put334 ?next334; (case wt334 => rfl); (case run334 => (intro w' hS H; exact tells_post _ _ [(turnB, q)] 1 w' (HG.out.below HGL.out (B0.out.trans (hS.mono B0.out.size))) (FX.out.below hS) (WH.out.below hS) (Or.inr (by simp)))); (case put334 => (simp only [Act.put, List.setIfInBounds_toArray, List.set_cons_zero, List.set_cons_succ]; first | done | exact rfl)); (case' next334 => skip))
  (first | (refine' grow_skip rfl ?wt275 ?put275 ?next275; (case wt275 => rfl)) | (refine' grow_lit rfl ?wt275 ?run275 ?put275 ?next275; (case wt275 => rfl); (case run275 => (intro w' hS H; clear H; (obtain ⟨a0, a1, a2, -, -, -⟩ := (KA.out.keep hS).o3); (obtain ⟨b0, b1, b2, -, -, -⟩ := (KB.out.keep hS).o3); (obtain ⟨g0, g1, -, -⟩ := (KG.out.keep hS).o2); (obtain ⟨x0, x1, x2, -, -, -⟩ := (KX.out.keep hS).o3); (obtain ⟨y0, y1, y2, -, -, -⟩ := (KY.out.keep hS).o3); (obtain ⟨h0, h1, -, -⟩ := (KH.out.keep hS).o2); clear hS; go_simp; first | done | exact rfl)))); (case put275 => (simp only [Act.put, List.setIfInBounds_toArray, List.set_cons_zero, List.set_cons_succ]; first | done | exact rfl)); (case' next275 => skip)
  (first | (refine' grow_skip rfl ?wt276 ?put276 ?next276; (case wt276 => rfl)) | (refine' grow_lit rfl ?wt276 ?run276 ?put276 ?next276; (case wt276 => rfl); (case run276 => (intro w' hS H; clear H; (obtain ⟨a0, a1, a2, -, -, -⟩ := (KA.out.keep hS).o3); (obtain ⟨b0, b1, b2, -, -, -⟩ := (KB.out.keep hS).o3); (obtain ⟨g0, g1, -, -⟩ := (KG.out.keep hS).o2); (obtain ⟨x0, x1, x2, -, -, -⟩ := (KX.out.keep hS).o3); (obtain ⟨y0, y1, y2, -, -, -⟩ := (KY.out.keep hS).o3); (obtain ⟨h0, h1, -, -⟩ := (KH.out.keep hS).o2); clear hS; go_simp; first | done | exact rfl)))); (case put276 => (simp only [Act.put, List.setIfInBounds_toArray, List.set_cons_zero, List.set_cons_succ]; first | done | exact rfl)); (case' next276 => skip)
  (first | (refine' grow_skip rfl ?wt277 ?put277 ?next277; (case wt277 => rfl)) | (refine' grow_lit rfl ?wt277 ?run277 ?put277 ?next277; (case wt277 => rfl); (case run277 => (intro w' hS H; clear H; (obtain ⟨a0, a1, a2, -, -, -⟩ := (KA.out.keep hS).o3); (obtain ⟨b0, b1, b2, -, -, -⟩ := (KB.out.keep hS).o3); (obtain ⟨g0, g1, -, -⟩ := (KG.out.keep hS).o2); (obtain ⟨x0, x1, x2, -, -, -⟩ := (KX.out.keep hS).o3); (obtain ⟨y0, y1, y2, -, -, -⟩ := (KY.out.keep hS).o3); (obtain ⟨h0, h1, -, -⟩ := (KH.out.keep hS).o2); clear hS; go_simp; first | done | exact rfl)))); (case put277 => (simp only [Act.put, List.setIfInBounds_toArray, List.set_cons_zero, List.set_cons_succ]; first | done | exact rfl)); (case' next277 => skip)
  (refine' grow_callP (p := fun v w => TabV w v xI xO xl) (hp := fun v w w' h hb => h.below hb) rfl Tryd.func21 (by kernel_rfl) rfl hGS rfl ?wt335 ?run335 ?put335 ?next335; (case wt335 => rfl); (case run335 => (intro w' hS H; exact (of_any xI xO _ xl w' (TX.out.below hS)).mono (fun e w2 ⟨v, h1, h2, h3⟩ => ⟨v, h1, h2, h3⟩))); (case put335 => (intro v; simp only [Act.put, List.setIfInBounds_toArray, List.set_cons_zero, List.set_cons_succ]; first | done | exact rfl)); (case' next335 => intro v16))
  (first | (refine' grow_skip rfl ?wt278 ?put278 ?next278; (case wt278 => rfl)) | (refine' grow_lit rfl ?wt278 ?run278 ?put278 ?next278; (case wt278 => rfl); (case run278 => (intro w' hS H; clear H; (obtain ⟨a0, a1, a2, -, -, -⟩ := (KA.out.keep hS).o3); (obtain ⟨b0, b1, b2, -, -, -⟩ := (KB.out.keep hS).o3); (obtain ⟨g0, g1, -, -⟩ := (KG.out.keep hS).o2); (obtain ⟨x0, x1, x2, -, -, -⟩ := (KX.out.keep hS).o3); (obtain ⟨y0, y1, y2, -, -, -⟩ := (KY.out.keep hS).o3); (obtain ⟨h0, h1, -, -⟩ := (KH.out.keep hS).o2); clear hS; go_simp; first | done | exact rfl)))); (case put278 => (simp only [Act.put, List.setIfInBounds_toArray, List.set_cons_zero, List.set_cons_succ]; first | done | exact rfl)); (case' next278 => skip)
  (refine' grow_call (u := .bool true) rfl Tryd.func14 (by kernel_rfl) rfl hGS rfl ?wt336 ?run336 ?put336 ?next336; (case wt336 => rfl); (case run336 => (intro w' hS H; (have hv : TabV w' v16 xI xO xl := H 16 (by decide)); (obtain ⟨vu, rfl, hvu⟩ := hv); exact (rsame_any xI xO xI xO _ _ xl xl w' hvu (TY.out.below hS)).mono (fun e w2 h => ⟨h.1.trans (by simp), h.2⟩))); (case put336 => (simp only [Act.put, List.setIfInBounds_toArray, List.set_cons_zero, List.set_cons_succ]; first | done | exact rfl)); (case' next336 => skip))
  (first | (refine' grow_skip rfl ?wt279 ?put279 ?next279; (case wt279 => rfl)) | (refine' grow_lit rfl ?wt279 ?run279 ?put279 ?next279; (case wt279 => rfl); (case run279 => (intro w' hS H; clear H; (obtain ⟨a0, a1, a2, -, -, -⟩ := (KA.out.keep hS).o3); (obtain ⟨b0, b1, b2, -, -, -⟩ := (KB.out.keep hS).o3); (obtain ⟨g0, g1, -, -⟩ := (KG.out.keep hS).o2); (obtain ⟨x0, x1, x2, -, -, -⟩ := (KX.out.keep hS).o3); (obtain ⟨y0, y1, y2, -, -, -⟩ := (KY.out.keep hS).o3); (obtain ⟨h0, h1, -, -⟩ := (KH.out.keep hS).o2); clear hS; go_simp; first | done | exact rfl)))); (case put279 => (simp only [Act.put, List.setIfInBounds_toArray, List.set_cons_zero, List.set_cons_succ]; first | done | exact rfl)); (case' next279 => skip)
  (first | (refine' grow_skip rfl ?wt280 ?put280 ?next280; (case wt280 => rfl)) | (refine' grow_lit rfl ?wt280 ?run280 ?put280 ?next280; (case wt280 => rfl); (case run280 => (intro w' hS H; clear H; (obtain ⟨a0, a1, a2, -, -, -⟩ := (KA.out.keep hS).o3); (obtain ⟨b0, b1, b2, -, -, -⟩ := (KB.out.keep hS).o3); (obtain ⟨g0, g1, -, -⟩ := (KG.out.keep hS).o2); (obtain ⟨x0, x1, x2, -, -, -⟩ := (KX.out.keep hS).o3); (obtain ⟨y0, y1, y2, -, -, -⟩ := (KY.out.keep hS).o3); (obtain ⟨h0, h1, -, -⟩ := (KH.out.keep hS).o2); clear hS; go_simp; first | done | exact rfl)))); (case put280 => (simp only [Act.put, List.setIfInBounds_toArray, List.set_cons_zero, List.set_cons_succ]; first | done | exact rfl)); (case' next280 => skip)
  (first | (refine' grow_skip rfl ?wt281 ?put281 ?next281; (case wt281 => rfl)) | (refine' grow_lit rfl ?wt281 ?run281 ?put281 ?next281; (case wt281 => rfl); (case run281 => (intro w' hS H; clear H; (obtain ⟨a0, a1, a2, -, -, -⟩ := (KA.out.keep hS).o3); (obtain ⟨b0, b1, b2, -, -, -⟩ := (KB.out.keep hS).o3); (obtain ⟨g0, g1, -, -⟩ := (KG.out.keep hS).o2); (obtain ⟨x0, x1, x2, -, -, -⟩ := (KX.out.keep hS).o3); (obtain ⟨y0, y1, y2, -, -, -⟩ := (KY.out.keep hS).o3); (obtain ⟨h0, h1, -, -⟩ := (KH.out.keep hS).o2); clear hS; go_simp; first | done | exact rfl)))); (case put281 => (simp only [Act.put, List.setIfInBounds_toArray, List.set_cons_zero, List.set_cons_succ]; first | done | exact rfl)); (case' next281 => skip)
  (first | (refine' grow_skip rfl ?wt282 ?put282 ?next282; (case wt282 => rfl)) | (refine' grow_lit rfl ?wt282 ?run282 ?put282 ?next282; (case wt282 => rfl); (case run282 => (intro w' hS H; clear H; (obtain ⟨a0, a1, a2, -, -, -⟩ := (KA.out.keep hS).o3); (obtain ⟨b0, b1, b2, -, -, -⟩ := (KB.out.keep hS).o3); (obtain ⟨g0, g1, -, -⟩ := (KG.out.keep hS).o2); (obtain ⟨x0, x1, x2, -, -, -⟩ := (KX.out.keep hS).o3); (obtain ⟨y0, y1, y2, -, -, -⟩ := (KY.out.keep hS).o3); (obtain ⟨h0, h1, -, -⟩ := (KH.out.keep hS).o2); clear hS; go_simp; first | done | exact rfl)))); (case put282 => (simp only [Act.put, List.setIfInBounds_toArray, List.set_cons_zero, List.set_cons_succ]; first | done | exact rfl)); (case' next282 => skip)
  (first | (refine' grow_skip rfl ?wt283 ?put283 ?next283; (case wt283 => rfl)) | (refine' grow_lit rfl ?wt283 ?run283 ?put283 ?next283; (case wt283 => rfl); (case run283 => (intro w' hS H; clear H; (obtain ⟨a0, a1, a2, -, -, -⟩ := (KA.out.keep hS).o3); (obtain ⟨b0, b1, b2, -, -, -⟩ := (KB.out.keep hS).o3); (obtain ⟨g0, g1, -, -⟩ := (KG.out.keep hS).o2); (obtain ⟨x0, x1, x2, -, -, -⟩ := (KX.out.keep hS).o3); (obtain ⟨y0, y1, y2, -, -, -⟩ := (KY.out.keep hS).o3); (obtain ⟨h0, h1, -, -⟩ := (KH.out.keep hS).o2); clear hS; go_simp; first | done | exact rfl)))); (case put283 => (simp only [Act.put, List.setIfInBounds_toArray, List.set_cons_zero, List.set_cons_succ]; first | done | exact rfl)); (case' next283 => skip)
  (first | (refine' grow_skip rfl ?wt284 ?put284 ?next284; (case wt284 => rfl)) | (refine' grow_lit rfl ?wt284 ?run284 ?put284 ?next284; (case wt284 => rfl); (case run284 => (intro w' hS H; clear H; (obtain ⟨a0, a1, a2, -, -, -⟩ := (KA.out.keep hS).o3); (obtain ⟨b0, b1, b2, -, -, -⟩ := (KB.out.keep hS).o3); (obtain ⟨g0, g1, -, -⟩ := (KG.out.keep hS).o2); (obtain ⟨x0, x1, x2, -, -, -⟩ := (KX.out.keep hS).o3); (obtain ⟨y0, y1, y2, -, -, -⟩ := (KY.out.keep hS).o3); (obtain ⟨h0, h1, -, -⟩ := (KH.out.keep hS).o2); clear hS; go_simp; first | done | exact rfl)))); (case put284 => (simp only [Act.put, List.setIfInBounds_toArray, List.set_cons_zero, List.set_cons_succ]; first | done | exact rfl)); (case' next284 => skip)
  (first | (refine' grow_skip rfl ?wt285 ?put285 ?next285; (case wt285 => rfl)) | (refine' grow_lit rfl ?wt285 ?run285 ?put285 ?next285; (case wt285 => rfl); (case run285 => (intro w' hS H; clear H; (obtain ⟨a0, a1, a2, -, -, -⟩ := (KA.out.keep hS).o3); (obtain ⟨b0, b1, b2, -, -, -⟩ := (KB.out.keep hS).o3); (obtain ⟨g0, g1, -, -⟩ := (KG.out.keep hS).o2); (obtain ⟨x0, x1, x2, -, -, -⟩ := (KX.out.keep hS).o3); (obtain ⟨y0, y1, y2, -, -, -⟩ := (KY.out.keep hS).o3); (obtain ⟨h0, h1, -, -⟩ := (KH.out.keep hS).o2); clear hS; go_simp; first | done | exact rfl)))); (case put285 => (simp only [Act.put, List.setIfInBounds_toArray, List.set_cons_zero, List.set_cons_succ]; first | done | exact rfl)); (case' next285 => skip)
  (first | (refine' grow_skip rfl ?wt286 ?put286 ?next286; (case wt286 => rfl)) | (refine' grow_lit rfl ?wt286 ?run286 ?put286 ?next286; (case wt286 => rfl); (case run286 => (intro w' hS H; clear H; (obtain ⟨a0, a1, a2, -, -, -⟩ := (KA.out.keep hS).o3); (obtain ⟨b0, b1, b2, -, -, -⟩ := (KB.out.keep hS).o3); (obtain ⟨g0, g1, -, -⟩ := (KG.out.keep hS).o2); (obtain ⟨x0, x1, x2, -, -, -⟩ := (KX.out.keep hS).o3); (obtain ⟨y0, y1, y2, -, -, -⟩ := (KY.out.keep hS).o3); (obtain ⟨h0, h1, -, -⟩ := (KH.out.keep hS).o2); clear hS; go_simp; first | done | exact rfl)))); (case put286 => (simp only [Act.put, List.setIfInBounds_toArray, List.set_cons_zero, List.set_cons_succ]; first | done | exact rfl)); (case' next286 => skip)
  (first | (refine' grow_skip rfl ?wt287 ?put287 ?next287; (case wt287 => rfl)) | (refine' grow_lit rfl ?wt287 ?run287 ?put287 ?next287; (case wt287 => rfl); (case run287 => (intro w' hS H; clear H; (obtain ⟨a0, a1, a2, -, -, -⟩ := (KA.out.keep hS).o3); (obtain ⟨b0, b1, b2, -, -, -⟩ := (KB.out.keep hS).o3); (obtain ⟨g0, g1, -, -⟩ := (KG.out.keep hS).o2); (obtain ⟨x0, x1, x2, -, -, -⟩ := (KX.out.keep hS).o3); (obtain ⟨y0, y1, y2, -, -, -⟩ := (KY.out.keep hS).o3); (obtain ⟨h0, h1, -, -⟩ := (KH.out.keep hS).o2); clear hS; go_simp; first | done | exact rfl)))); (case put287 => (simp only [Act.put, List.setIfInBounds_toArray, List.set_cons_zero, List.set_cons_succ]; first | done | exact rfl)); (case' next287 => skip)
  (first | (refine' grow_skip rfl ?wt288 ?put288 ?next288; (case wt288 => rfl)) | (refine' grow_lit rfl ?wt288 ?run288 ?put288 ?next288; (case wt288 => rfl); (case run288 => (intro w' hS H; clear H; (obtain ⟨a0, a1, a2, -, -, -⟩ := (KA.out.keep hS).o3); (obtain ⟨b0, b1, b2, -, -, -⟩ := (KB.out.keep hS).o3); (obtain ⟨g0, g1, -, -⟩ := (KG.out.keep hS).o2); (obtain ⟨x0, x1, x2, -, -, -⟩ := (KX.out.keep hS).o3); (obtain ⟨y0, y1, y2, -, -, -⟩ := (KY.out.keep hS).o3); (obtain ⟨h0, h1, -, -⟩ := (KH.out.keep hS).o2); clear hS; go_simp; first | done | exact rfl)))); (case put288 => (simp only [Act.put, List.setIfInBounds_toArray, List.set_cons_zero, List.set_cons_succ]; first | done | exact rfl)); (case' next288 => skip)
  (first | (refine' grow_skip rfl ?wt289 ?put289 ?next289; (case wt289 => rfl)) | (refine' grow_lit rfl ?wt289 ?run289 ?put289 ?next289; (case wt289 => rfl); (case run289 => (intro w' hS H; clear H; (obtain ⟨a0, a1, a2, -, -, -⟩ := (KA.out.keep hS).o3); (obtain ⟨b0, b1, b2, -, -, -⟩ := (KB.out.keep hS).o3); (obtain ⟨g0, g1, -, -⟩ := (KG.out.keep hS).o2); (obtain ⟨x0, x1, x2, -, -, -⟩ := (KX.out.keep hS).o3); (obtain ⟨y0, y1, y2, -, -, -⟩ := (KY.out.keep hS).o3); (obtain ⟨h0, h1, -, -⟩ := (KH.out.keep hS).o2); clear hS; go_simp; first | done | exact rfl)))); (case put289 => (simp only [Act.put, List.setIfInBounds_toArray, List.set_cons_zero, List.set_cons_succ]; first | done | exact rfl)); (case' next289 => skip)
  (first | (refine' grow_skip rfl ?wt290 ?put290 ?next290; (case wt290 => rfl)) | (refine' grow_lit rfl ?wt290 ?run290 ?put290 ?next290; (case wt290 => rfl); (case run290 => (intro w' hS H; clear H; (obtain ⟨a0, a1, a2, -, -, -⟩ := (KA.out.keep hS).o3); (obtain ⟨b0, b1, b2, -, -, -⟩ := (KB.out.keep hS).o3); (obtain ⟨g0, g1, -, -⟩ := (KG.out.keep hS).o2); (obtain ⟨x0, x1, x2, -, -, -⟩ := (KX.out.keep hS).o3); (obtain ⟨y0, y1, y2, -, -, -⟩ := (KY.out.keep hS).o3); (obtain ⟨h0, h1, -, -⟩ := (KH.out.keep hS).o2); clear hS; go_simp; first | done | exact rfl)))); (case put290 => (simp only [Act.put, List.setIfInBounds_toArray, List.set_cons_zero, List.set_cons_succ]; first | done | exact rfl)); (case' next290 => skip)
  (first | (refine' grow_skip rfl ?wt291 ?put291 ?next291; (case wt291 => rfl)) | (refine' grow_lit rfl ?wt291 ?run291 ?put291 ?next291; (case wt291 => rfl); (case run291 => (intro w' hS H; clear H; (obtain ⟨a0, a1, a2, -, -, -⟩ := (KA.out.keep hS).o3); (obtain ⟨b0, b1, b2, -, -, -⟩ := (KB.out.keep hS).o3); (obtain ⟨g0, g1, -, -⟩ := (KG.out.keep hS).o2); (obtain ⟨x0, x1, x2, -, -, -⟩ := (KX.out.keep hS).o3); (obtain ⟨y0, y1, y2, -, -, -⟩ := (KY.out.keep hS).o3); (obtain ⟨h0, h1, -, -⟩ := (KH.out.keep hS).o2); clear hS; go_simp; first | done | exact rfl)))); (case put291 => (simp only [Act.put, List.setIfInBounds_toArray, List.set_cons_zero, List.set_cons_succ]; first | done | exact rfl)); (case' next291 => skip)
  (first | (refine' grow_skip rfl ?wt292 ?put292 ?next292; (case wt292 => rfl)) | (refine' grow_lit rfl ?wt292 ?run292 ?put292 ?next292; (case wt292 => rfl); (case run292 => (intro w' hS H; clear H; (obtain ⟨a0, a1, a2, -, -, -⟩ := (KA.out.keep hS).o3); (obtain ⟨b0, b1, b2, -, -, -⟩ := (KB.out.keep hS).o3); (obtain ⟨g0, g1, -, -⟩ := (KG.out.keep hS).o2); (obtain ⟨x0, x1, x2, -, -, -⟩ := (KX.out.keep hS).o3); (obtain ⟨y0, y1, y2, -, -, -⟩ := (KY.out.keep hS).o3); (obtain ⟨h0, h1, -, -⟩ := (KH.out.keep hS).o2); clear hS; go_simp; first | done | exact rfl)))); (case put292 => (simp only [Act.put, List.setIfInBounds_toArray, List.set_cons_zero, List.set_cons_succ]; first | done | exact rfl)); (case' next292 => skip)
  (first | (refine' grow_skip rfl ?wt293 ?put293 ?next293; (case wt293 => rfl)) | (refine' grow_lit rfl ?wt293 ?run293 ?put293 ?next293; (case wt293 => rfl); (case run293 => (intro w' hS H; clear H; (obtain ⟨a0, a1, a2, -, -, -⟩ := (KA.out.keep hS).o3); (obtain ⟨b0, b1, b2, -, -, -⟩ := (KB.out.keep hS).o3); (obtain ⟨g0, g1, -, -⟩ := (KG.out.keep hS).o2); (obtain ⟨x0, x1, x2, -, -, -⟩ := (KX.out.keep hS).o3); (obtain ⟨y0, y1, y2, -, -, -⟩ := (KY.out.keep hS).o3); (obtain ⟨h0, h1, -, -⟩ := (KH.out.keep hS).o2); clear hS; go_simp; first | done | exact rfl)))); (case put293 => (simp only [Act.put, List.setIfInBounds_toArray, List.set_cons_zero, List.set_cons_succ]; first | done | exact rfl)); (case' next293 => skip)
  (first | (refine' grow_skip rfl ?wt294 ?put294 ?next294; (case wt294 => rfl)) | (refine' grow_lit rfl ?wt294 ?run294 ?put294 ?next294; (case wt294 => rfl); (case run294 => (intro w' hS H; clear H; (obtain ⟨a0, a1, a2, -, -, -⟩ := (KA.out.keep hS).o3); (obtain ⟨b0, b1, b2, -, -, -⟩ := (KB.out.keep hS).o3); (obtain ⟨g0, g1, -, -⟩ := (KG.out.keep hS).o2); (obtain ⟨x0, x1, x2, -, -, -⟩ := (KX.out.keep hS).o3); (obtain ⟨y0, y1, y2, -, -, -⟩ := (KY.out.keep hS).o3); (obtain ⟨h0, h1, -, -⟩ := (KH.out.keep hS).o2); clear hS; go_simp; first | done | exact rfl)))); (case put294 => (simp only [Act.put, List.setIfInBounds_toArray, List.set_cons_zero, List.set_cons_succ]; first | done | exact rfl)); (case' next294 => skip)
  (first | (refine' grow_skip rfl ?wt295 ?put295 ?next295; (case wt295 => rfl)) | (refine' grow_lit rfl ?wt295 ?run295 ?put295 ?next295; (case wt295 => rfl); (case run295 => (intro w' hS H; clear H; (obtain ⟨a0, a1, a2, -, -, -⟩ := (KA.out.keep hS).o3); (obtain ⟨b0, b1, b2, -, -, -⟩ := (KB.out.keep hS).o3); (obtain ⟨g0, g1, -, -⟩ := (KG.out.keep hS).o2); (obtain ⟨x0, x1, x2, -, -, -⟩ := (KX.out.keep hS).o3); (obtain ⟨y0, y1, y2, -, -, -⟩ := (KY.out.keep hS).o3); (obtain ⟨h0, h1, -, -⟩ := (KH.out.keep hS).o2); clear hS; go_simp; first | done | exact rfl)))); (case put295 => (simp only [Act.put, List.setIfInBounds_toArray, List.set_cons_zero, List.set_cons_succ]; first | done | exact rfl)); (case' next295 => skip)
  (first | (refine' grow_skip rfl ?wt296 ?put296 ?next296; (case wt296 => rfl)) | (refine' grow_lit rfl ?wt296 ?run296 ?put296 ?next296; (case wt296 => rfl); (case run296 => (intro w' hS H; clear H; (obtain ⟨a0, a1, a2, -, -, -⟩ := (KA.out.keep hS).o3); (obtain ⟨b0, b1, b2, -, -, -⟩ := (KB.out.keep hS).o3); (obtain ⟨g0, g1, -, -⟩ := (KG.out.keep hS).o2); (obtain ⟨x0, x1, x2, -, -, -⟩ := (KX.out.keep hS).o3); (obtain ⟨y0, y1, y2, -, -, -⟩ := (KY.out.keep hS).o3); (obtain ⟨h0, h1, -, -⟩ := (KH.out.keep hS).o2); clear hS; go_simp; first | done | exact rfl)))); (case put296 => (simp only [Act.put, List.setIfInBounds_toArray, List.set_cons_zero, List.set_cons_succ]; first | done | exact rfl)); (case' next296 => skip)
  (first | (refine' grow_skip rfl ?wt297 ?put297 ?next297; (case wt297 => rfl)) | (refine' grow_lit rfl ?wt297 ?run297 ?put297 ?next297; (case wt297 => rfl); (case run297 => (intro w' hS H; clear H; (obtain ⟨a0, a1, a2, -, -, -⟩ := (KA.out.keep hS).o3); (obtain ⟨b0, b1, b2, -, -, -⟩ := (KB.out.keep hS).o3); (obtain ⟨g0, g1, -, -⟩ := (KG.out.keep hS).o2); (obtain ⟨x0, x1, x2, -, -, -⟩ := (KX.out.keep hS).o3); (obtain ⟨y0, y1, y2, -, -, -⟩ := (KY.out.keep hS).o3); (obtain ⟨h0, h1, -, -⟩ := (KH.out.keep hS).o2); clear hS; go_simp; first | done | exact rfl)))); (case put297 => (simp only [Act.put, List.setIfInBounds_toArray, List.set_cons_zero, List.set_cons_succ]; first | done | exact rfl)); (case' next297 => skip)
  (first | (refine' grow_skip rfl ?wt298 ?put298 ?next298; (case wt298 => rfl)) | (refine' grow_lit rfl ?wt298 ?run298 ?put298 ?next298; (case wt298 => rfl); (case run298 => (intro w' hS H; clear H; (obtain ⟨a0, a1, a2, -, -, -⟩ := (KA.out.keep hS).o3); (obtain ⟨b0, b1, b2, -, -, -⟩ := (KB.out.keep hS).o3); (obtain ⟨g0, g1, -, -⟩ := (KG.out.keep hS).o2); (obtain ⟨x0, x1, x2, -, -, -⟩ := (KX.out.keep hS).o3); (obtain ⟨y0, y1, y2, -, -, -⟩ := (KY.out.keep hS).o3); (obtain ⟨h0, h1, -, -⟩ := (KH.out.keep hS).o2); clear hS; go_simp; first | done | exact rfl)))); (case put298 => (simp only [Act.put, List.setIfInBounds_toArray, List.set_cons_zero, List.set_cons_succ]; first | done | exact rfl)); (case' next298 => skip)
  (first | (refine' grow_skip rfl ?wt299 ?put299 ?next299; (case wt299 => rfl)) | (refine' grow_lit rfl ?wt299 ?run299 ?put299 ?next299; (case wt299 => rfl); (case run299 => (intro w' hS H; clear H; (obtain ⟨a0, a1, a2, -, -, -⟩ := (KA.out.keep hS).o3); (obtain ⟨b0, b1, b2, -, -, -⟩ := (KB.out.keep hS).o3); (obtain ⟨g0, g1, -, -⟩ := (KG.out.keep hS).o2); (obtain ⟨x0, x1, x2, -, -, -⟩ := (KX.out.keep hS).o3); (obtain ⟨y0, y1, y2, -, -, -⟩ := (KY.out.keep hS).o3); (obtain ⟨h0, h1, -, -⟩ := (KH.out.keep hS).o2); clear hS; go_simp; first | done | exact rfl)))); (case put299 => (simp only [Act.put, List.setIfInBounds_toArray, List.set_cons_zero, List.set_cons_succ]; first | done | exact rfl)); (case' next299 => skip)
  (first | (refine' grow_skip rfl ?wt300 ?put300 ?next300; (case wt300 => rfl)) | (refine' grow_lit rfl ?wt300 ?run300 ?put300 ?next300; (case wt300 => rfl); (case run300 => (intro w' hS H; clear H; (obtain ⟨a0, a1, a2, -, -, -⟩ := (KA.out.keep hS).o3); (obtain ⟨b0, b1, b2, -, -, -⟩ := (KB.out.keep hS).o3); (obtain ⟨g0, g1, -, -⟩ := (KG.out.keep hS).o2); (obtain ⟨x0, x1, x2, -, -, -⟩ := (KX.out.keep hS).o3); (obtain ⟨y0, y1, y2, -, -, -⟩ := (KY.out.keep hS).o3); (obtain ⟨h0, h1, -, -⟩ := (KH.out.keep hS).o2); clear hS; go_simp; first | done | exact rfl)))); (case put300 => (simp only [Act.put, List.setIfInBounds_toArray, List.set_cons_zero, List.set_cons_succ]; first | done | exact rfl)); (case' next300 => skip)
  (first | (refine' grow_skip rfl ?wt301 ?put301 ?next301; (case wt301 => rfl)) | (refine' grow_lit rfl ?wt301 ?run301 ?put301 ?next301; (case wt301 => rfl); (case run301 => (intro w' hS H; clear H; (obtain ⟨a0, a1, a2, -, -, -⟩ := (KA.out.keep hS).o3); (obtain ⟨b0, b1, b2, -, -, -⟩ := (KB.out.keep hS).o3); (obtain ⟨g0, g1, -, -⟩ := (KG.out.keep hS).o2); (obtain ⟨x0, x1, x2, -, -, -⟩ := (KX.out.keep hS).o3); (obtain ⟨y0, y1, y2, -, -, -⟩ := (KY.out.keep hS).o3); (obtain ⟨h0, h1, -, -⟩ := (KH.out.keep hS).o2); clear hS; go_simp; first | done | exact rfl)))); (case put301 => (simp only [Act.put, List.setIfInBounds_toArray, List.set_cons_zero, List.set_cons_succ]; first | done | exact rfl)); (case' next301 => skip)
  (first | (refine' grow_skip rfl ?wt302 ?put302 ?next302; (case wt302 => rfl)) | (refine' grow_lit rfl ?wt302 ?run302 ?put302 ?next302; (case wt302 => rfl); (case run302 => (intro w' hS H; clear H; (obtain ⟨a0, a1, a2, -, -, -⟩ := (KA.out.keep hS).o3); (obtain ⟨b0, b1, b2, -, -, -⟩ := (KB.out.keep hS).o3); (obtain ⟨g0, g1, -, -⟩ := (KG.out.keep hS).o2); (obtain ⟨x0, x1, x2, -, -, -⟩ := (KX.out.keep hS).o3); (obtain ⟨y0, y1, y2, -, -, -⟩ := (KY.out.keep hS).o3); (obtain ⟨h0, h1, -, -⟩ := (KH.out.keep hS).o2); clear hS; go_simp; first | done | exact rfl)))); (case put302 => (simp only [Act.put, List.setIfInBounds_toArray, List.set_cons_zero, List.set_cons_succ]; first | done | exact rfl)); (case' next302 => skip)
  (first | (refine' grow_skip rfl ?wt303 ?put303 ?next303; (case wt303 => rfl)) | (refine' grow_lit rfl ?wt303 ?run303 ?put303 ?next303; (case wt303 => rfl); (case run303 => (intro w' hS H; clear H; (obtain ⟨a0, a1, a2, -, -, -⟩ := (KA.out.keep hS).o3); (obtain ⟨b0, b1, b2, -, -, -⟩ := (KB.out.keep hS).o3); (obtain ⟨g0, g1, -, -⟩ := (KG.out.keep hS).o2); (obtain ⟨x0, x1, x2, -, -, -⟩ := (KX.out.keep hS).o3); (obtain ⟨y0, y1, y2, -, -, -⟩ := (KY.out.keep hS).o3); (obtain ⟨h0, h1, -, -⟩ := (KH.out.keep hS).o2); clear hS; go_simp; first | done | exact rfl)))); (case put303 => (simp only [Act.put, List.setIfInBounds_toArray, List.set_cons_zero, List.set_cons_succ]; first | done | exact rfl)); (case' next303 => skip)
  (first | (refine' grow_skip rfl ?wt304 ?put304 ?next304; (case wt304 => rfl)) | (refine' grow_lit rfl ?wt304 ?run304 ?put304 ?next304; (case wt304 => rfl); (case run304 => (intro w' hS H; clear H; (obtain ⟨a0, a1, a2, -, -, -⟩ := (KA.out.keep hS).o3); (obtain ⟨b0, b1, b2, -, -, -⟩ := (KB.out.keep hS).o3); (obtain ⟨g0, g1, -, -⟩ := (KG.out.keep hS).o2); (obtain ⟨x0, x1, x2, -, -, -⟩ := (KX.out.keep hS).o3); (obtain ⟨y0, y1, y2, -, -, -⟩ := (KY.out.keep hS).o3); (obtain ⟨h0, h1, -, -⟩ := (KH.out.keep hS).o2); clear hS; go_simp; first | done | exact rfl)))); (case put304 => (simp only [Act.put, List.setIfInBounds_toArray, List.set_cons_zero, List.set_cons_succ]; first | done | exact rfl)); (case' next304 => skip)
  (first | (refine' grow_skip rfl ?wt305 ?put305 ?next305; (case wt305 => rfl)) | (refine' grow_lit rfl ?wt305 ?run305 ?put305 ?next305; (case wt305 => rfl); (case run305 => (intro w' hS H; clear H; (obtain ⟨a0, a1, a2, -, -, -⟩ := (KA.out.keep hS).o3); (obtain ⟨b0, b1, b2, -, -, -⟩ := (KB.out.keep hS).o3); (obtain ⟨g0, g1, -, -⟩ := (KG.out.keep hS).o2); (obtain ⟨x0, x1, x2, -, -, -⟩ := (KX.out.keep hS).o3); (obtain ⟨y0, y1, y2, -, -, -⟩ := (KY.out.keep hS).o3); (obtain ⟨h0, h1, -, -⟩ := (KH.out.keep hS).o2); clear hS; go_simp; first | done | exact rfl)))); (case put305 => (simp only [Act.put, List.setIfInBounds_toArray, List.set_cons_zero, List.set_cons_succ]; first | done | exact rfl)); (case' next305 => skip)
  (first | (refine' grow_skip rfl ?wt306 ?put306 ?next306; (case wt306 => rfl)) | (refine' grow_lit rfl ?wt306 ?run306 ?put306 ?next306; (case wt306 => rfl); (case run306 => (intro w' hS H; clear H; (obtain ⟨a0, a1, a2, -, -, -⟩ := (KA.out.keep hS).o3); (obtain ⟨b0, b1, b2, -, -, -⟩ := (KB.out.keep hS).o3); (obtain ⟨g0, g1, -, -⟩ := (KG.out.keep hS).o2); (obtain ⟨x0, x1, x2, -, -, -⟩ := (KX.out.keep hS).o3); (obtain ⟨y0, y1, y2, -, -, -⟩ := (KY.out.keep hS).o3); (obtain ⟨h0, h1, -, -⟩ := (KH.out.keep hS).o2); clear hS; go_simp; first | done | exact rfl)))); (case put306 => (simp only [Act.put, List.setIfInBounds_toArray, List.set_cons_zero, List.set_cons_succ]; first | done | exact rfl)); (case' next306 => skip)
  intro w' hS _
  have HF := Lib.hid (B0.out.trans (hS.mono B0.out.size))
  clear hS
  go_wp2_with fail
  go_ret
  exact ⟨rfl, HF.out⟩

theorem in64_rep (n : Nat) : In64 (List.replicate n 0) := by
  intro x hx
  obtain rfl := List.eq_of_mem_replicate hx
  omega

theorem makes_walk (ins outs n : Int) (w : World) (hg : ErrT w) (_ : -9223372036854775808 ≤ ins) (_ : ins ≤ 9223372036854775807) (_ : -9223372036854775808 ≤ outs) (_ : outs ≤ 9223372036854775807) (_ : -9223372036854775808 ≤ n) (_ : n ≤ 9223372036854775807) :
    Calls Tryd.prog 4 #[.int .i64 ins, .int .i64 outs, .int .i64 n] w fun e w' => e = .returned (.bool true) ∧ Below w.heap.size w w' := by
  have ha1 := tfree_any ins outs
  have ha2 := rfree_any ins outs
  have hb1 := tback_any n
  have hb2 := rback_any n
  have hA : (¬ (ins < 0 ∨ 16 < ins) ∧ ¬ (outs < 0 ∨ 16 < outs) ∧ freeS ins outs = ((ins, outs, List.replicate (ins * outs).toNat 0), (0, 0))) ∨ ∃ p, freeS ins outs = ((0, 0, []), (p, 1)) := by
    unfold freeS
    by_cases h0 : ins < 0 ∨ 16 < ins
    · exact Or.inr ⟨0, by rw [if_pos h0]⟩
    by_cases h1 : outs < 0 ∨ 16 < outs
    · exact Or.inr ⟨1, by rw [if_neg h0, if_pos h1]⟩
    · exact Or.inl ⟨h0, h1, by rw [if_neg h0, if_neg h1]⟩
  have hB : (¬ (n < 0 ∨ 16 < n) ∧ backS n = ((n, n, backL n.toNat n.toNat), (0, 0))) ∨ backS n = ((0, 0, []), (0, 1)) := by
    unfold backS
    by_cases h0 : n < 0 ∨ 16 < n
    · exact Or.inr (by rw [if_pos h0])
    · exact Or.inl ⟨h0, by rw [if_neg h0]⟩
  have ckA : ¬ (ins < 0 ∨ 16 < ins) → ¬ (outs < 0 ∨ 16 < outs) → chkT ins outs (List.replicate (ins * outs).toNat 0) = (0, 0) := fun h0 h1 => by
    have s := size_le (I := ins) (O := outs) ⟨by omega, by omega, by omega, by omega⟩
    exact chkT_mk (by omega) (by omega) (by simp; omega) (replicate_wgt _)
  have ckB : ¬ (n < 0 ∨ 16 < n) → chkT n n (backL n.toNat n.toNat) = (0, 0) ∧ bansC (backL n.toNat n.toNat) = n := fun h0 => by
    have hn : ((n.toNat : Nat) : Int) = n := by omega
    refine ⟨chkT_mk (by omega) (by omega) ?_ (backL_wgt _ _), by rw [bansC_backL _ _ (Nat.le_refl _), hn]⟩
    rw [backL_length, Int.natCast_mul, hn]
  rcases hA with ⟨h0, h1, eA⟩ | ⟨p, eA⟩
  · rcases hB with ⟨h2, eB⟩ | eB
    · rw [eA] at ha1 ha2; rw [eB] at hb1 hb2
      exact makes_11 ins outs n _ _ _ _ _ _ w hg (ckA h0 h1) (in64_rep _) (ckB h2).1 (in64_backL _ _) (ckB h2).2 ha1 ha2 hb1 hb2
    · rw [eA] at ha1 ha2; rw [eB] at hb1 hb2
      exact makes_10 ins outs n _ _ _ _ _ _ 0 w hg (ckA h0 h1) (in64_rep _) ha1 ha2 hb1 hb2
  · rcases hB with ⟨h2, eB⟩ | eB
    · rw [eA] at ha1 ha2; rw [eB] at hb1 hb2
      exact makes_01 ins outs n _ _ _ _ _ _ p w hg (ckB h2).1 (in64_backL _ _) (ckB h2).2 ha1 ha2 hb1 hb2
    · rw [eA] at ha1 ha2; rw [eB] at hb1 hb2
      exact makes_00 ins outs n _ _ _ _ _ _ p 0 w hg ha1 ha2 hb1 hb2

set_option maxRecDepth 100000 in
theorem turnMakes_walks : Walks laidAll 4 Tryd.f4 := by
  intro H enc W args ds g
  obtain ⟨ps, hA⟩ := g.reads
  obtain ⟨base, hval⟩ := g.okay
  rw [Tryd.params4] at hA hval
  obtain ⟨v0, vs0, d0, ds0, p0, q0, hargs, rfl, rfl, h0, r0⟩ := trodAll_cons hA
  obtain ⟨v1, vs1, d1, ds1, p1, q1, rfl, rfl, rfl, h1, r1⟩ := trodAll_cons r0
  obtain ⟨v2, vs2, d2, ds2, p2, q2, rfl, rfl, rfl, h2, r2⟩ := trodAll_cons r1
  obtain ⟨rfl, rfl, rfl⟩ := trodAll_nil r2
  obtain rfl : args = #[v0, v1, v2] := Array.toList_inj.1 hargs
  obtain ⟨x0, rfl, rfl, rfl, w0⟩ := open_int Tryd.underlying3 (hval 0 3 v0 rfl rfl) h0
  obtain ⟨x1, rfl, rfl, rfl, w1⟩ := open_int Tryd.underlying3 (hval 1 3 v1 rfl rfl) h1
  obtain ⟨x2, rfl, rfl, rfl, w2⟩ := open_int Tryd.underlying3 (hval 2 3 v2 rfl rfl) h2
  exact makes_walk x0 x1 x2 W (errT_of_laid g.laid) (wf64 w0).1 (wf64 w0).2 (wf64 w1).1 (wf64 w1).2 (wf64 w2).1 (wf64 w2).2

theorem turnMakes_row : Rows.TurnMakesSaid :=
  OpenClaim.holds_of_wide 4 Tryd.f4 rfl rfl rfl rfl rfl rfl rfl ⟨rfl, rfl, rfl, rfl, rfl⟩ rfl rfl rfl rfl rfl (by kernel_rfl) Tryd.func4 (by kernel_rfl)
    (of_decide_eq_true (by kernel_rfl)) (by unfold Func.isWrapper; rw [if_neg (of_decide_eq_false (by kernel_rfl))]; exact ⟨rfl, rfl⟩)
    (fun os started H enc _ => law_lifted (s := Rows.turnMakesSpec) (L := laidAll) Tryd.func4 (by kernel_rfl) rfl (by kernel_rfl)
      (fun H ds hl => by
        rw [Tryd.params4] at hl
        match ds, hl with
        | [_, _, _], _ => exact ⟨rfl, rfl, rfl⟩)
      (by kernel_rfl) os started H enc
      (ChangeSpec.witness_at (enc := enc) (C := Tryd.checked) (os := os) (X := fun w _ => laidMetH Tryd.prog laidAll w) false (laidWorld os) #[.int .i64 0, .int .i64 0, .int .i64 0] 8 rfl (by kernel_rfl) (by kernel_rfl) (by kernel_rfl) (by kernel_rfl) (by kernel_rfl) (laidWorld_met os _))
      turnMakes_walks)

theorem turnMakes_card : Rows.TurnMakesCardSaid :=
  Claim7.holds_tied_plain_at .later [] laidKindsAll true (Rows.turnMakesCard.stood.harness) true
    turnMakes_row (fun _ h => by cases h) (by kernel_rfl) (fun _ h => by cases h) turnMakes_row_tie rfl ⟨rfl, rfl⟩ (by kernel_rfl) rfl
    (fun f fn hf hfn => by
      obtain rfl : f = 4 := Option.some.inj ((show Tryd.prog.funcNamed "roundsman/roundsmanlaw2.TurnMakes" = some 4 by kernel_rfl).symm.trans hf) |>.symm
      obtain rfl : fn = Tryd.f4 := (Option.some.inj (Tryd.func4.symm.trans hfn)).symm
      exact ⟨by kernel_rfl, fun j t ht => by
        rw [Tryd.params4] at ht
        exact stand_all #[3, 3, 3] (by kernel_rfl) j t ht⟩)
    (by kernel_rfl)
#print axioms turnMakes_card

end Go.Proofs.YtboimdgldjimpaaDoor
