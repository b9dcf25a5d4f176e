/-
  PROVED: any net as a graph, or why not; of it any vertex's arcs, any arc's ends, weight and places, any turn, as the document has them. For every net, vertex and two arcs. Conditions: the listed library variable holds what the program's own text lays (the card ties it).
-/
import Derived.Test.YtccnplfkpkfgmaaDoorKnown6
import Derived.Test.YtccnplfkpkfgmaaDoorNetIn
import Derived.Test.YtccnplfkpkfgmaaDoorLaid2
import Derived.Test.YtccnplfkpkfgmaaDoorCards
import Derived.Test.YtccnplfkpkfgmaaDoorTie
import Derived.SevenTiedAt
namespace Go.Proofs.YtccnplfkpkfgmaaDoor
open Go.ChangeShapes Go.WideShapes Go.ChangeAt Go.RowKit
theorem Gr1.below {w0 w w' : World} {p : Nat} {n : NetD} {va vt : Value} (h : Gr1 w0 w p n va vt) (hb : Below w.heap.size w w') : Gr1 w0 w' p n va vt := h.old hb

set_option maxHeartbeats 8000000 in
set_option maxRecDepth 100000 in
theorem gtells_few (v : Value) (n : NetD) (x a b : Int) (w : World) (hg : ErrT w) (hv : NetV w v n) (hf : fewN n = false) :
    Calls Tryd.prog 3 #[v, .int .i64 x, .int .i64 a, .int .i64 b] w fun e w' => e = .returned (.bool true) ∧ Below w.heap.size w w' := by
  obtain ⟨vq, aq, tq, vc, ac, tc, rfl, -⟩ := hv.shape
  have HF1 := Lib.hid hf
  clear hf
  go_enter Tryd.func3, Tryd.ntmps3
  go_wp2_with fail
  obtain ⟨W0, hW0⟩ := named (w.alloc (.cells #[.slice vq n.v.length vc, .slice aq n.a.length ac, .slice tq n.t.length tc] 26))
  rw [← hW0]
  have hc0 : Below w.heap.size w W0 := by rw [hW0]; exact below_alloc1 _
  have B0 := Lib.hid hc0
  have KA : Hid (Blk W0 (w.heap.size) #[.slice vq n.v.length vc, .slice aq n.a.length ac, .slice tq n.t.length tc] 26) := by rw [hW0]; exact Lib.hid (Blk.new _ _ _ _ rfl)
  have VA := Lib.hid (hv.below hc0)
  have HG := Lib.hid (hg.keep hc0)
  clear hc0 hW0 hv hg
  refine (known6_any _ HG.out).mono ?_
  rintro e w1 ⟨rfl, hb⟩
  obtain ⟨p0, p1, p2, -, -, -⟩ := (KA.out.keep hb).o3
  go_wp2_with fail
  clear p0 p1 p2
  have hd1 : Below W0.heap.size W0 w1 := hb
  have KA_ := Lib.hid (KA.out.keep hd1)
  have VA_ := Lib.hid (VA.out.below hd1)
  have HG_ := Lib.hid (HG.out.keep hd1)
  clear KA VA HG
  have KA := KA_
  have VA := VA_
  have HG := HG_
  clear KA_ VA_ HG_
  have B1 : Hid (Below w.heap.size w w1) := Lib.hid (B0.out.trans (hd1.mono B0.out.size))
  clear B0
  have B0 := B1
  clear B1
  clear hb hd1 
  refine (vfew VA.out HF1.out).mono ?_
  rintro e w2 ⟨rfl, hb⟩
  obtain ⟨p0, p1, p2, -, -, -⟩ := (KA.out.keep hb).o3
  go_wp2_with fail
  clear p0 p1 p2
  have hd2 : Below w1.heap.size w1 w2 := hb
  have KA_ := Lib.hid (KA.out.keep hd2)
  have VA_ := Lib.hid (VA.out.below hd2)
  have HG_ := Lib.hid (HG.out.keep hd2)
  clear KA VA HG
  have KA := KA_
  have VA := VA_
  have HG := HG_
  clear KA_ VA_ HG_
  have B1 : Hid (Below w.heap.size w w2) := Lib.hid (B0.out.trans (hd2.mono B0.out.size))
  clear B0
  have B0 := B1
  clear B1
  clear hb hd2 
  go_ret
  exact ⟨rfl, B0.out⟩

set_option maxHeartbeats 8000000 in
set_option maxRecDepth 100000 in
theorem gtells_bad (v : Value) (n : NetD) (x a b : Int) (w : World) (hg : ErrT w) (hv : NetV w v n) (hin : InNet n) (hf : fewN n = true) (F : Flt) (hF : chkN n = F) (hO : 1 ≤ F.1.length ∧ F.1.length ≤ 2 ∧ ¬ F.2 = 0) :
    Calls Tryd.prog 3 #[v, .int .i64 x, .int .i64 a, .int .i64 b] w fun e w' => e = .returned (.bool true) ∧ Below w.heap.size w w' := by
  obtain ⟨vq, aq, tq, vc, ac, tc, rfl, -⟩ := hv.shape
  have HF1 := Lib.hid hf
  have F1 := Lib.hid (few_of hf)
  have HIN := Lib.hid hin
  have HF := Lib.hid hF
  have HO := Lib.hid hO
  have HL := Lib.hid hO.1
  have hne : (F.2 != 0) = true := by simpa using hO.2.2
  clear hf hin hF hO
  go_enter Tryd.func3, Tryd.ntmps3
  go_wp2_with fail
  obtain ⟨W0, hW0⟩ := named (w.alloc (.cells #[.slice vq n.v.length vc, .slice aq n.a.length ac, .slice tq n.t.length tc] 26))
  rw [← hW0]
  have hc0 : Below w.heap.size w W0 := by rw [hW0]; exact below_alloc1 _
  have B0 := Lib.hid hc0
  have KA : Hid (Blk W0 (w.heap.size) #[.slice vq n.v.length vc, .slice aq n.a.length ac, .slice tq n.t.length tc] 26) := by rw [hW0]; exact Lib.hid (Blk.new _ _ _ _ rfl)
  have VA := Lib.hid (hv.below hc0)
  have HG := Lib.hid (hg.keep hc0)
  clear hc0 hW0 hv hg
  refine (known6_any _ HG.out).mono ?_
  rintro e w1 ⟨rfl, hb⟩
  obtain ⟨p0, p1, p2, -, -, -⟩ := (KA.out.keep hb).o3
  go_wp2_with fail
  clear p0 p1 p2
  have hd1 : Below W0.heap.size W0 w1 := hb
  have KA_ := Lib.hid (KA.out.keep hd1)
  have VA_ := Lib.hid (VA.out.below hd1)
  have HG_ := Lib.hid (HG.out.keep hd1)
  clear KA VA HG
  have KA := KA_
  have VA := VA_
  have HG := HG_
  clear KA_ VA_ HG_
  have B1 : Hid (Below w.heap.size w w1) := Lib.hid (B0.out.trans (hd1.mono B0.out.size))
  clear B0
  have B0 := B1
  clear B1
  clear hb hd1 
  refine (vfew VA.out HF1.out).mono ?_
  rintro e w2 ⟨rfl, hb⟩
  obtain ⟨p0, p1, p2, -, -, -⟩ := (KA.out.keep hb).o3
  go_wp2_with fail
  clear p0 p1 p2
  have hd2 : Below w1.heap.size w1 w2 := hb
  have KA_ := Lib.hid (KA.out.keep hd2)
  have VA_ := Lib.hid (VA.out.below hd2)
  have HG_ := Lib.hid (HG.out.keep hd2)
  clear KA VA HG
  have KA := KA_
  have VA := VA_
  have HG := HG_
  clear KA_ VA_ HG_
  have B1 : Hid (Below w.heap.size w w2) := Lib.hid (B0.out.trans (hd2.mono B0.out.size))
  clear B0
  have B0 := B1
  clear B1
  clear hb hd2 
  refine (vtoF VA.out F1.out).mono ?_
  rintro e w3 ⟨xv, rfl, hX, hb⟩
  go_wp2_with fail
  have hd3 : Below w2.heap.size w2 w3 := hb
  have KA_ := Lib.hid (KA.out.keep hd3)
  have VA_ := Lib.hid (VA.out.below hd3)
  have HG_ := Lib.hid (HG.out.keep hd3)
  clear KA VA HG
  have KA := KA_
  have VA := VA_
  have HG := HG_
  clear KA_ VA_ HG_
  have B1 : Hid (Below w.heap.size w w3) := Lib.hid (B0.out.trans (hd3.mono B0.out.size))
  clear B0
  have B0 := B1
  clear B1
  have VX := Lib.hid (hX)
  clear hb hX hd3 
  refine (gnew_bad VX.out F1.out.small HIN.out HF.out HL.out).mono ?_
  rintro e w4 ⟨ev, rfl, hE, hb⟩
  obtain ⟨kb, rfl⟩ : ∃ kb, ev = .iface 103 (.pointer (some ⟨kb, 0, none⟩)) := by
    rcases hE with ⟨h0, _⟩ | ⟨_, h1⟩
    · have := HL.out; rw [h0] at this; simp at this
    · exact h1.head HL.out
  obtain ⟨p0, p1, p2, -, -, -⟩ := (KA.out.keep hb).o3
  go_wp2_with fail
  clear p0 p1 p2
  have hd4 : Below w3.heap.size w3 w4 := hb
  have KA_ := Lib.hid (KA.out.keep hd4)
  have VA_ := Lib.hid (VA.out.below hd4)
  have HG_ := Lib.hid (HG.out.keep hd4)
  have VX_ := Lib.hid (VX.out.below hd4)
  clear KA VA HG VX
  have KA := KA_
  have VA := VA_
  have HG := HG_
  have VX := VX_
  clear KA_ VA_ HG_ VX_
  have B1 : Hid (Below w.heap.size w w4) := Lib.hid (B0.out.trans (hd4.mono B0.out.size))
  clear B0
  have B0 := B1
  clear B1
  have VE := Lib.hid (hE)
  clear hb hE hd4 
  refine (rvcheck VA.out HIN.out HF.out).mono ?_
  rintro e w5 ⟨wv, rfl, hW, hb⟩
  obtain ⟨qw, mw, cw, rfl⟩ := hW.shape
  go_wp2_with fail
  obtain ⟨W5, hW5⟩ := named (w5.alloc (.cells #[.slice qw mw cw, .int .i64 F.2] 42))
  rw [← hW5]
  have hc5 : Below w5.heap.size w5 W5 := by rw [hW5]; exact below_alloc1 _
  have hd5 : Below w4.heap.size w4 W5 := hb.trans (hc5.mono hb.size)
  have KA_ := Lib.hid (KA.out.keep hd5)
  have VA_ := Lib.hid (VA.out.below hd5)
  have HG_ := Lib.hid (HG.out.keep hd5)
  have VX_ := Lib.hid (VX.out.below hd5)
  have VE_ := Lib.hid (VE.out.below hd5)
  clear KA VA HG VX VE
  have KA := KA_
  have VA := VA_
  have HG := HG_
  have VX := VX_
  have VE := VE_
  clear KA_ VA_ HG_ VX_ VE_
  have B1 : Hid (Below w.heap.size w W5) := Lib.hid (B0.out.trans (hd5.mono B0.out.size))
  clear B0
  have B0 := B1
  clear B1
  have KW : Hid (Blk W5 (w5.heap.size) #[.slice qw mw cw, .int .i64 F.2] 42) := by rw [hW5]; exact Lib.hid (Blk.new _ _ _ _ rfl)
  have VW := Lib.hid (hW.below hc5)
  clear hb hW hd5 hc5 hW5 
  refine (tells_post _ _ F.1 F.2 _ HG.out VE.out VW.out (Or.inr HO.out)).mono ?_
  rintro e w6 ⟨rfl, hb⟩
  obtain ⟨e0, e1, -, -⟩ := (KW.out.keep hb).o2
  go_wp2_with fail
  clear e0 e1
  have hd6 : Below W5.heap.size W5 w6 := hb
  have KA_ := Lib.hid (KA.out.keep hd6)
  have VA_ := Lib.hid (VA.out.below hd6)
  have HG_ := Lib.hid (HG.out.keep hd6)
  have VX_ := Lib.hid (VX.out.below hd6)
  have VE_ := Lib.hid (VE.out.below hd6)
  have KW_ := Lib.hid (KW.out.keep hd6)
  have VW_ := Lib.hid (VW.out.below hd6)
  clear KA VA HG VX VE KW VW
  have KA := KA_
  have VA := VA_
  have HG := HG_
  have VX := VX_
  have VE := VE_
  have KW := KW_
  have VW := VW_
  clear KA_ VA_ HG_ VX_ VE_ KW_ VW_
  have B1 : Hid (Below w.heap.size w w6) := Lib.hid (B0.out.trans (hd6.mono B0.out.size))
  clear B0
  have B0 := B1
  clear B1
  clear hb hd6 
  go_ret
  exact ⟨rfl, B0.out⟩
theorem vthere {w : World} {v : Value} {n : NetD} (h : NetV w v n) {a : Int} {B : Bool} (hB : n.there a = B) : Calls Tryd.prog 22 #[v, .int .i64 a] w fun e w' => e = .returned (.bool B) ∧ Below w.heap.size w w' := by
  obtain ⟨vq, aq, tq, vc, ac, tc, rfl, -⟩ := h.shape
  rw [← hB]
  exact rthere_any n vq aq tq vc ac tc a w

set_option maxHeartbeats 8000000 in
set_option maxRecDepth 100000 in
theorem gtells_out (v : Value) (n : NetD) (x a b : Int) (w : World) (hg : ErrT w) (hv : NetV w v n) (hin : InNet n) (hf : fewN n = true) (hok : chkN n = fltOK) (ht : n.there a = false) :
    Calls Tryd.prog 3 #[v, .int .i64 x, .int .i64 a, .int .i64 b] w fun e w' => e = .returned (.bool true) ∧ Below w.heap.size w w' := by
  obtain ⟨vq, aq, tq, vc, ac, tc, rfl, -⟩ := hv.shape
  have HF1 := Lib.hid hf
  have F1 := Lib.hid (few_of hf)
  have HIN := Lib.hid hin
  have HOK := Lib.hid hok
  have GN : Hid (GrN n) := Lib.hid ⟨good_of (by rw [hok]; rfl), few_of hf, hin⟩
  obtain ⟨TN, eTN⟩ : ∃ T, n.turn a b = T := ⟨_, rfl⟩
  have ETN := Lib.hid eTN
  clear hf hin hok eTN
  have HT := Lib.hid ht
  clear ht
  go_enter Tryd.func3, Tryd.ntmps3
  go_wp2_with fail
  obtain ⟨W0, hW0⟩ := named (w.alloc (.cells #[.slice vq n.v.length vc, .slice aq n.a.length ac, .slice tq n.t.length tc] 26))
  rw [← hW0]
  have hc0 : Below w.heap.size w W0 := by rw [hW0]; exact below_alloc1 _
  have B0 := Lib.hid hc0
  have KA : Hid (Blk W0 (w.heap.size) #[.slice vq n.v.length vc, .slice aq n.a.length ac, .slice tq n.t.length tc] 26) := by rw [hW0]; exact Lib.hid (Blk.new _ _ _ _ rfl)
  have VA := Lib.hid (hv.below hc0)
  have HG := Lib.hid (hg.keep hc0)
  clear hc0 hW0 hv hg
  refine (known6_any _ HG.out).mono ?_
  rintro e w1 ⟨rfl, hb⟩
  obtain ⟨p0, p1, p2, -, -, -⟩ := (KA.out.keep hb).o3
  go_wp2_with fail
  clear p0 p1 p2
  have hd1 : Below W0.heap.size W0 w1 := hb
  have KA_ := Lib.hid (KA.out.keep hd1)
  have VA_ := Lib.hid (VA.out.below hd1)
  have HG_ := Lib.hid (HG.out.keep hd1)
  clear KA VA HG
  have KA := KA_
  have VA := VA_
  have HG := HG_
  clear KA_ VA_ HG_
  have B1 : Hid (Below w.heap.size w w1) := Lib.hid (B0.out.trans (hd1.mono B0.out.size))
  clear B0
  have B0 := B1
  clear B1
  clear hb hd1 
  refine (vfew VA.out HF1.out).mono ?_
  rintro e w2 ⟨rfl, hb⟩
  obtain ⟨p0, p1, p2, -, -, -⟩ := (KA.out.keep hb).o3
  go_wp2_with fail
  clear p0 p1 p2
  have hd2 : Below w1.heap.size w1 w2 := hb
  have KA_ := Lib.hid (KA.out.keep hd2)
  have VA_ := Lib.hid (VA.out.below hd2)
  have HG_ := Lib.hid (HG.out.keep hd2)
  clear KA VA HG
  have KA := KA_
  have VA := VA_
  have HG := HG_
  clear KA_ VA_ HG_
  have B1 : Hid (Below w.heap.size w w2) := Lib.hid (B0.out.trans (hd2.mono B0.out.size))
  clear B0
  have B0 := B1
  clear B1
  clear hb hd2 
  refine (vtoF VA.out F1.out).mono ?_
  rintro e w3 ⟨xv, rfl, hX, hb⟩
  go_wp2_with fail
  have hd3 : Below w2.heap.size w2 w3 := hb
  have KA_ := Lib.hid (KA.out.keep hd3)
  have VA_ := Lib.hid (VA.out.below hd3)
  have HG_ := Lib.hid (HG.out.keep hd3)
  clear KA VA HG
  have KA := KA_
  have VA := VA_
  have HG := HG_
  clear KA_ VA_ HG_
  have B1 : Hid (Below w.heap.size w w3) := Lib.hid (B0.out.trans (hd3.mono B0.out.size))
  clear B0
  have B0 := B1
  clear B1
  have VX := Lib.hid (hX)
  clear hb hX hd3 
  refine (vNewG B0.out VX.out GN.out HOK.out).mono ?_
  rintro e w4 ⟨p, va, vt, rfl, hG, hb⟩
  obtain ⟨p0, p1, p2, -, -, -⟩ := (KA.out.keep hb).o3
  go_wp2_with fail
  clear p0 p1 p2
  have hd4 : Below w3.heap.size w3 w4 := hb
  have KA_ := Lib.hid (KA.out.keep hd4)
  have VA_ := Lib.hid (VA.out.below hd4)
  have HG_ := Lib.hid (HG.out.keep hd4)
  have VX_ := Lib.hid (VX.out.below hd4)
  clear KA VA HG VX
  have KA := KA_
  have VA := VA_
  have HG := HG_
  have VX := VX_
  clear KA_ VA_ HG_ VX_
  have B1 : Hid (Below w.heap.size w w4) := Lib.hid (B0.out.trans (hd4.mono B0.out.size))
  clear B0
  have B0 := B1
  clear B1
  have G := Lib.hid (hG)
  clear hb hG hd4 
  refine (rvcheck (F := ([], 0)) VA.out HIN.out HOK.out).mono ?_
  rintro e w5 ⟨wv, rfl, hW, hb⟩
  obtain ⟨qw, mw, cw, rfl⟩ := hW.shape
  go_wp2_with fail
  obtain ⟨W5, hW5⟩ := named (w5.alloc (.cells #[.slice qw mw cw, .int .i64 0] 42))
  rw [← hW5]
  have hc5 : Below w5.heap.size w5 W5 := by rw [hW5]; exact below_alloc1 _
  have hd5 : Below w4.heap.size w4 W5 := hb.trans (hc5.mono hb.size)
  have KA_ := Lib.hid (KA.out.keep hd5)
  have VA_ := Lib.hid (VA.out.below hd5)
  have HG_ := Lib.hid (HG.out.keep hd5)
  have VX_ := Lib.hid (VX.out.below hd5)
  have G_ := Lib.hid (G.out.below hd5)
  clear KA VA HG VX G
  have KA := KA_
  have VA := VA_
  have HG := HG_
  have VX := VX_
  have G := G_
  clear KA_ VA_ HG_ VX_ G_
  have B1 : Hid (Below w.heap.size w W5) := Lib.hid (B0.out.trans (hd5.mono B0.out.size))
  clear B0
  have B0 := B1
  clear B1
  have KW : Hid (Blk W5 (w5.heap.size) #[.slice qw mw cw, .int .i64 0] 42) := by rw [hW5]; exact Lib.hid (Blk.new _ _ _ _ rfl)
  have VW := Lib.hid (hW.below hc5)
  clear hb hW hd5 hc5 hW5 
  refine (tells_post _ _ [] 0 _ HG.out (Or.inl ⟨rfl, rfl⟩) VW.out (Or.inl ⟨rfl, rfl⟩)).mono ?_
  rintro e w6 ⟨rfl, hb⟩
  obtain ⟨e0, e1, -, -⟩ := (KW.out.keep hb).o2
  go_wp2_with fail
  clear e0 e1
  have hd6 : Below W5.heap.size W5 w6 := hb
  have KA_ := Lib.hid (KA.out.keep hd6)
  have VA_ := Lib.hid (VA.out.below hd6)
  have HG_ := Lib.hid (HG.out.keep hd6)
  have VX_ := Lib.hid (VX.out.below hd6)
  have G_ := Lib.hid (G.out.below hd6)
  have KW_ := Lib.hid (KW.out.keep hd6)
  have VW_ := Lib.hid (VW.out.below hd6)
  clear KA VA HG VX G KW VW
  have KA := KA_
  have VA := VA_
  have HG := HG_
  have VX := VX_
  have G := G_
  have KW := KW_
  have VW := VW_
  clear KA_ VA_ HG_ VX_ G_ KW_ VW_
  have B1 : Hid (Below w.heap.size w w6) := Lib.hid (B0.out.trans (hd6.mono B0.out.size))
  clear B0
  have B0 := B1
  clear B1
  clear hb hd6 
  have hGS : Grows (fun w' => Below w6.heap.size w6 w') := Grows.below w6
  refine' wp_growL _ (fun w' => Below w6.heap.size w6 w') [[], [], [0, 1], [2], [3], [4], [4], [4, 5, 6], [4], [4], [4, 8, 9], [4, 7, 10], [4, 11], [4, 12], [13], [14], [14], [14, 15, 16], [14], [14], [14, 18, 19], [14, 17, 20], [14, 21], [14, 22], [23], [24], [24], [24], [24, 25, 26, 27], [24], [24], [24], [24, 29, 30, 31], [24, 28, 32], [24, 33]] (Fact.lit _ :: Fact.lit _ :: Fact.lit _ :: Fact.lit _ :: Fact.lit _ :: Fact.lit _ :: Fact.lit _ :: Fact.prop _ _ :: Fact.lit _ :: Fact.lit _ :: Fact.prop _ _ :: Fact.lit _ :: Fact.lit _ :: Fact.lit _ :: Fact.lit _ :: Fact.lit _ :: Fact.lit _ :: Fact.prop _ _ :: Fact.lit _ :: Fact.lit _ :: Fact.prop _ _ :: Fact.lit _ :: Fact.lit _ :: Fact.lit _ :: Fact.lit _ :: Fact.lit _ :: Fact.lit _ :: Fact.lit _ :: Fact.lit _ :: Fact.lit _ :: Fact.lit _ :: Fact.lit _ :: Fact.lit _ :: Fact.lit _ :: Fact.lit _ :: []) (by kernel_rfl) rfl (by kernel_rfl) (Below.refl _ _).drew ?seqgt0
  case' seqgt0 => skip
  iterate 2 ((first | (apply grow_skip; (case hf => rfl); (case hw => rfl)) | (apply grow_lit; (case hf => rfl); (case hw => rfl); (case hrun => (intro w' hS H; clear H; (obtain ⟨a0, a1, a2, -, -, -⟩ := (KA.out.keep hS).o3); clear hS; go_simp; first | done | exact rfl)))); (case hc => (simp only [Act.put, List.setIfInBounds_toArray, List.set_cons_zero, List.set_cons_succ]; first | done | exact rfl)); (try (case hj => rfl)))
  (refine' grow_call (u := .bool true) rfl Tryd.func13 (by kernel_rfl) rfl hGS rfl ?wt1 ?run1 ?put1 ?next1; (case wt1 => rfl); (case run1 => (intro w' hS H; exact same6_any (G.out.old hS).g GN.out (VA.out.below hS))); (case put1 => (simp only [Act.put, List.setIfInBounds_toArray, List.set_cons_zero, List.set_cons_succ]; first | done | exact rfl)); (case' next1 => skip))
  iterate 4 ((first | (apply grow_skip; (case hf => rfl); (case hw => rfl)) | (apply grow_lit; (case hf => rfl); (case hw => rfl); (case hrun => (intro w' hS H; clear H; (obtain ⟨a0, a1, a2, -, -, -⟩ := (KA.out.keep hS).o3); clear hS; go_simp; first | done | exact rfl)))); (case hc => (simp only [Act.put, List.setIfInBounds_toArray, List.set_cons_zero, List.set_cons_succ]; first | done | exact rfl)); (try (case hj => rfl)))
  (refine' grow_callP (p := fun v w => I64s w v (outsL n.a x)) (hp := fun v w w' h hb => h.below hb) rfl Tryd.func15 (by kernel_rfl) rfl hGS rfl ?wt2 ?run2 ?put2 ?next2; (case wt2 => rfl); (case run2 => (intro w' hS H; exact vOutsG (G.out.old hS).g GN.out x rfl)); (case put2 => (intro v; simp only [Act.put, List.setIfInBounds_toArray, List.set_cons_zero, List.set_cons_succ]; first | done | exact rfl)); (case' next2 => intro v7))
  iterate 2 ((first | (apply grow_skip; (case hf => rfl); (case hw => rfl)) | (apply grow_lit; (case hf => rfl); (case hw => rfl); (case hrun => (intro w' hS H; clear H; (obtain ⟨a0, a1, a2, -, -, -⟩ := (KA.out.keep hS).o3); clear hS; go_simp; first | done | exact rfl)))); (case hc => (simp only [Act.put, List.setIfInBounds_toArray, List.set_cons_zero, List.set_cons_succ]; first | done | exact rfl)); (try (case hj => rfl)))
  (refine' grow_callP (p := fun v w => I64s w v (outsL n.a x)) (hp := fun v w w' h hb => h.below hb) rfl Tryd.func16 (by kernel_rfl) rfl hGS rfl ?wt3 ?run3 ?put3 ?next3; (case wt3 => rfl); (case run3 => (intro w' hS H; exact rvouts (VA.out.below hS) GN.out.good x rfl)); (case put3 => (intro v; simp only [Act.put, List.setIfInBounds_toArray, List.set_cons_zero, List.set_cons_succ]; first | done | exact rfl)); (case' next3 => intro v10))
  (refine' grow_call (u := .bool true) rfl Tryd.func14 (by kernel_rfl) rfl hGS rfl ?wt4 ?run4 ?put4 ?next4; (case wt4 => rfl); (case run4 => (intro w' hS H; exact vsameI (l := outsL n.a x) (k := outsL n.a x) (H 7 (by decide)) (H 10 (by decide)) (decide_eq_true rfl))); (case put4 => (simp only [Act.put, List.setIfInBounds_toArray, List.set_cons_zero, List.set_cons_succ]; first | done | exact rfl)); (case' next4 => skip))
  iterate 5 ((first | (apply grow_skip; (case hf => rfl); (case hw => rfl)) | (apply grow_lit; (case hf => rfl); (case hw => rfl); (case hrun => (intro w' hS H; clear H; (obtain ⟨a0, a1, a2, -, -, -⟩ := (KA.out.keep hS).o3); clear hS; go_simp; first | done | exact rfl)))); (case hc => (simp only [Act.put, List.setIfInBounds_toArray, List.set_cons_zero, List.set_cons_succ]; first | done | exact rfl)); (try (case hj => rfl)))
  (refine' grow_callP (p := fun v w => I64s w v (insL n.a x)) (hp := fun v w w' h hb => h.below hb) rfl Tryd.func17 (by kernel_rfl) rfl hGS rfl ?wt5 ?run5 ?put5 ?next5; (case wt5 => rfl); (case run5 => (intro w' hS H; exact vInsG (G.out.old hS).g GN.out x rfl)); (case put5 => (intro v; simp only [Act.put, List.setIfInBounds_toArray, List.set_cons_zero, List.set_cons_succ]; first | done | exact rfl)); (case' next5 => intro v17))
  iterate 2 ((first | (apply grow_skip; (case hf => rfl); (case hw => rfl)) | (apply grow_lit; (case hf => rfl); (case hw => rfl); (case hrun => (intro w' hS H; clear H; (obtain ⟨a0, a1, a2, -, -, -⟩ := (KA.out.keep hS).o3); clear hS; go_simp; first | done | exact rfl)))); (case hc => (simp only [Act.put, List.setIfInBounds_toArray, List.set_cons_zero, List.set_cons_succ]; first | done | exact rfl)); (try (case hj => rfl)))
  (refine' grow_callP (p := fun v w => I64s w v (insL n.a x)) (hp := fun v w w' h hb => h.below hb) rfl Tryd.func18 (by kernel_rfl) rfl hGS rfl ?wt6 ?run6 ?put6 ?next6; (case wt6 => rfl); (case run6 => (intro w' hS H; exact rvins (VA.out.below hS) GN.out.good x rfl)); (case put6 => (intro v; simp only [Act.put, List.setIfInBounds_toArray, List.set_cons_zero, List.set_cons_succ]; first | done | exact rfl)); (case' next6 => intro v20))
  (refine' grow_call (u := .bool true) rfl Tryd.func14 (by kernel_rfl) rfl hGS rfl ?wt7 ?run7 ?put7 ?next7; (case wt7 => rfl); (case run7 => (intro w' hS H; exact vsameI (l := insL n.a x) (k := insL n.a x) (H 17 (by decide)) (H 20 (by decide)) (decide_eq_true rfl))); (case put7 => (simp only [Act.put, List.setIfInBounds_toArray, List.set_cons_zero, List.set_cons_succ]; first | done | exact rfl)); (case' next7 => skip))
  iterate 6 ((first | (apply grow_skip; (case hf => rfl); (case hw => rfl)) | (apply grow_lit; (case hf => rfl); (case hw => rfl); (case hrun => (intro w' hS H; clear H; (obtain ⟨a0, a1, a2, -, -, -⟩ := (KA.out.keep hS).o3); clear hS; go_simp; first | done | exact rfl)))); (case hc => (simp only [Act.put, List.setIfInBounds_toArray, List.set_cons_zero, List.set_cons_succ]; first | done | exact rfl)); (try (case hj => rfl)))
  (refine' grow_call (u := .int .i64 TN) rfl Tryd.func19 (by kernel_rfl) rfl hGS rfl ?wt8 ?run8 ?put8 ?next8; (case wt8 => rfl); (case run8 => (intro w' hS H; exact vTurnG (G.out.old hS).g GN.out ETN.out)); (case put8 => (simp only [Act.put, List.setIfInBounds_toArray, List.set_cons_zero, List.set_cons_succ]; first | done | exact rfl)); (case' next8 => skip))
  iterate 3 ((first | (apply grow_skip; (case hf => rfl); (case hw => rfl)) | (apply grow_lit; (case hf => rfl); (case hw => rfl); (case hrun => (intro w' hS H; clear H; (obtain ⟨a0, a1, a2, -, -, -⟩ := (KA.out.keep hS).o3); clear hS; go_simp; first | done | exact rfl)))); (case hc => (simp only [Act.put, List.setIfInBounds_toArray, List.set_cons_zero, List.set_cons_succ]; first | done | exact rfl)); (try (case hj => rfl)))
  (refine' grow_call (u := .int .i64 TN) rfl Tryd.func20 (by kernel_rfl) rfl hGS rfl ?wt9 ?run9 ?put9 ?next9; (case wt9 => rfl); (case run9 => (intro w' hS H; exact rvturn (VA.out.below hS) GN.out.good ETN.out)); (case put9 => (simp only [Act.put, List.setIfInBounds_toArray, List.set_cons_zero, List.set_cons_succ]; first | done | exact rfl)); (case' next9 => skip))
  iterate 2 ((first | (apply grow_skip; (case hf => rfl); (case hw => rfl)) | (apply grow_lit; (case hf => rfl); (case hw => rfl); (case hrun => (intro w' hS H; clear H; (obtain ⟨a0, a1, a2, -, -, -⟩ := (KA.out.keep hS).o3); clear hS; go_simp; first | done | exact rfl)))); (case hc => (simp only [Act.put, List.setIfInBounds_toArray, List.set_cons_zero, List.set_cons_succ]; first | done | exact rfl)); (try (case hj => rfl)))
  intro w9 hb _
  clear hGS
  have hd_ : Below w6.heap.size w6 w9 := hb
  have KA_ := Lib.hid (KA.out.keep hd_)
  have VA_ := Lib.hid (VA.out.below hd_)
  have HG_ := Lib.hid (HG.out.keep hd_)
  have VX_ := Lib.hid (VX.out.below hd_)
  have G_ := Lib.hid (G.out.below hd_)
  have KW_ := Lib.hid (KW.out.keep hd_)
  have VW_ := Lib.hid (VW.out.below hd_)
  have B1 : Hid (Below w.heap.size w w9) := Lib.hid (B0.out.trans (hd_.mono B0.out.size))
  clear hb hd_ B0 KA VA HG VX G KW VW
  have KA := KA_
  have VA := VA_
  have HG := HG_
  have VX := VX_
  have G := G_
  have KW := KW_
  have VW := VW_
  have B0 := B1
  clear B1 KA_ VA_ HG_ VX_ G_ KW_ VW_
  go_wp2_with fail
  refine (vPlace0 G.out.g HT.out).mono ?_
  rintro e w7 ⟨rfl, hb⟩
  obtain ⟨p0, p1, p2, -, -, -⟩ := (KA.out.keep hb).o3
  go_wp2_with fail
  clear p0 p1 p2
  have hd7 : Below w9.heap.size w9 w7 := hb
  have KA_ := Lib.hid (KA.out.keep hd7)
  have VA_ := Lib.hid (VA.out.below hd7)
  have HG_ := Lib.hid (HG.out.keep hd7)
  have VX_ := Lib.hid (VX.out.below hd7)
  have G_ := Lib.hid (G.out.below hd7)
  have KW_ := Lib.hid (KW.out.keep hd7)
  have VW_ := Lib.hid (VW.out.below hd7)
  clear KA VA HG VX G KW VW
  have KA := KA_
  have VA := VA_
  have HG := HG_
  have VX := VX_
  have G := G_
  have KW := KW_
  have VW := VW_
  clear KA_ VA_ HG_ VX_ G_ KW_ VW_
  have B1 : Hid (Below w.heap.size w w7) := Lib.hid (B0.out.trans (hd7.mono B0.out.size))
  clear B0
  have B0 := B1
  clear B1
  clear hb hd7 
  refine (vthere VA.out HT.out).mono ?_
  rintro e w8 ⟨rfl, hb⟩
  go_wp2_with fail
  have hd8 : Below w7.heap.size w7 w8 := hb
  have KA_ := Lib.hid (KA.out.keep hd8)
  have VA_ := Lib.hid (VA.out.below hd8)
  have HG_ := Lib.hid (HG.out.keep hd8)
  have VX_ := Lib.hid (VX.out.below hd8)
  have G_ := Lib.hid (G.out.below hd8)
  have KW_ := Lib.hid (KW.out.keep hd8)
  have VW_ := Lib.hid (VW.out.below hd8)
  clear KA VA HG VX G KW VW
  have KA := KA_
  have VA := VA_
  have HG := HG_
  have VX := VX_
  have G := G_
  have KW := KW_
  have VW := VW_
  clear KA_ VA_ HG_ VX_ G_ KW_ VW_
  have B1 : Hid (Below w.heap.size w w8) := Lib.hid (B0.out.trans (hd8.mono B0.out.size))
  clear B0
  have B0 := B1
  clear B1
  clear hb hd8 
  refine (vFrom0 G.out.g HT.out).mono ?_
  rintro e w9 ⟨rfl, hb⟩
  go_wp2_with fail
  have hd9 : Below w8.heap.size w8 w9 := hb
  have KA_ := Lib.hid (KA.out.keep hd9)
  have VA_ := Lib.hid (VA.out.below hd9)
  have HG_ := Lib.hid (HG.out.keep hd9)
  have VX_ := Lib.hid (VX.out.below hd9)
  have G_ := Lib.hid (G.out.below hd9)
  have KW_ := Lib.hid (KW.out.keep hd9)
  have VW_ := Lib.hid (VW.out.below hd9)
  clear KA VA HG VX G KW VW
  have KA := KA_
  have VA := VA_
  have HG := HG_
  have VX := VX_
  have G := G_
  have KW := KW_
  have VW := VW_
  clear KA_ VA_ HG_ VX_ G_ KW_ VW_
  have B1 : Hid (Below w.heap.size w w9) := Lib.hid (B0.out.trans (hd9.mono B0.out.size))
  clear B0
  have B0 := B1
  clear B1
  clear hb hd9 
  refine (vTo0 G.out.g HT.out).mono ?_
  rintro e w10 ⟨rfl, hb⟩
  go_wp2_with fail
  have hd10 : Below w9.heap.size w9 w10 := hb
  have KA_ := Lib.hid (KA.out.keep hd10)
  have VA_ := Lib.hid (VA.out.below hd10)
  have HG_ := Lib.hid (HG.out.keep hd10)
  have VX_ := Lib.hid (VX.out.below hd10)
  have G_ := Lib.hid (G.out.below hd10)
  have KW_ := Lib.hid (KW.out.keep hd10)
  have VW_ := Lib.hid (VW.out.below hd10)
  clear KA VA HG VX G KW VW
  have KA := KA_
  have VA := VA_
  have HG := HG_
  have VX := VX_
  have G := G_
  have KW := KW_
  have VW := VW_
  clear KA_ VA_ HG_ VX_ G_ KW_ VW_
  have B1 : Hid (Below w.heap.size w w10) := Lib.hid (B0.out.trans (hd10.mono B0.out.size))
  clear B0
  have B0 := B1
  clear B1
  clear hb hd10 
  refine (vWeight0 G.out.g HT.out).mono ?_
  rintro e w11 ⟨rfl, hb⟩
  go_wp2_with fail
  have hd11 : Below w10.heap.size w10 w11 := hb
  have KA_ := Lib.hid (KA.out.keep hd11)
  have VA_ := Lib.hid (VA.out.below hd11)
  have HG_ := Lib.hid (HG.out.keep hd11)
  have VX_ := Lib.hid (VX.out.below hd11)
  have G_ := Lib.hid (G.out.below hd11)
  have KW_ := Lib.hid (KW.out.keep hd11)
  have VW_ := Lib.hid (VW.out.below hd11)
  clear KA VA HG VX G KW VW
  have KA := KA_
  have VA := VA_
  have HG := HG_
  have VX := VX_
  have G := G_
  have KW := KW_
  have VW := VW_
  clear KA_ VA_ HG_ VX_ G_ KW_ VW_
  have B1 : Hid (Below w.heap.size w w11) := Lib.hid (B0.out.trans (hd11.mono B0.out.size))
  clear B0
  have B0 := B1
  clear B1
  clear hb hd11 
  go_ret
  exact ⟨rfl, B0.out⟩

set_option maxHeartbeats 8000000 in
set_option maxRecDepth 100000 in
theorem gtells_in (v : Value) (n : NetD) (x : Int) (k : Nat) (b : Int) (w : World) (hg : ErrT w) (hv : NetV w v n) (hin : InNet n) (hf : fewN n = true) (hok : chkN n = fltOK) (hk : k < n.a.length) :
    Calls Tryd.prog 3 #[v, .int .i64 x, .int .i64 k, .int .i64 b] w fun e w' => e = .returned (.bool true) ∧ Below w.heap.size w w' := by
  obtain ⟨vq, aq, tq, vc, ac, tc, rfl, -⟩ := hv.shape
  have HF1 := Lib.hid hf
  have F1 := Lib.hid (few_of hf)
  have HIN := Lib.hid hin
  have HOK := Lib.hid hok
  have GN : Hid (GrN n) := Lib.hid ⟨good_of (by rw [hok]; rfl), few_of hf, hin⟩
  obtain ⟨TN, eTN⟩ : ∃ T, n.turn k b = T := ⟨_, rfl⟩
  have ETN := Lib.hid eTN
  clear hf hin hok eTN
  have HT : Hid (n.there k = true) := Lib.hid (there_at hk)
  obtain ⟨PX, ePX⟩ : ∃ x, inP n k = x := ⟨_, rfl⟩
  obtain ⟨PY, ePY⟩ : ∃ x, outP n k = x := ⟨_, rfl⟩
  have EPX := Lib.hid ePX
  have EPY := Lib.hid ePY
  have hki : (k : Int) < (n.a.length : Int) := by omega
  obtain ⟨AT, eAT⟩ : ∃ x, n.a[k].2.1 = x := ⟨_, rfl⟩
  obtain ⟨AF, eAF⟩ : ∃ x, n.a[k].1 = x := ⟨_, rfl⟩
  have QX : Hid (placeL (insL n.a AT) k = PX) := Lib.hid (by rw [← ePX, inP_at hk, eAT]; exact place_ins n.a hk eAT)
  have QY : Hid (placeL (outsL n.a AF) k = PY) := Lib.hid (by rw [← ePY, outP_at hk, eAF]; exact place_outs n.a hk eAF)
  have EAT := Lib.hid eAT
  have EAF := Lib.hid eAF
  clear ePX ePY eAT eAF
  go_enter Tryd.func3, Tryd.ntmps3
  go_wp2_with fail
  obtain ⟨W0, hW0⟩ := named (w.alloc (.cells #[.slice vq n.v.length vc, .slice aq n.a.length ac, .slice tq n.t.length tc] 26))
  rw [← hW0]
  have hc0 : Below w.heap.size w W0 := by rw [hW0]; exact below_alloc1 _
  have B0 := Lib.hid hc0
  have KA : Hid (Blk W0 (w.heap.size) #[.slice vq n.v.length vc, .slice aq n.a.length ac, .slice tq n.t.length tc] 26) := by rw [hW0]; exact Lib.hid (Blk.new _ _ _ _ rfl)
  have VA := Lib.hid (hv.below hc0)
  have HG := Lib.hid (hg.keep hc0)
  clear hc0 hW0 hv hg
  refine (known6_any _ HG.out).mono ?_
  rintro e w1 ⟨rfl, hb⟩
  obtain ⟨p0, p1, p2, -, -, -⟩ := (KA.out.keep hb).o3
  go_wp2_with fail
  clear p0 p1 p2
  have hd1 : Below W0.heap.size W0 w1 := hb
  have KA_ := Lib.hid (KA.out.keep hd1)
  have VA_ := Lib.hid (VA.out.below hd1)
  have HG_ := Lib.hid (HG.out.keep hd1)
  clear KA VA HG
  have KA := KA_
  have VA := VA_
  have HG := HG_
  clear KA_ VA_ HG_
  have B1 : Hid (Below w.heap.size w w1) := Lib.hid (B0.out.trans (hd1.mono B0.out.size))
  clear B0
  have B0 := B1
  clear B1
  clear hb hd1 
  refine (vfew VA.out HF1.out).mono ?_
  rintro e w2 ⟨rfl, hb⟩
  obtain ⟨p0, p1, p2, -, -, -⟩ := (KA.out.keep hb).o3
  go_wp2_with fail
  clear p0 p1 p2
  have hd2 : Below w1.heap.size w1 w2 := hb
  have KA_ := Lib.hid (KA.out.keep hd2)
  have VA_ := Lib.hid (VA.out.below hd2)
  have HG_ := Lib.hid (HG.out.keep hd2)
  clear KA VA HG
  have KA := KA_
  have VA := VA_
  have HG := HG_
  clear KA_ VA_ HG_
  have B1 : Hid (Below w.heap.size w w2) := Lib.hid (B0.out.trans (hd2.mono B0.out.size))
  clear B0
  have B0 := B1
  clear B1
  clear hb hd2 
  refine (vtoF VA.out F1.out).mono ?_
  rintro e w3 ⟨xv, rfl, hX, hb⟩
  go_wp2_with fail
  have hd3 : Below w2.heap.size w2 w3 := hb
  have KA_ := Lib.hid (KA.out.keep hd3)
  have VA_ := Lib.hid (VA.out.below hd3)
  have HG_ := Lib.hid (HG.out.keep hd3)
  clear KA VA HG
  have KA := KA_
  have VA := VA_
  have HG := HG_
  clear KA_ VA_ HG_
  have B1 : Hid (Below w.heap.size w w3) := Lib.hid (B0.out.trans (hd3.mono B0.out.size))
  clear B0
  have B0 := B1
  clear B1
  have VX := Lib.hid (hX)
  clear hb hX hd3 
  refine (vNewG B0.out VX.out GN.out HOK.out).mono ?_
  rintro e w4 ⟨p, va, vt, rfl, hG, hb⟩
  obtain ⟨p0, p1, p2, -, -, -⟩ := (KA.out.keep hb).o3
  go_wp2_with fail
  clear p0 p1 p2
  have hd4 : Below w3.heap.size w3 w4 := hb
  have KA_ := Lib.hid (KA.out.keep hd4)
  have VA_ := Lib.hid (VA.out.below hd4)
  have HG_ := Lib.hid (HG.out.keep hd4)
  have VX_ := Lib.hid (VX.out.below hd4)
  clear KA VA HG VX
  have KA := KA_
  have VA := VA_
  have HG := HG_
  have VX := VX_
  clear KA_ VA_ HG_ VX_
  have B1 : Hid (Below w.heap.size w w4) := Lib.hid (B0.out.trans (hd4.mono B0.out.size))
  clear B0
  have B0 := B1
  clear B1
  have G := Lib.hid (hG)
  clear hb hG hd4 
  refine (rvcheck (F := ([], 0)) VA.out HIN.out HOK.out).mono ?_
  rintro e w5 ⟨wv, rfl, hW, hb⟩
  obtain ⟨qw, mw, cw, rfl⟩ := hW.shape
  go_wp2_with fail
  obtain ⟨W5, hW5⟩ := named (w5.alloc (.cells #[.slice qw mw cw, .int .i64 0] 42))
  rw [← hW5]
  have hc5 : Below w5.heap.size w5 W5 := by rw [hW5]; exact below_alloc1 _
  have hd5 : Below w4.heap.size w4 W5 := hb.trans (hc5.mono hb.size)
  have KA_ := Lib.hid (KA.out.keep hd5)
  have VA_ := Lib.hid (VA.out.below hd5)
  have HG_ := Lib.hid (HG.out.keep hd5)
  have VX_ := Lib.hid (VX.out.below hd5)
  have G_ := Lib.hid (G.out.below hd5)
  clear KA VA HG VX G
  have KA := KA_
  have VA := VA_
  have HG := HG_
  have VX := VX_
  have G := G_
  clear KA_ VA_ HG_ VX_ G_
  have B1 : Hid (Below w.heap.size w W5) := Lib.hid (B0.out.trans (hd5.mono B0.out.size))
  clear B0
  have B0 := B1
  clear B1
  have KW : Hid (Blk W5 (w5.heap.size) #[.slice qw mw cw, .int .i64 0] 42) := by rw [hW5]; exact Lib.hid (Blk.new _ _ _ _ rfl)
  have VW := Lib.hid (hW.below hc5)
  clear hb hW hd5 hc5 hW5 
  refine (tells_post _ _ [] 0 _ HG.out (Or.inl ⟨rfl, rfl⟩) VW.out (Or.inl ⟨rfl, rfl⟩)).mono ?_
  rintro e w6 ⟨rfl, hb⟩
  obtain ⟨e0, e1, -, -⟩ := (KW.out.keep hb).o2
  go_wp2_with fail
  clear e0 e1
  have hd6 : Below W5.heap.size W5 w6 := hb
  have KA_ := Lib.hid (KA.out.keep hd6)
  have VA_ := Lib.hid (VA.out.below hd6)
  have HG_ := Lib.hid (HG.out.keep hd6)
  have VX_ := Lib.hid (VX.out.below hd6)
  have G_ := Lib.hid (G.out.below hd6)
  have KW_ := Lib.hid (KW.out.keep hd6)
  have VW_ := Lib.hid (VW.out.below hd6)
  clear KA VA HG VX G KW VW
  have KA := KA_
  have VA := VA_
  have HG := HG_
  have VX := VX_
  have G := G_
  have KW := KW_
  have VW := VW_
  clear KA_ VA_ HG_ VX_ G_ KW_ VW_
  have B1 : Hid (Below w.heap.size w w6) := Lib.hid (B0.out.trans (hd6.mono B0.out.size))
  clear B0
  have B0 := B1
  clear B1
  clear hb hd6 
  have hGS : Grows (fun w' => Below w6.heap.size w6 w') := Grows.below w6
  refine' wp_growL _ (fun w' => Below w6.heap.size w6 w') [[], [], [0, 1], [2], [3], [4], [4], [4, 5, 6], [4], [4], [4, 8, 9], [4, 7, 10], [4, 11], [4, 12], [13], [14], [14], [14, 15, 16], [14], [14], [14, 18, 19], [14, 17, 20], [14, 21], [14, 22], [23], [24], [24], [24], [24, 25, 26, 27], [24], [24], [24], [24, 29, 30, 31], [24, 28, 32], [24, 33]] (Fact.lit _ :: Fact.lit _ :: Fact.lit _ :: Fact.lit _ :: Fact.lit _ :: Fact.lit _ :: Fact.lit _ :: Fact.prop _ _ :: Fact.lit _ :: Fact.lit _ :: Fact.prop _ _ :: Fact.lit _ :: Fact.lit _ :: Fact.lit _ :: Fact.lit _ :: Fact.lit _ :: Fact.lit _ :: Fact.prop _ _ :: Fact.lit _ :: Fact.lit _ :: Fact.prop _ _ :: Fact.lit _ :: Fact.lit _ :: Fact.lit _ :: Fact.lit _ :: Fact.lit _ :: Fact.lit _ :: Fact.lit _ :: Fact.lit _ :: Fact.lit _ :: Fact.lit _ :: Fact.lit _ :: Fact.lit _ :: Fact.lit _ :: Fact.lit _ :: []) (by kernel_rfl) rfl (by kernel_rfl) (Below.refl _ _).drew ?seqgt1
  case' seqgt1 => skip
  iterate 2 ((first | (apply grow_skip; (case hf => rfl); (case hw => rfl)) | (apply grow_lit; (case hf => rfl); (case hw => rfl); (case hrun => (intro w' hS H; clear H; (obtain ⟨a0, a1, a2, -, -, -⟩ := (KA.out.keep hS).o3); clear hS; go_simp; first | done | exact rfl)))); (case hc => (simp only [Act.put, List.setIfInBounds_toArray, List.set_cons_zero, List.set_cons_succ]; first | done | exact rfl)); (try (case hj => rfl)))
  (refine' grow_call (u := .bool true) rfl Tryd.func13 (by kernel_rfl) rfl hGS rfl ?wt10 ?run10 ?put10 ?next10; (case wt10 => rfl); (case run10 => (intro w' hS H; exact same6_any (G.out.old hS).g GN.out (VA.out.below hS))); (case put10 => (simp only [Act.put, List.setIfInBounds_toArray, List.set_cons_zero, List.set_cons_succ]; first | done | exact rfl)); (case' next10 => skip))
  iterate 4 ((first | (apply grow_skip; (case hf => rfl); (case hw => rfl)) | (apply grow_lit; (case hf => rfl); (case hw => rfl); (case hrun => (intro w' hS H; clear H; (obtain ⟨a0, a1, a2, -, -, -⟩ := (KA.out.keep hS).o3); clear hS; go_simp; first | done | exact rfl)))); (case hc => (simp only [Act.put, List.setIfInBounds_toArray, List.set_cons_zero, List.set_cons_succ]; first | done | exact rfl)); (try (case hj => rfl)))
  (refine' grow_callP (p := fun v w => I64s w v (outsL n.a x)) (hp := fun v w w' h hb => h.below hb) rfl Tryd.func15 (by kernel_rfl) rfl hGS rfl ?wt11 ?run11 ?put11 ?next11; (case wt11 => rfl); (case run11 => (intro w' hS H; exact vOutsG (G.out.old hS).g GN.out x rfl)); (case put11 => (intro v; simp only [Act.put, List.setIfInBounds_toArray, List.set_cons_zero, List.set_cons_succ]; first | done | exact rfl)); (case' next11 => intro v7))
  iterate 2 ((first | (apply grow_skip; (case hf => rfl); (case hw => rfl)) | (apply grow_lit; (case hf => rfl); (case hw => rfl); (case hrun => (intro w' hS H; clear H; (obtain ⟨a0, a1, a2, -, -, -⟩ := (KA.out.keep hS).o3); clear hS; go_simp; first | done | exact rfl)))); (case hc => (simp only [Act.put, List.setIfInBounds_toArray, List.set_cons_zero, List.set_cons_succ]; first | done | exact rfl)); (try (case hj => rfl)))
  (refine' grow_callP (p := fun v w => I64s w v (outsL n.a x)) (hp := fun v w w' h hb => h.below hb) rfl Tryd.func16 (by kernel_rfl) rfl hGS rfl ?wt12 ?run12 ?put12 ?next12; (case wt12 => rfl); (case run12 => (intro w' hS H; exact rvouts (VA.out.below hS) GN.out.good x rfl)); (case put12 => (intro v; simp only [Act.put, List.setIfInBounds_toArray, List.set_cons_zero, List.set_cons_succ]; first | done | exact rfl)); (case' next12 => intro v10))
  (refine' grow_call (u := .bool true) rfl Tryd.func14 (by kernel_rfl) rfl hGS rfl ?wt13 ?run13 ?put13 ?next13; (case wt13 => rfl); (case run13 => (intro w' hS H; exact vsameI (l := outsL n.a x) (k := outsL n.a x) (H 7 (by decide)) (H 10 (by decide)) (decide_eq_true rfl))); (case put13 => (simp only [Act.put, List.setIfInBounds_toArray, List.set_cons_zero, List.set_cons_succ]; first | done | exact rfl)); (case' next13 => skip))
  iterate 5 ((first | (apply grow_skip; (case hf => rfl); (case hw => rfl)) | (apply grow_lit; (case hf => rfl); (case hw => rfl); (case hrun => (intro w' hS H; clear H; (obtain ⟨a0, a1, a2, -, -, -⟩ := (KA.out.keep hS).o3); clear hS; go_simp; first | done | exact rfl)))); (case hc => (simp only [Act.put, List.setIfInBounds_toArray, List.set_cons_zero, List.set_cons_succ]; first | done | exact rfl)); (try (case hj => rfl)))
  (refine' grow_callP (p := fun v w => I64s w v (insL n.a x)) (hp := fun v w w' h hb => h.below hb) rfl Tryd.func17 (by kernel_rfl) rfl hGS rfl ?wt14 ?run14 ?put14 ?next14; (case wt14 => rfl); (case run14 => (intro w' hS H; exact vInsG (G.out.old hS).g GN.out x rfl)); (case put14 => (intro v; simp only [Act.put, List.setIfInBounds_toArray, List.set_cons_zero, List.set_cons_succ]; first | done | exact rfl)); (case' next14 => intro v17))
  iterate 2 ((first | (apply grow_skip; (case hf => rfl); (case hw => rfl)) | (apply grow_lit; (case hf => rfl); (case hw => rfl); (case hrun => (intro w' hS H; clear H; (obtain ⟨a0, a1, a2, -, -, -⟩ := (KA.out.keep hS).o3); clear hS; go_simp; first | done | exact rfl)))); (case hc => (simp only [Act.put, List.setIfInBounds_toArray, List.set_cons_zero, List.set_cons_succ]; first | done | exact rfl)); (try (case hj => rfl)))
  (refine' grow_callP (p := fun v w => I64s w v (insL n.a x)) (hp := fun v w w' h hb => h.below hb) rfl Tryd.func18 (by kernel_rfl) rfl hGS rfl ?wt15 ?run15 ?put15 ?next15; (case wt15 => rfl); (case run15 => (intro w' hS H; exact rvins (VA.out.below hS) GN.out.good x rfl)); (case put15 => (intro v; simp only [Act.put, List.setIfInBounds_toArray, List.set_cons_zero, List.set_cons_succ]; first | done | exact rfl)); (case' next15 => intro v20))
  (refine' grow_call (u := .bool true) rfl Tryd.func14 (by kernel_rfl) rfl hGS rfl ?wt16 ?run16 ?put16 ?next16; (case wt16 => rfl); (case run16 => (intro w' hS H; exact vsameI (l := insL n.a x) (k := insL n.a x) (H 17 (by decide)) (H 20 (by decide)) (decide_eq_true rfl))); (case put16 => (simp only [Act.put, List.setIfInBounds_toArray, List.set_cons_zero, List.set_cons_succ]; first | done | exact rfl)); (case' next16 => skip))
  iterate 6 ((first | (apply grow_skip; (case hf => rfl); (case hw => rfl)) | (apply grow_lit; (case hf => rfl); (case hw => rfl); (case hrun => (intro w' hS H; clear H; (obtain ⟨a0, a1, a2, -, -, -⟩ := (KA.out.keep hS).o3); clear hS; go_simp; first | done | exact rfl)))); (case hc => (simp only [Act.put, List.setIfInBounds_toArray, List.set_cons_zero, List.set_cons_succ]; first | done | exact rfl)); (try (case hj => rfl)))
  (refine' grow_call (u := .int .i64 TN) rfl Tryd.func19 (by kernel_rfl) rfl hGS rfl ?wt17 ?run17 ?put17 ?next17; (case wt17 => rfl); (case run17 => (intro w' hS H; exact vTurnG (G.out.old hS).g GN.out ETN.out)); (case put17 => (simp only [Act.put, List.setIfInBounds_toArray, List.set_cons_zero, List.set_cons_succ]; first | done | exact rfl)); (case' next17 => skip))
  iterate 3 ((first | (apply grow_skip; (case hf => rfl); (case hw => rfl)) | (apply grow_lit; (case hf => rfl); (case hw => rfl); (case hrun => (intro w' hS H; clear H; (obtain ⟨a0, a1, a2, -, -, -⟩ := (KA.out.keep hS).o3); clear hS; go_simp; first | done | exact rfl)))); (case hc => (simp only [Act.put, List.setIfInBounds_toArray, List.set_cons_zero, List.set_cons_succ]; first | done | exact rfl)); (try (case hj => rfl)))
  (refine' grow_call (u := .int .i64 TN) rfl Tryd.func20 (by kernel_rfl) rfl hGS rfl ?wt18 ?run18 ?put18 ?next18; (case wt18 => rfl); (case run18 => (intro w' hS H; exact rvturn (VA.out.below hS) GN.out.good ETN.out)); (case put18 => (simp only [Act.put, List.setIfInBounds_toArray, List.set_cons_zero, List.set_cons_succ]; first | done | exact rfl)); (case' next18 => skip))
  iterate 2 ((first | (apply grow_skip; (case hf => rfl); (case hw => rfl)) | (apply grow_lit; (case hf => rfl); (case hw => rfl); (case hrun => (intro w' hS H; clear H; (obtain ⟨a0, a1, a2, -, -, -⟩ := (KA.out.keep hS).o3); clear hS; go_simp; first | done | exact rfl)))); (case hc => (simp only [Act.put, List.setIfInBounds_toArray, List.set_cons_zero, List.set_cons_succ]; first | done | exact rfl)); (try (case hj => rfl)))
  intro w9 hb _
  clear hGS
  have hd_ : Below w6.heap.size w6 w9 := hb
  have KA_ := Lib.hid (KA.out.keep hd_)
  have VA_ := Lib.hid (VA.out.below hd_)
  have HG_ := Lib.hid (HG.out.keep hd_)
  have VX_ := Lib.hid (VX.out.below hd_)
  have G_ := Lib.hid (G.out.below hd_)
  have KW_ := Lib.hid (KW.out.keep hd_)
  have VW_ := Lib.hid (VW.out.below hd_)
  have B1 : Hid (Below w.heap.size w w9) := Lib.hid (B0.out.trans (hd_.mono B0.out.size))
  clear hb hd_ B0 KA VA HG VX G KW VW
  have KA := KA_
  have VA := VA_
  have HG := HG_
  have VX := VX_
  have G := G_
  have KW := KW_
  have VW := VW_
  have B0 := B1
  clear B1 KA_ VA_ HG_ VX_ G_ KW_ VW_
  go_wp2_with fail
  refine (vPlace G.out.g hk (X := PX) (Y := PY) EPX.out EPY.out).mono ?_
  rintro e w7 ⟨rfl, hb⟩
  obtain ⟨p0, p1, p2, -, -, -⟩ := (KA.out.keep hb).o3
  go_wp2_with fail
  clear p0 p1 p2
  have hd7 : Below w9.heap.size w9 w7 := hb
  have KA_ := Lib.hid (KA.out.keep hd7)
  have VA_ := Lib.hid (VA.out.below hd7)
  have HG_ := Lib.hid (HG.out.keep hd7)
  have VX_ := Lib.hid (VX.out.below hd7)
  have G_ := Lib.hid (G.out.below hd7)
  have KW_ := Lib.hid (KW.out.keep hd7)
  have VW_ := Lib.hid (VW.out.below hd7)
  clear KA VA HG VX G KW VW
  have KA := KA_
  have VA := VA_
  have HG := HG_
  have VX := VX_
  have G := G_
  have KW := KW_
  have VW := VW_
  clear KA_ VA_ HG_ VX_ G_ KW_ VW_
  have B1 : Hid (Below w.heap.size w w7) := Lib.hid (B0.out.trans (hd7.mono B0.out.size))
  clear B0
  have B0 := B1
  clear B1
  clear hb hd7 
  refine (vthere (a := (k : Int)) VA.out HT.out).mono ?_
  rintro e w8 ⟨rfl, hb⟩
  go_wp2_with fail
  have hd8 : Below w7.heap.size w7 w8 := hb
  have KA_ := Lib.hid (KA.out.keep hd8)
  have VA_ := Lib.hid (VA.out.below hd8)
  have HG_ := Lib.hid (HG.out.keep hd8)
  have VX_ := Lib.hid (VX.out.below hd8)
  have G_ := Lib.hid (G.out.below hd8)
  have KW_ := Lib.hid (KW.out.keep hd8)
  have VW_ := Lib.hid (VW.out.below hd8)
  clear KA VA HG VX G KW VW
  have KA := KA_
  have VA := VA_
  have HG := HG_
  have VX := VX_
  have G := G_
  have KW := KW_
  have VW := VW_
  clear KA_ VA_ HG_ VX_ G_ KW_ VW_
  have B1 : Hid (Below w.heap.size w w8) := Lib.hid (B0.out.trans (hd8.mono B0.out.size))
  clear B0
  have B0 := B1
  clear B1
  clear hb hd8 
  obtain ⟨gb, go, eaq, x0, x1, -⟩ := VA.out.s.a.at hk
  rw [EAF.out] at x0
  rw [EAT.out] at x1
  subst eaq
  have X0 := Lib.hid x0
  have X1 := Lib.hid x1
  clear x0 x1
  have hGS : Grows (fun w' => Below w8.heap.size w8 w') := Grows.below w8
  refine' wp_growL _ (fun w' => Below w8.heap.size w8 w') [[], [], [], [2], [], [3, 4], [5], [6], [1, 7], [], [8, 9], [0, 10], [11], [12], [12], [12], [12, 15], [12], [12, 16, 17], [12, 18], [12, 19], [12, 14, 20], [12], [12, 21, 22], [12, 13, 23], [12, 24], [25]] (Fact.lit _ :: Fact.lit _ :: Fact.lit _ :: Fact.lit _ :: Fact.lit _ :: Fact.lit _ :: Fact.lit _ :: Fact.lit _ :: Fact.prop _ _ :: Fact.lit _ :: Fact.lit _ :: Fact.lit _ :: Fact.lit _ :: Fact.lit _ :: Fact.lit _ :: Fact.lit _ :: Fact.lit _ :: Fact.lit _ :: Fact.lit _ :: Fact.lit _ :: Fact.lit _ :: Fact.prop _ _ :: Fact.lit _ :: Fact.lit _ :: Fact.lit _ :: Fact.lit _ :: Fact.lit _ :: []) (by kernel_rfl) rfl (by kernel_rfl) (Below.refl _ _).drew ?seqgt2
  case' seqgt2 => skip
  iterate 8 ((first | (apply grow_skip; (case hf => rfl); (case hw => rfl)) | (apply grow_lit; (case hf => rfl); (case hw => rfl); (case hrun => (intro w' hS H; clear H; (obtain ⟨a0, a1, a2, -, -, -⟩ := (KA.out.keep hS).o3); (have x0 := keep hS X0.out); (have x1 := keep hS X1.out); (have hl0 := World.block_lt_of_cell? w' _ x0); clear hS; go_simp; first | done | exact rfl)))); (case hc => (simp only [Act.put, List.setIfInBounds_toArray, List.set_cons_zero, List.set_cons_succ]; first | done | exact rfl)); (try (case hj => rfl)))
  (refine' grow_callP (p := fun v w => I64s w v (insL n.a AT)) (hp := fun v w w' h hb => h.below hb) rfl Tryd.func18 (by kernel_rfl) rfl hGS rfl ?wt19 ?run19 ?put19 ?next19; (case wt19 => rfl); (case run19 => (intro w' hS H; exact rvins (VA.out.below hS) GN.out.good AT rfl)); (case put19 => (intro v; simp only [Act.put, List.setIfInBounds_toArray, List.set_cons_zero, List.set_cons_succ]; first | done | exact rfl)); (case' next19 => intro v8))
  iterate 1 ((first | (apply grow_skip; (case hf => rfl); (case hw => rfl)) | (apply grow_lit; (case hf => rfl); (case hw => rfl); (case hrun => (intro w' hS H; clear H; (obtain ⟨a0, a1, a2, -, -, -⟩ := (KA.out.keep hS).o3); (have x0 := keep hS X0.out); (have x1 := keep hS X1.out); (have hl0 := World.block_lt_of_cell? w' _ x0); clear hS; go_simp; first | done | exact rfl)))); (case hc => (simp only [Act.put, List.setIfInBounds_toArray, List.set_cons_zero, List.set_cons_succ]; first | done | exact rfl)); (try (case hj => rfl)))
  (refine' grow_call (u := .int .i64 PX) rfl Tryd.func26 (by kernel_rfl) rfl hGS rfl ?wt20 ?run20 ?put20 ?next20; (case wt20 => rfl); (case run20 => (intro w' hS H; (have h8 : I64s w' v8 (insL n.a AT) := H 8 (by decide)); exact (rplace_any v8 _ k w' h8).mono (fun e w2 h => ⟨h.1.trans (by rw [QX.out]), h.2 ▸ Below.refl _ _⟩))); (case put20 => (simp only [Act.put, List.setIfInBounds_toArray, List.set_cons_zero, List.set_cons_succ]; first | done | exact rfl)); (case' next20 => skip))
  iterate 10 ((first | (apply grow_skip; (case hf => rfl); (case hw => rfl)) | (apply grow_lit; (case hf => rfl); (case hw => rfl); (case hrun => (intro w' hS H; clear H; (obtain ⟨a0, a1, a2, -, -, -⟩ := (KA.out.keep hS).o3); (have x0 := keep hS X0.out); (have x1 := keep hS X1.out); (have hl0 := World.block_lt_of_cell? w' _ x0); clear hS; go_simp; first | done | exact rfl)))); (case hc => (simp only [Act.put, List.setIfInBounds_toArray, List.set_cons_zero, List.set_cons_succ]; first | done | exact rfl)); (try (case hj => rfl)))
  (refine' grow_callP (p := fun v w => I64s w v (outsL n.a AF)) (hp := fun v w w' h hb => h.below hb) rfl Tryd.func16 (by kernel_rfl) rfl hGS rfl ?wt21 ?run21 ?put21 ?next21; (case wt21 => rfl); (case run21 => (intro w' hS H; exact rvouts (VA.out.below hS) GN.out.good AF rfl)); (case put21 => (intro v; simp only [Act.put, List.setIfInBounds_toArray, List.set_cons_zero, List.set_cons_succ]; first | done | exact rfl)); (case' next21 => intro v21))
  iterate 1 ((first | (apply grow_skip; (case hf => rfl); (case hw => rfl)) | (apply grow_lit; (case hf => rfl); (case hw => rfl); (case hrun => (intro w' hS H; clear H; (obtain ⟨a0, a1, a2, -, -, -⟩ := (KA.out.keep hS).o3); (have x0 := keep hS X0.out); (have x1 := keep hS X1.out); (have hl0 := World.block_lt_of_cell? w' _ x0); clear hS; go_simp; first | done | exact rfl)))); (case hc => (simp only [Act.put, List.setIfInBounds_toArray, List.set_cons_zero, List.set_cons_succ]; first | done | exact rfl)); (try (case hj => rfl)))
  (refine' grow_call (u := .int .i64 PY) rfl Tryd.func26 (by kernel_rfl) rfl hGS rfl ?wt22 ?run22 ?put22 ?next22; (case wt22 => rfl); (case run22 => (intro w' hS H; (have h21 : I64s w' v21 (outsL n.a AF) := H 21 (by decide)); exact (rplace_any v21 _ k w' h21).mono (fun e w2 h => ⟨h.1.trans (by rw [QY.out]), h.2 ▸ Below.refl _ _⟩))); (case put22 => (simp only [Act.put, List.setIfInBounds_toArray, List.set_cons_zero, List.set_cons_succ]; first | done | exact rfl)); (case' next22 => skip))
  iterate 3 ((first | (apply grow_skip; (case hf => rfl); (case hw => rfl)) | (apply grow_lit; (case hf => rfl); (case hw => rfl); (case hrun => (intro w' hS H; clear H; (obtain ⟨a0, a1, a2, -, -, -⟩ := (KA.out.keep hS).o3); (have x0 := keep hS X0.out); (have x1 := keep hS X1.out); (have hl0 := World.block_lt_of_cell? w' _ x0); clear hS; go_simp; first | done | exact rfl)))); (case hc => (simp only [Act.put, List.setIfInBounds_toArray, List.set_cons_zero, List.set_cons_succ]; first | done | exact rfl)); (try (case hj => rfl)))
  intro w9 hb _
  have HF := Lib.hid (B0.out.trans (hb.mono B0.out.size))
  clear hb hGS
  go_wp2_with fail
  go_ret
  exact ⟨rfl, HF.out⟩

theorem gtells_walk (v : Value) (n : NetD) (x a b : Int) (w : World) (hg : ErrT w) (hv : NetV w v n) (hin : InNet n) (_ : -9223372036854775808 ≤ x) (_ : x ≤ 9223372036854775807) (_ : -9223372036854775808 ≤ a) (_ : a ≤ 9223372036854775807) (_ : -9223372036854775808 ≤ b) (_ : b ≤ 9223372036854775807) :
    Calls Tryd.prog 3 #[v, .int .i64 x, .int .i64 a, .int .i64 b] w fun e w' => e = .returned (.bool true) ∧ Below w.heap.size w w' := by
  cases hf : fewN n with
  | false => exact gtells_few v n x a b w hg hv hf
  | true =>
    rcases flt_or (n := n) with ⟨h1, h2⟩ | hO
    · have hok : chkN n = fltOK := Prod.ext h1 h2
      cases ht : n.there a with
      | false => exact gtells_out v n x a b w hg hv hin hf hok ht
      | true =>
        obtain ⟨k, rfl, hk⟩ := there_of ht
        exact gtells_in v n x k b w hg hv hin hf hok hk
    · exact gtells_bad v n x a b w hg hv hin hf _ rfl hO

set_option maxRecDepth 100000 in
theorem graphTells_walks : Walks laidAll 3 Tryd.f3 := by
  intro H enc W args ds g
  obtain ⟨ps, hA⟩ := g.reads
  obtain ⟨base, hval⟩ := g.okay
  rw [Tryd.params3] at hA hval
  obtain ⟨v0, vs0, d0, ds0, p0, q0, hargs, rfl, rfl, h0, r0⟩ := trodAll_cons hA
  obtain ⟨v1, vs1, d1, ds1, p1, q1, rfl, rfl, rfl, h1, r1⟩ := trodAll_cons r0
  obtain ⟨v2, vs2, d2, ds2, p2, q2, rfl, rfl, rfl, h2, r2⟩ := trodAll_cons r1
  obtain ⟨v3, vs3, d3, ds3, p3, q3, rfl, rfl, rfl, h3, r3⟩ := trodAll_cons r2
  obtain ⟨rfl, rfl, rfl⟩ := trodAll_nil r3
  obtain rfl : args = #[v0, v1, v2, v3] := Array.toList_inj.1 hargs
  obtain ⟨n0, w0, u0⟩ := open_net (hval 0 26 v0 rfl rfl) h0
  obtain ⟨x1, rfl, rfl, rfl, w1⟩ := open_int Tryd.underlying3 (hval 1 3 v1 rfl rfl) h1
  obtain ⟨x2, rfl, rfl, rfl, w2⟩ := open_int Tryd.underlying3 (hval 2 3 v2 rfl rfl) h2
  obtain ⟨x3, rfl, rfl, rfl, w3⟩ := open_int Tryd.underlying3 (hval 3 3 v3 rfl rfl) h3
  exact gtells_walk v0 n0 x1 x2 x3 W (errT_of_laid g.laid) w0 u0 (wf64 w1).1 (wf64 w1).2 (wf64 w2).1 (wf64 w2).2 (wf64 w3).1 (wf64 w3).2

theorem graphTells_row : Rows.GraphTellsSaid :=
  OpenClaim.holds_of_wide 3 Tryd.f3 rfl rfl rfl rfl rfl rfl rfl ⟨rfl, rfl, rfl, rfl, rfl⟩ rfl rfl rfl rfl rfl (by kernel_rfl) Tryd.func3 (by kernel_rfl)
    (of_decide_eq_true (by kernel_rfl)) (by unfold Func.isWrapper; rw [if_neg (of_decide_eq_false (by kernel_rfl))]; exact ⟨rfl, rfl⟩)
    (fun os started H enc _ => law_lifted (s := Rows.graphTellsSpec) (L := laidAll) Tryd.func3 (by kernel_rfl) rfl (by kernel_rfl)
      (fun H ds hl => by
        rw [Tryd.params3] at hl
        match ds, hl with
        | [_, _, _, _], _ => exact ⟨rfl, rfl, rfl⟩)
      (by kernel_rfl) os started H enc
      (ChangeSpec.witness_at (enc := enc) (C := Tryd.checked) (os := os) (X := fun w _ => laidMetH Tryd.prog laidAll w) false (laidWorld os) #[.agg #[.slice none 0 0, .slice none 0 0, .slice none 0 0], .int .i64 0, .int .i64 0, .int .i64 0] 8 rfl (by kernel_rfl) (by kernel_rfl) (by kernel_rfl) (by kernel_rfl) (by kernel_rfl) (laidWorld_met os _))
      graphTells_walks)

theorem graphTells_card : Rows.GraphTellsCardSaid :=
  Claim7.holds_tied_plain_at .later [] laidKindsAll true (Rows.graphTellsCard.stood.harness) true
    graphTells_row (fun _ h => by cases h) (by kernel_rfl) (fun _ h => by cases h) graphTells_row_tie rfl ⟨rfl, rfl⟩ (by kernel_rfl) rfl
    (fun f fn hf hfn => by
      obtain rfl : f = 3 := Option.some.inj ((show Tryd.prog.funcNamed "roundsman/roundsmanlaw6.GraphTells" = some 3 by kernel_rfl).symm.trans hf) |>.symm
      obtain rfl : fn = Tryd.f3 := (Option.some.inj (Tryd.func3.symm.trans hfn)).symm
      exact ⟨by kernel_rfl, fun j t ht => by
        rw [Tryd.params3] at ht
        exact stand_all #[26, 3, 3, 3] (by kernel_rfl) j t ht⟩)
    (by kernel_rfl)
#print axioms graphTells_card

end Go.Proofs.YtccnplfkpkfgmaaDoor
