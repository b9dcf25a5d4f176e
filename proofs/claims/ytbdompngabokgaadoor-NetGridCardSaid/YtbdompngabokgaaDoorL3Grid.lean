/-
  PROVED: of any net that may be: at each vertex its Type's table is what its arcs cost to turn, in by in, out by out. For every net. Conditions: the listed library variable holds what the program's own text lays (the card ties it).
-/
import Derived.Test.YtbdompngabokgaaDoorKnown3
import Derived.Test.YtbdompngabokgaaDoorNetIn
import Derived.Test.YtbdompngabokgaaDoorLaid2
import Derived.Test.YtbdompngabokgaaDoorCards
import Derived.Test.YtbdompngabokgaaDoorTie
import Derived.SevenTiedAt
import Derived.Test.YtbdompngabokgaaDoorA1
import Derived.Test.YtbdompngabokgaaDoorOwnT
namespace Go.Proofs.YtbdompngabokgaaDoor
open Go.ChangeShapes Go.WideShapes Go.ChangeAt Go.RowKit

set_option maxHeartbeats 8000000 in
set_option maxRecDepth 100000 in
theorem grid_no (v : Value) (n : NetD) (w : World) (hg : ErrT w) (hv : NetV w v n) (hin : InNet n) (hm : mayN n = false) :
    Calls Tryd.prog 6 #[v] w fun e w' => e = .returned (.bool true) ∧ Below w.heap.size w w' := by
  obtain ⟨vq, aq, tq, vc, ac, tc, rfl, -⟩ := hv.shape
  have HM := Lib.hid hm
  have HIN := Lib.hid hin
  clear hm hin
  go_enter Tryd.func6, Tryd.ntmps6
  go_wp2_with fail
  obtain ⟨W0, hW0⟩ := named (w.alloc (.cells #[.slice vq n.v.length vc, .slice aq n.a.length ac, .slice tq n.t.length tc] 26))
  rw [← hW0]
  have hc0 : Below w.heap.size w W0 := by rw [hW0]; exact below_alloc1 _
  have B0 := Lib.hid hc0
  have KA : Hid (Blk W0 (w.heap.size) #[.slice vq n.v.length vc, .slice aq n.a.length ac, .slice tq n.t.length tc] 26) := by rw [hW0]; exact Lib.hid (Blk.new _ _ _ _ rfl)
  have VA := Lib.hid (hv.below hc0)
  have HG := Lib.hid (hg.keep hc0)
  clear hc0 hW0 hv hg
  refine (known3_any _ HG.out).mono ?_
  rintro e w1 ⟨rfl, hb⟩
  obtain ⟨p0, p1, p2, -, -, -⟩ := (KA.out.keep hb).o3
  go_wp2_with fail
  clear p0 p1 p2
  have hd1 : Below W0.heap.size W0 w1 := hb
  have KA_ := Lib.hid (KA.out.keep hd1)
  have VA_ := Lib.hid (VA.out.below hd1)
  have HG_ := Lib.hid (HG.out.keep hd1)
  clear KA VA HG
  have KA := KA_
  have VA := VA_
  have HG := HG_
  clear KA_ VA_ HG_
  have B1 : Hid (Below w.heap.size w w1) := Lib.hid (B0.out.trans (hd1.mono B0.out.size))
  clear B0
  have B0 := B1
  clear B1
  clear hb hd1 
  refine (vmay VA.out HIN.out HM.out).mono ?_
  rintro e w2 ⟨rfl, hb⟩
  obtain ⟨p0, p1, p2, -, -, -⟩ := (KA.out.keep hb).o3
  go_wp2_with fail
  clear p0 p1 p2
  have hd2 : Below w1.heap.size w1 w2 := hb
  have KA_ := Lib.hid (KA.out.keep hd2)
  have VA_ := Lib.hid (VA.out.below hd2)
  have HG_ := Lib.hid (HG.out.keep hd2)
  clear KA VA HG
  have KA := KA_
  have VA := VA_
  have HG := HG_
  clear KA_ VA_ HG_
  have B1 : Hid (Below w.heap.size w w2) := Lib.hid (B0.out.trans (hd2.mono B0.out.size))
  clear B0
  have B0 := B1
  clear B1
  clear hb hd2 
  go_ret
  exact ⟨rfl, B0.out⟩

set_option maxHeartbeats 8000000 in
set_option maxRecDepth 100000 in
theorem grid_yes (v : Value) (n : NetD) (w : World) (hg : ErrT w) (hv : NetV w v n) (hin : InNet n) (hm : mayN n = true) :
    Calls Tryd.prog 6 #[v] w fun e w' => e = .returned (.bool true) ∧ Below w.heap.size w w' := by
  obtain ⟨vq, aq, tq, vc, ac, tc, rfl, -⟩ := hv.shape
  have HM := Lib.hid hm
  obtain ⟨hf, hk, hgd⟩ := may_of hm
  have F1 := Lib.hid hf
  have OK := Lib.hid hk
  have GD := Lib.hid hgd
  have HIN := Lib.hid hin
  clear hm hin hf hk hgd
  go_enter Tryd.func6, Tryd.ntmps6
  go_wp2_with fail
  obtain ⟨W0, hW0⟩ := named (w.alloc (.cells #[.slice vq n.v.length vc, .slice aq n.a.length ac, .slice tq n.t.length tc] 26))
  rw [← hW0]
  have hc0 : Below w.heap.size w W0 := by rw [hW0]; exact below_alloc1 _
  have B0 := Lib.hid hc0
  have KA : Hid (Blk W0 (w.heap.size) #[.slice vq n.v.length vc, .slice aq n.a.length ac, .slice tq n.t.length tc] 26) := by rw [hW0]; exact Lib.hid (Blk.new _ _ _ _ rfl)
  have VA := Lib.hid (hv.below hc0)
  have HG := Lib.hid (hg.keep hc0)
  clear hc0 hW0 hv hg
  refine (known3_any _ HG.out).mono ?_
  rintro e w1 ⟨rfl, hb⟩
  obtain ⟨p0, p1, p2, -, -, -⟩ := (KA.out.keep hb).o3
  go_wp2_with fail
  clear p0 p1 p2
  have hd1 : Below W0.heap.size W0 w1 := hb
  have KA_ := Lib.hid (KA.out.keep hd1)
  have VA_ := Lib.hid (VA.out.below hd1)
  have HG_ := Lib.hid (HG.out.keep hd1)
  clear KA VA HG
  have KA := KA_
  have VA := VA_
  have HG := HG_
  clear KA_ VA_ HG_
  have B1 : Hid (Below w.heap.size w w1) := Lib.hid (B0.out.trans (hd1.mono B0.out.size))
  clear B0
  have B0 := B1
  clear B1
  clear hb hd1 
  refine (vmay VA.out HIN.out HM.out).mono ?_
  rintro e w2 ⟨rfl, hb⟩
  obtain ⟨p0, p1, p2, -, -, -⟩ := (KA.out.keep hb).o3
  go_wp2_with fail
  clear p0 p1 p2
  have hd2 : Below w1.heap.size w1 w2 := hb
  have KA_ := Lib.hid (KA.out.keep hd2)
  have VA_ := Lib.hid (VA.out.below hd2)
  have HG_ := Lib.hid (HG.out.keep hd2)
  clear KA VA HG
  have KA := KA_
  have VA := VA_
  have HG := HG_
  clear KA_ VA_ HG_
  have B1 : Hid (Below w.heap.size w w2) := Lib.hid (B0.out.trans (hd2.mono B0.out.size))
  clear B0
  have B0 := B1
  clear B1
  clear hb hd2 
  refine (vtoF VA.out F1.out).mono ?_
  rintro e w3 ⟨xv, rfl, hX, hb⟩
  obtain ⟨xq, xa, xt, xvc, xac, xtc, rfl, -⟩ := hX.shape
  go_wp2_with fail
  obtain ⟨W3, hW3⟩ := named (w3.alloc (.cells #[.slice xq n.v.length xvc, .slice xa n.a.length xac, .slice xt n.t.length xtc] 37))
  rw [← hW3]
  have hc3 : Below w3.heap.size w3 W3 := by rw [hW3]; exact below_alloc1 _
  have hd3 : Below w2.heap.size w2 W3 := hb.trans (hc3.mono hb.size)
  have KA_ := Lib.hid (KA.out.keep hd3)
  have VA_ := Lib.hid (VA.out.below hd3)
  have HG_ := Lib.hid (HG.out.keep hd3)
  clear KA VA HG
  have KA := KA_
  have VA := VA_
  have HG := HG_
  clear KA_ VA_ HG_
  have B1 : Hid (Below w.heap.size w W3) := Lib.hid (B0.out.trans (hd3.mono B0.out.size))
  clear B0
  have B0 := B1
  clear B1
  have KX : Hid (Blk W3 (w3.heap.size) #[.slice xq n.v.length xvc, .slice xa n.a.length xac, .slice xt n.t.length xtc] 37) := by rw [hW3]; exact Lib.hid (Blk.new _ _ _ _ rfl)
  have VX := Lib.hid (hX.below hc3)
  clear hb hX hd3 hc3 hW3 
  go_loopw [4, 5, 6, 7, 8, 9, 10] (fun a v _ _ _ _ _ wr => ∃ k : Nat, k ≤ n.v.length ∧ v = .int .i64 k ∧ a = .int .i64 (outsTo n.a k) ∧ Hid (Below W3.heap.size W3 wr)) (fun _ v _ _ _ _ _ _ => n.v.length - (intOf v).toNat)
  case atStart => exact ⟨0, Nat.zero_le _, rfl, by rw [outsTo_zero], Lib.hid (Below.refl _ _)⟩
  case round =>
    obtain ⟨k, hk, rfl, rfl, HBr⟩ := hrel
    have KAr := Lib.hid (KA.out.keep HBr.out)
    have KXr := Lib.hid (KX.out.keep HBr.out)
    have BWr := Lib.hid (B0.out.trans (HBr.out.mono B0.out.size))
    have hsv := GD.out.sv
    have hsa := GD.out.sa
    obtain ⟨OT, eOT⟩ : ∃ O, outsTo n.a k = O := ⟨_, rfl⟩
    have hot := outsTo_bd n.a k
    rw [eOT] at hot
    have EOT := Lib.hid eOT
    rw [eOT]
    obtain ⟨ot0, ot1⟩ := hot
    clear eOT
    obtain ⟨a0, a1, a2, -, -, -⟩ := KAr.out.o3
    by_cases hlt : k < n.v.length
    · have hli : (k : Int) < (n.v.length : Int) := by omega
      go_wp2_with fail
      clear a0 a1 a2
      have hGS : Grows (fun w' => Below wr.heap.size wr w') := Grows.below wr
      refine' wp_growL _ (fun w' => Below wr.heap.size wr w') [[], [], [0, 1], [], [], [3, 4], [2], [5]] (Fact.lit _ :: Fact.lit _ :: Fact.prop _ _ :: Fact.lit _ :: Fact.lit _ :: Fact.prop _ _ :: Fact.prop _ _ :: Fact.prop _ _ :: []) (by kernel_rfl) rfl (by kernel_rfl) (Below.refl _ _).drew ?seqten
      case' seqten => skip
      (first | (refine' grow_skip rfl ?wt905 ?put905 ?next905; (case wt905 => rfl)) | (refine' grow_lit rfl ?wt905 ?run905 ?put905 ?next905; (case wt905 => rfl); (case run905 => (intro w' hS H; clear H; (obtain ⟨x0, x1, x2, -, -, -⟩ := (KXr.out.keep hS).o3); clear hS; go_simp; first | done | exact rfl)))); (case put905 => (simp only [Act.put, List.setIfInBounds_toArray, List.set_cons_zero, List.set_cons_succ]; first | done | exact rfl)); (case' next905 => skip)
      (first | (refine' grow_skip rfl ?wt906 ?put906 ?next906; (case wt906 => rfl)) | (refine' grow_lit rfl ?wt906 ?run906 ?put906 ?next906; (case wt906 => rfl); (case run906 => (intro w' hS H; clear H; (obtain ⟨x0, x1, x2, -, -, -⟩ := (KXr.out.keep hS).o3); clear hS; go_simp; first | done | exact rfl)))); (case put906 => (simp only [Act.put, List.setIfInBounds_toArray, List.set_cons_zero, List.set_cons_succ]; first | done | exact rfl)); (case' next906 => skip)
      (refine' grow_callP (p := fun v w => I64s w v (insL n.a k)) (hp := fun v w w' h hb => h.below hb) rfl Tryd.func20 (by kernel_rfl) rfl hGS rfl ?wt932 ?run932 ?put932 ?next932; (case wt932 => rfl); (case run932 => (intro w' hS H; exact vins (VX.out.below (HBr.out.trans (hS.mono HBr.out.size))) GD.out k rfl)); (case put932 => (intro v; simp only [Act.put, List.setIfInBounds_toArray, List.set_cons_zero, List.set_cons_succ]; first | done | exact rfl)); (case' next932 => intro v2))
      (first | (refine' grow_skip rfl ?wt907 ?put907 ?next907; (case wt907 => rfl)) | (refine' grow_lit rfl ?wt907 ?run907 ?put907 ?next907; (case wt907 => rfl); (case run907 => (intro w' hS H; clear H; (obtain ⟨x0, x1, x2, -, -, -⟩ := (KXr.out.keep hS).o3); clear hS; go_simp; first | done | exact rfl)))); (case put907 => (simp only [Act.put, List.setIfInBounds_toArray, List.set_cons_zero, List.set_cons_succ]; first | done | exact rfl)); (case' next907 => skip)
      (first | (refine' grow_skip rfl ?wt908 ?put908 ?next908; (case wt908 => rfl)) | (refine' grow_lit rfl ?wt908 ?run908 ?put908 ?next908; (case wt908 => rfl); (case run908 => (intro w' hS H; clear H; (obtain ⟨x0, x1, x2, -, -, -⟩ := (KXr.out.keep hS).o3); clear hS; go_simp; first | done | exact rfl)))); (case put908 => (simp only [Act.put, List.setIfInBounds_toArray, List.set_cons_zero, List.set_cons_succ]; first | done | exact rfl)); (case' next908 => skip)
      (refine' grow_callP (p := fun v w => I64s w v (outsL n.a k)) (hp := fun v w w' h hb => h.below hb) rfl Tryd.func22 (by kernel_rfl) rfl hGS rfl ?wt933 ?run933 ?put933 ?next933; (case wt933 => rfl); (case run933 => (intro w' hS H; exact vouts (VX.out.below (HBr.out.trans (hS.mono HBr.out.size))) GD.out k rfl)); (case put933 => (intro v; simp only [Act.put, List.setIfInBounds_toArray, List.set_cons_zero, List.set_cons_succ]; first | done | exact rfl)); (case' next933 => intro v5))
      (refine' grow_prop (p := fun v w => I64s w v (insL n.a k)) (hp := fun v w w' h hb => h.below hb) rfl ?wtas6 ?runas6 ?putas6 ?nextas6; (case wtas6 => rfl); (case runas6 => (intro w' hS H; refine ⟨v2, ?_, H 2 (by decide)⟩; clear H hS; go_simp)); (case putas6 => (intro v; simp only [Act.put, List.setIfInBounds_toArray, List.set_cons_zero, List.set_cons_succ]; first | done | exact rfl)); (case' nextas6 => intro v6))
      (refine' grow_prop (p := fun v w => I64s w v (outsL n.a k)) (hp := fun v w w' h hb => h.below hb) rfl ?wtas7 ?runas7 ?putas7 ?nextas7; (case wtas7 => rfl); (case runas7 => (intro w' hS H; refine ⟨v5, ?_, H 5 (by decide)⟩; clear H hS; go_simp)); (case putas7 => (intro v; simp only [Act.put, List.setIfInBounds_toArray, List.set_cons_zero, List.set_cons_succ]; first | done | exact rfl)); (case' nextas7 => intro v7))
      intro w10 hb hk'
      have h6 : I64s w10 v6 (insL n.a k) := hk' 6 (by decide)
      have h7 : I64s w10 v7 (outsL n.a k) := hk' 7 (by decide)
      obtain ⟨iq, ic, rfl⟩ := h6.shape
      obtain ⟨oq, oc, rfl⟩ := h7.shape
      have RI := Lib.hid h6
      have RO := Lib.hid h7
      have HBt := Lib.hid (HBr.out.trans (hb.mono HBr.out.size))
      clear hk' hb h6 h7 hGS KAr KXr BWr HBr
      have HBr := HBt
      clear HBt
      have KAr := Lib.hid (KA.out.keep HBr.out)
      have KXr := Lib.hid (KX.out.keep HBr.out)
      have BWr := Lib.hid (B0.out.trans (HBr.out.mono B0.out.size))
      obtain ⟨-, -, g2, g3⟩ := GD.out.verts k hlt
      obtain ⟨kt, ekt, hkt⟩ := nat_of' g2 g3
      have hti : (kt : Int) < (n.t.length : Int) := by omega
      obtain ⟨vb, vo, rfl, -, -, xv⟩ := (NetV.s VA.out |>.below HBr.out).v.at hlt
      obtain ⟨tb, tz, tu, rfl, y0, y1, y2, yt⟩ := (NetV.s VA.out |>.below HBr.out).t.at hkt
      rw [ekt] at xv
      have hck := GD.out.tabs kt hkt
      have hdg := GD.out.degs k hlt
      have htb := NetGood.tab_at (n := n) kt hkt
      rw [ekt, htb] at hdg
      have hgrid := fun (i j : Nat) (hi : i < (insL n.a k).length) (hj : j < (outsL n.a k).length) => turn_grid hlt ekt hkt hi hj
      have hlc := F1.out.c n.t[kt] (List.getElem_mem _)
      obtain ⟨⟨I, O, l⟩, eT⟩ : ∃ T, n.t[kt] = T := ⟨_, rfl⟩
      rw [eT] at y0 y1 yt hck hdg hgrid hlc
      simp only [] at y0 y1 yt hck hdg hgrid hlc
      obtain ⟨uq, uc, rfl⟩ := yt.shape
      obtain ⟨s0, s1, s2, s3, hn, -⟩ := chkT_ok (I := I) (O := O) (l := l) (by rw [hck])
      have HCK := Lib.hid (And.intro s0 (And.intro s1 (And.intro s2 s3)))
      have HLN := Lib.hid hn
      have HGR := Lib.hid hgrid
      have hIl : ((insL n.a k).length : Int) = I := by rw [insL_len, hdg.2.2.1]
      have hOl : ((outsL n.a k).length : Int) = O := by rw [outsL_len, hdg.2.2.2]
      have HOL := Lib.hid hOl
      have hb1 := World.block_lt_of_cell? w10 _ xv
      have hb2 := World.block_lt_of_cell? w10 _ y0
      have HBB := Lib.hid (And.intro hb1 hb2)
      have XV := Lib.hid xv
      have Y0 := Lib.hid y0
      have Y1 := Lib.hid y1
      have Y2 := Lib.hid y2
      have YT := Lib.hid yt
      clear g2 g3 ekt xv y0 y1 y2 yt hck hdg htb hgrid eT s0 s1 s2 s3 hn hb1 hb2
      go_wp2_with fail
      have hGS : Grows (fun w' => Below w10.heap.size w10 w') := Grows.below w10
      refine' wp_thenL _ 12 (fun w' => Below w10.heap.size w10 w') [[], [0], [], [2], [], [2, 3, 4], [2, 3, 4, 5], [2, 3, 4, 5, 6], [0, 1, 2, 3, 4, 5, 6, 7], [0, 1, 2, 3, 4, 5, 6, 7, 8], [0, 1, 2, 3, 4, 5, 6, 7, 8, 9], []] (Fact.lit _ :: Fact.lit _ :: Fact.lit _ :: Fact.lit _ :: Fact.lit _ :: Fact.lit _ :: Fact.lit _ :: Fact.lit _ :: Fact.lit _ :: Fact.lit _ :: Fact.prop _ _ :: Fact.fresh _ _ :: []) (by kernel_rfl) rfl (by kernel_rfl) (Below.refl _ _).drew ?seqel
      case' seqel => skip
      (first | (refine' grow_skip rfl ?wt909 ?put909 ?next909; (case wt909 => rfl)) | (refine' grow_lit rfl ?wt909 ?run909 ?put909 ?next909; (case wt909 => rfl); (case run909 => (intro w' hS H; clear H; (obtain ⟨a0, a1, a2, -, -, -⟩ := (KAr.out.keep hS).o3); (have xv := keep hS XV.out); (have y0 := keep hS Y0.out); (have y1 := keep hS Y1.out); (have y2 := keep hS Y2.out); (obtain ⟨z1, z2⟩ := HBB.out); clear hS; go_simp; first | done | exact rfl)))); (case put909 => (simp only [Act.put, List.setIfInBounds_toArray, List.set_cons_zero, List.set_cons_succ]; first | done | exact rfl)); (case' next909 => skip)
      (first | (refine' grow_skip rfl ?wt910 ?put910 ?next910; (case wt910 => rfl)) | (refine' grow_lit rfl ?wt910 ?run910 ?put910 ?next910; (case wt910 => rfl); (case run910 => (intro w' hS H; clear H; (obtain ⟨a0, a1, a2, -, -, -⟩ := (KAr.out.keep hS).o3); (have xv := keep hS XV.out); (have y0 := keep hS Y0.out); (have y1 := keep hS Y1.out); (have y2 := keep hS Y2.out); (obtain ⟨z1, z2⟩ := HBB.out); clear hS; go_simp; first | done | exact rfl)))); (case put910 => (simp only [Act.put, List.setIfInBounds_toArray, List.set_cons_zero, List.set_cons_succ]; first | done | exact rfl)); (case' next910 => skip)
      (first | (refine' grow_skip rfl ?wt911 ?put911 ?next911; (case wt911 => rfl)) | (refine' grow_lit rfl ?wt911 ?run911 ?put911 ?next911; (case wt911 => rfl); (case run911 => (intro w' hS H; clear H; (obtain ⟨a0, a1, a2, -, -, -⟩ := (KAr.out.keep hS).o3); (have xv := keep hS XV.out); (have y0 := keep hS Y0.out); (have y1 := keep hS Y1.out); (have y2 := keep hS Y2.out); (obtain ⟨z1, z2⟩ := HBB.out); clear hS; go_simp; first | done | exact rfl)))); (case put911 => (simp only [Act.put, List.setIfInBounds_toArray, List.set_cons_zero, List.set_cons_succ]; first | done | exact rfl)); (case' next911 => skip)
      (first | (refine' grow_skip rfl ?wt912 ?put912 ?next912; (case wt912 => rfl)) | (refine' grow_lit rfl ?wt912 ?run912 ?put912 ?next912; (case wt912 => rfl); (case run912 => (intro w' hS H; clear H; (obtain ⟨a0, a1, a2, -, -, -⟩ := (KAr.out.keep hS).o3); (have xv := keep hS XV.out); (have y0 := keep hS Y0.out); (have y1 := keep hS Y1.out); (have y2 := keep hS Y2.out); (obtain ⟨z1, z2⟩ := HBB.out); clear hS; go_simp; first | done | exact rfl)))); (case put912 => (simp only [Act.put, List.setIfInBounds_toArray, List.set_cons_zero, List.set_cons_succ]; first | done | exact rfl)); (case' next912 => skip)
      (first | (refine' grow_skip rfl ?wt913 ?put913 ?next913; (case wt913 => rfl)) | (refine' grow_lit rfl ?wt913 ?run913 ?put913 ?next913; (case wt913 => rfl); (case run913 => (intro w' hS H; clear H; (obtain ⟨a0, a1, a2, -, -, -⟩ := (KAr.out.keep hS).o3); (have xv := keep hS XV.out); (have y0 := keep hS Y0.out); (have y1 := keep hS Y1.out); (have y2 := keep hS Y2.out); (obtain ⟨z1, z2⟩ := HBB.out); clear hS; go_simp; first | done | exact rfl)))); (case put913 => (simp only [Act.put, List.setIfInBounds_toArray, List.set_cons_zero, List.set_cons_succ]; first | done | exact rfl)); (case' next913 => skip)
      (first | (refine' grow_skip rfl ?wt914 ?put914 ?next914; (case wt914 => rfl)) | (refine' grow_lit rfl ?wt914 ?run914 ?put914 ?next914; (case wt914 => rfl); (case run914 => (intro w' hS H; clear H; (obtain ⟨a0, a1, a2, -, -, -⟩ := (KAr.out.keep hS).o3); (have xv := keep hS XV.out); (have y0 := keep hS Y0.out); (have y1 := keep hS Y1.out); (have y2 := keep hS Y2.out); (obtain ⟨z1, z2⟩ := HBB.out); clear hS; go_simp; first | done | exact rfl)))); (case put914 => (simp only [Act.put, List.setIfInBounds_toArray, List.set_cons_zero, List.set_cons_succ]; first | done | exact rfl)); (case' next914 => skip)
      (first | (refine' grow_skip rfl ?wt915 ?put915 ?next915; (case wt915 => rfl)) | (refine' grow_lit rfl ?wt915 ?run915 ?put915 ?next915; (case wt915 => rfl); (case run915 => (intro w' hS H; clear H; (obtain ⟨a0, a1, a2, -, -, -⟩ := (KAr.out.keep hS).o3); (have xv := keep hS XV.out); (have y0 := keep hS Y0.out); (have y1 := keep hS Y1.out); (have y2 := keep hS Y2.out); (obtain ⟨z1, z2⟩ := HBB.out); clear hS; go_simp; first | done | exact rfl)))); (case put915 => (simp only [Act.put, List.setIfInBounds_toArray, List.set_cons_zero, List.set_cons_succ]; first | done | exact rfl)); (case' next915 => skip)
      (first | (refine' grow_skip rfl ?wt916 ?put916 ?next916; (case wt916 => rfl)) | (refine' grow_lit rfl ?wt916 ?run916 ?put916 ?next916; (case wt916 => rfl); (case run916 => (intro w' hS H; clear H; (obtain ⟨a0, a1, a2, -, -, -⟩ := (KAr.out.keep hS).o3); (have xv := keep hS XV.out); (have y0 := keep hS Y0.out); (have y1 := keep hS Y1.out); (have y2 := keep hS Y2.out); (obtain ⟨z1, z2⟩ := HBB.out); clear hS; go_simp; first | done | exact rfl)))); (case put916 => (simp only [Act.put, List.setIfInBounds_toArray, List.set_cons_zero, List.set_cons_succ]; first | done | exact rfl)); (case' next916 => skip)
      (first | (refine' grow_skip rfl ?wt917 ?put917 ?next917; (case wt917 => rfl)) | (refine' grow_lit rfl ?wt917 ?run917 ?put917 ?next917; (case wt917 => rfl); (case run917 => (intro w' hS H; clear H; (obtain ⟨a0, a1, a2, -, -, -⟩ := (KAr.out.keep hS).o3); (have xv := keep hS XV.out); (have y0 := keep hS Y0.out); (have y1 := keep hS Y1.out); (have y2 := keep hS Y2.out); (obtain ⟨z1, z2⟩ := HBB.out); clear hS; go_simp; first | done | exact rfl)))); (case put917 => (simp only [Act.put, List.setIfInBounds_toArray, List.set_cons_zero, List.set_cons_succ]; first | done | exact rfl)); (case' next917 => skip)
      (first | (refine' grow_skip rfl ?wt918 ?put918 ?next918; (case wt918 => rfl)) | (refine' grow_lit rfl ?wt918 ?run918 ?put918 ?next918; (case wt918 => rfl); (case run918 => (intro w' hS H; clear H; (obtain ⟨a0, a1, a2, -, -, -⟩ := (KAr.out.keep hS).o3); (have xv := keep hS XV.out); (have y0 := keep hS Y0.out); (have y1 := keep hS Y1.out); (have y2 := keep hS Y2.out); (obtain ⟨z1, z2⟩ := HBB.out); clear hS; go_simp; first | done | exact rfl)))); (case put918 => (simp only [Act.put, List.setIfInBounds_toArray, List.set_cons_zero, List.set_cons_succ]; first | done | exact rfl)); (case' next918 => skip)
      (refine' grow_callP (p := fun v w => TabR w v I O l) (hp := fun v w w' h hb => h.below hb) rfl Tryd.func30 (by kernel_rfl) rfl hGS rfl ?wt934 ?run934 ?put934 ?next934; (case wt934 => rfl); (case run934 => (intro w' hS H; exact (to_own I O _ l w' (by omega) (YT.out.below hS)).mono (fun e w2 ⟨v, h1, h2, h3⟩ => ⟨v, h1, h2.tabR, h3⟩))); (case put934 => (intro v; simp only [Act.put, List.setIfInBounds_toArray, List.set_cons_zero, List.set_cons_succ]; first | done | exact rfl)); (case' next934 => intro v10))
      (refine' grow_fresh (p := PtrTab w10) (hp := fun v w w' h hb => h.below hb) hGS rfl ?wtfr11 ?runfr11 ?putfr11 ?nextfr11; (case wtfr11 => rfl); (case runfr11 => (intro w' hS H; clear H; refine ⟨.pointer (some ⟨w'.heap.size, 0, none⟩), w'.alloc (.cells #[.int .i64 0, .int .i64 0, .slice none 0 0] 58), ?_, ⟨w'.heap.size, rfl, hS.size, Blk.new _ _ _ _ rfl⟩, ⟨w'.heap.size, rfl, Nat.le_refl _, by simp⟩, below_new _⟩; (clear hS; go_simp))); (case putfr11 => (intro v; simp only [Act.put, List.setIfInBounds_toArray, List.set_cons_zero, List.set_cons_succ]; first | done | exact rfl)); (case' nextfr11 => intro v11))
      intro w11 hb hk'
      have h10 : TabR w11 v10 I O l := hk' 10 (by decide)
      have h11 : PtrTab w10 v11 w11 := hk' 11 (by decide)
      obtain ⟨tu, rfl, h10⟩ := h10
      obtain ⟨xq, xc, rfl⟩ := h10.shape
      obtain ⟨tbk, rfl, htk, k11⟩ := h11
      have zl := k11.lt
      obtain ⟨s0, s1, s2, f0, f1, f2⟩ := k11.o3
      refine wpAny_ready (rs := [12]) (by kernel_rfl) (by simp) (AllReady.cons rfl (fun K hK => ?_) AllReady.nil)
      go_simp
      refine hK _ _ ?_
      clear hK K
      refine wpAny_done (by kernel_rfl) ?_ _
      clear s0 s1 s2 f0 f1 f2 hk'
      have kt9 := ((k11.set 0 (.int .i64 I)).set 1 (.int .i64 O)).set 2 (.slice xq l.length xc)
      have hb9 : Below w10.heap.size w10 (((w11.setCell ⟨tbk, 0, none⟩ (.int .i64 I)).setCell ⟨tbk, 1, none⟩ (.int .i64 O)).setCell ⟨tbk, 2, none⟩ (.slice xq l.length xc)) := by
        iterate 3 (refine Below.setCell ?_ (by simp only []; omega) _)
        exact hb
      have hrow := ((h10.setTab k11 0 (.int .i64 I)).setTab (k11.set 0 _) 1 (.int .i64 O)).setTab ((k11.set 0 _).set 1 _) 2 (.slice xq l.length xc)
      obtain ⟨ws, hws⟩ := named (((w11.setCell ⟨tbk, 0, none⟩ (.int .i64 I)).setCell ⟨tbk, 1, none⟩ (.int .i64 O)).setCell ⟨tbk, 2, none⟩ (.slice xq l.length xc))
      rw [← hws] at kt9 hb9 hrow ⊢
      have KT : Hid (Blk ws tbk #[.int .i64 I, .int .i64 O, .slice xq l.length xc] 58) := Lib.hid (by simpa using kt9)
      have TX := Lib.hid (hrow.row (by omega))
      have RIs := Lib.hid (RI.out.below hb9)
      have ROs := Lib.hid (RO.out.below hb9)
      have HBs := Lib.hid (HBr.out.trans (hb9.mono HBr.out.size))
      clear kt9 hb9 hrow hws hb h10 k11 htk zl hGS RI RO HBr KAr KXr BWr XV Y0 Y1 Y2 YT HBB
      obtain ⟨t0, t1, t2, -, -, -⟩ := KT.out.o3
      have e3 : (((insL n.a k).length : Int) != I) = false := by simp [hIl]
      have e4 : (((outsL n.a k).length : Int) != O) = false := by simp [hOl]
      have hO16 : O ≤ 16 := HCK.out.2.2.2
      have hI16 : I ≤ 16 := HCK.out.2.1
      have ho16 : (outsL n.a k).length ≤ 16 := by omega
      have hi16 : (insL n.a k).length ≤ 16 := by omega
      go_wp2_with fail
      clear t0 t1 t2
      have HOT : Hid (OT + ((outsL n.a k).length : Int) = outsTo n.a (k + 1)) := Lib.hid (by rw [outsTo_succ, EOT.out, ← outsL_len])
      go_loopw [9, 10] (fun i _ wr2 => ∃ i2 : Nat, i2 ≤ (insL n.a k).length ∧ i = .int .i64 i2 ∧ Hid (Below ws.heap.size ws wr2)) (fun i _ _ => (insL n.a k).length - (intOf i).toNat)
      case atStart => exact ⟨0, Nat.zero_le _, rfl, Lib.hid (Below.refl _ _)⟩
      case round =>
        obtain ⟨i, hi, rfl, HB2⟩ := hrel
        by_cases hi2 : i < (insL n.a k).length
        · have hii : (i : Int) < ((insL n.a k).length : Int) := by omega
          go_wp2_with fail
          go_loopw [10] (fun q wr3 => ∃ j2 : Nat, j2 ≤ (outsL n.a k).length ∧ q = .int .i64 j2 ∧ Hid (Below ws.heap.size ws wr3)) (fun q _ => (outsL n.a k).length - (intOf q).toNat)
          case atStart => exact ⟨0, Nat.zero_le _, rfl, HB2⟩
          case round =>
            obtain ⟨j, hj, rfl, HB3⟩ := hrel
            obtain ⟨wr3, rfl⟩ : ∃ W, W = wr := ⟨_, rfl⟩
            by_cases hj2 : j < (outsL n.a k).length
            · have hjj : (j : Int) < ((outsL n.a k).length : Int) := by omega
              obtain ⟨ib, io, rfl, xi⟩ := (RIs.out.below HB3.out).at hi2
              obtain ⟨ob, oo, rfl, xo⟩ := (ROs.out.below HB3.out).at hj2
              obtain ⟨TT, eTT⟩ : ∃ T, turnAt I O l i j = T := ⟨_, rfl⟩
              have eg := HGR.out i j hi2 hj2
              obtain ⟨IA, eIA⟩ : ∃ A, (insL n.a k)[i] = A := ⟨_, rfl⟩
              obtain ⟨OB, eOB⟩ : ∃ A, (outsL n.a k)[j] = A := ⟨_, rfl⟩
              rw [eIA, eOB, eTT] at eg
              rw [eIA] at xi
              rw [eOB] at xo
              have ETT := Lib.hid eg
              have ETA := Lib.hid eTT
              have XI := Lib.hid xi
              have XO := Lib.hid xo
              have KXs := Lib.hid (KX.out.keep (HBs.out.trans (HB3.out.mono HBs.out.size)))
              have VXs := Lib.hid (VX.out.below (HBs.out.trans (HB3.out.mono HBs.out.size)))
              have KTs := Lib.hid (KT.out.keep HB3.out)
              have TXs := Lib.hid (TX.out.below HB3.out)
              clear eg eTT eIA eOB xi xo
              go_wp2_with fail
              have hGS : Grows (fun w' => Below wr3.heap.size wr3 w') := Grows.below wr3
              refine' wp_growL _ (fun w' => Below wr3.heap.size wr3 w') [[], [], [], [1, 2], [3], [], [], [5, 6], [7], [0, 4, 8], [], [], [], [10, 11, 12], [9, 13]] (Fact.lit _ :: Fact.lit _ :: Fact.lit _ :: Fact.lit _ :: Fact.lit _ :: Fact.lit _ :: Fact.lit _ :: Fact.lit _ :: Fact.lit _ :: Fact.lit _ :: Fact.lit _ :: Fact.lit _ :: Fact.lit _ :: Fact.lit _ :: Fact.lit _ :: []) (by kernel_rfl) rfl (by kernel_rfl) (Below.refl _ _).drew ?seqtw
              case' seqtw => skip
              (first | (refine' grow_skip rfl ?wt919 ?put919 ?next919; (case wt919 => rfl)) | (refine' grow_lit rfl ?wt919 ?run919 ?put919 ?next919; (case wt919 => rfl); (case run919 => (intro w' hS H; clear H; (obtain ⟨x0, x1, x2, -, -, -⟩ := (KXs.out.keep hS).o3); (obtain ⟨t0, t1, t2, -, -, -⟩ := (KTs.out.keep hS).o3); (have xi := keep hS XI.out); (have xo := keep hS XO.out); clear hS; go_simp; first | done | exact rfl)))); (case put919 => (simp only [Act.put, List.setIfInBounds_toArray, List.set_cons_zero, List.set_cons_succ]; first | done | exact rfl)); (case' next919 => skip)
              (first | (refine' grow_skip rfl ?wt920 ?put920 ?next920; (case wt920 => rfl)) | (refine' grow_lit rfl ?wt920 ?run920 ?put920 ?next920; (case wt920 => rfl); (case run920 => (intro w' hS H; clear H; (obtain ⟨x0, x1, x2, -, -, -⟩ := (KXs.out.keep hS).o3); (obtain ⟨t0, t1, t2, -, -, -⟩ := (KTs.out.keep hS).o3); (have xi := keep hS XI.out); (have xo := keep hS XO.out); clear hS; go_simp; first | done | exact rfl)))); (case put920 => (simp only [Act.put, List.setIfInBounds_toArray, List.set_cons_zero, List.set_cons_succ]; first | done | exact rfl)); (case' next920 => skip)
              (first | (refine' grow_skip rfl ?wt921 ?put921 ?next921; (case wt921 => rfl)) | (refine' grow_lit rfl ?wt921 ?run921 ?put921 ?next921; (case wt921 => rfl); (case run921 => (intro w' hS H; clear H; (obtain ⟨x0, x1, x2, -, -, -⟩ := (KXs.out.keep hS).o3); (obtain ⟨t0, t1, t2, -, -, -⟩ := (KTs.out.keep hS).o3); (have xi := keep hS XI.out); (have xo := keep hS XO.out); clear hS; go_simp; first | done | exact rfl)))); (case put921 => (simp only [Act.put, List.setIfInBounds_toArray, List.set_cons_zero, List.set_cons_succ]; first | done | exact rfl)); (case' next921 => skip)
              (first | (refine' grow_skip rfl ?wt922 ?put922 ?next922; (case wt922 => rfl)) | (refine' grow_lit rfl ?wt922 ?run922 ?put922 ?next922; (case wt922 => rfl); (case run922 => (intro w' hS H; clear H; (obtain ⟨x0, x1, x2, -, -, -⟩ := (KXs.out.keep hS).o3); (obtain ⟨t0, t1, t2, -, -, -⟩ := (KTs.out.keep hS).o3); (have xi := keep hS XI.out); (have xo := keep hS XO.out); clear hS; go_simp; first | done | exact rfl)))); (case put922 => (simp only [Act.put, List.setIfInBounds_toArray, List.set_cons_zero, List.set_cons_succ]; first | done | exact rfl)); (case' next922 => skip)
              (first | (refine' grow_skip rfl ?wt923 ?put923 ?next923; (case wt923 => rfl)) | (refine' grow_lit rfl ?wt923 ?run923 ?put923 ?next923; (case wt923 => rfl); (case run923 => (intro w' hS H; clear H; (obtain ⟨x0, x1, x2, -, -, -⟩ := (KXs.out.keep hS).o3); (obtain ⟨t0, t1, t2, -, -, -⟩ := (KTs.out.keep hS).o3); (have xi := keep hS XI.out); (have xo := keep hS XO.out); clear hS; go_simp; first | done | exact rfl)))); (case put923 => (simp only [Act.put, List.setIfInBounds_toArray, List.set_cons_zero, List.set_cons_succ]; first | done | exact rfl)); (case' next923 => skip)
              (first | (refine' grow_skip rfl ?wt924 ?put924 ?next924; (case wt924 => rfl)) | (refine' grow_lit rfl ?wt924 ?run924 ?put924 ?next924; (case wt924 => rfl); (case run924 => (intro w' hS H; clear H; (obtain ⟨x0, x1, x2, -, -, -⟩ := (KXs.out.keep hS).o3); (obtain ⟨t0, t1, t2, -, -, -⟩ := (KTs.out.keep hS).o3); (have xi := keep hS XI.out); (have xo := keep hS XO.out); clear hS; go_simp; first | done | exact rfl)))); (case put924 => (simp only [Act.put, List.setIfInBounds_toArray, List.set_cons_zero, List.set_cons_succ]; first | done | exact rfl)); (case' next924 => skip)
              (first | (refine' grow_skip rfl ?wt925 ?put925 ?next925; (case wt925 => rfl)) | (refine' grow_lit rfl ?wt925 ?run925 ?put925 ?next925; (case wt925 => rfl); (case run925 => (intro w' hS H; clear H; (obtain ⟨x0, x1, x2, -, -, -⟩ := (KXs.out.keep hS).o3); (obtain ⟨t0, t1, t2, -, -, -⟩ := (KTs.out.keep hS).o3); (have xi := keep hS XI.out); (have xo := keep hS XO.out); clear hS; go_simp; first | done | exact rfl)))); (case put925 => (simp only [Act.put, List.setIfInBounds_toArray, List.set_cons_zero, List.set_cons_succ]; first | done | exact rfl)); (case' next925 => skip)
              (first | (refine' grow_skip rfl ?wt926 ?put926 ?next926; (case wt926 => rfl)) | (refine' grow_lit rfl ?wt926 ?run926 ?put926 ?next926; (case wt926 => rfl); (case run926 => (intro w' hS H; clear H; (obtain ⟨x0, x1, x2, -, -, -⟩ := (KXs.out.keep hS).o3); (obtain ⟨t0, t1, t2, -, -, -⟩ := (KTs.out.keep hS).o3); (have xi := keep hS XI.out); (have xo := keep hS XO.out); clear hS; go_simp; first | done | exact rfl)))); (case put926 => (simp only [Act.put, List.setIfInBounds_toArray, List.set_cons_zero, List.set_cons_succ]; first | done | exact rfl)); (case' next926 => skip)
              (first | (refine' grow_skip rfl ?wt927 ?put927 ?next927; (case wt927 => rfl)) | (refine' grow_lit rfl ?wt927 ?run927 ?put927 ?next927; (case wt927 => rfl); (case run927 => (intro w' hS H; clear H; (obtain ⟨x0, x1, x2, -, -, -⟩ := (KXs.out.keep hS).o3); (obtain ⟨t0, t1, t2, -, -, -⟩ := (KTs.out.keep hS).o3); (have xi := keep hS XI.out); (have xo := keep hS XO.out); clear hS; go_simp; first | done | exact rfl)))); (case put927 => (simp only [Act.put, List.setIfInBounds_toArray, List.set_cons_zero, List.set_cons_succ]; first | done | exact rfl)); (case' next927 => skip)
              (refine' grow_call (u := .int .i64 TT) rfl Tryd.func24 (by kernel_rfl) rfl hGS rfl ?wt935 ?run935 ?put935 ?next935; (case wt935 => rfl); (case run935 => (intro w' hS H; exact vturn (VXs.out.below hS) GD.out ETT.out)); (case put935 => (simp only [Act.put, List.setIfInBounds_toArray, List.set_cons_zero, List.set_cons_succ]; first | done | exact rfl)); (case' next935 => skip))
              (first | (refine' grow_skip rfl ?wt928 ?put928 ?next928; (case wt928 => rfl)) | (refine' grow_lit rfl ?wt928 ?run928 ?put928 ?next928; (case wt928 => rfl); (case run928 => (intro w' hS H; clear H; (obtain ⟨x0, x1, x2, -, -, -⟩ := (KXs.out.keep hS).o3); (obtain ⟨t0, t1, t2, -, -, -⟩ := (KTs.out.keep hS).o3); (have xi := keep hS XI.out); (have xo := keep hS XO.out); clear hS; go_simp; first | done | exact rfl)))); (case put928 => (simp only [Act.put, List.setIfInBounds_toArray, List.set_cons_zero, List.set_cons_succ]; first | done | exact rfl)); (case' next928 => skip)
              (first | (refine' grow_skip rfl ?wt929 ?put929 ?next929; (case wt929 => rfl)) | (refine' grow_lit rfl ?wt929 ?run929 ?put929 ?next929; (case wt929 => rfl); (case run929 => (intro w' hS H; clear H; (obtain ⟨x0, x1, x2, -, -, -⟩ := (KXs.out.keep hS).o3); (obtain ⟨t0, t1, t2, -, -, -⟩ := (KTs.out.keep hS).o3); (have xi := keep hS XI.out); (have xo := keep hS XO.out); clear hS; go_simp; first | done | exact rfl)))); (case put929 => (simp only [Act.put, List.setIfInBounds_toArray, List.set_cons_zero, List.set_cons_succ]; first | done | exact rfl)); (case' next929 => skip)
              (first | (refine' grow_skip rfl ?wt930 ?put930 ?next930; (case wt930 => rfl)) | (refine' grow_lit rfl ?wt930 ?run930 ?put930 ?next930; (case wt930 => rfl); (case run930 => (intro w' hS H; clear H; (obtain ⟨x0, x1, x2, -, -, -⟩ := (KXs.out.keep hS).o3); (obtain ⟨t0, t1, t2, -, -, -⟩ := (KTs.out.keep hS).o3); (have xi := keep hS XI.out); (have xo := keep hS XO.out); clear hS; go_simp; first | done | exact rfl)))); (case put930 => (simp only [Act.put, List.setIfInBounds_toArray, List.set_cons_zero, List.set_cons_succ]; first | done | exact rfl)); (case' next930 => skip)
              (refine' grow_call (u := .int .i64 TT) rfl Tryd.func31 (by kernel_rfl) rfl hGS rfl ?wt936 ?run936 ?put936 ?next936; (case wt936 => rfl); (case run936 => (intro w' hS H; exact tat_is I O _ l i j TT w' HCK.out HLN.out (TXs.out.below hS) ETA.out)); (case put936 => (simp only [Act.put, List.setIfInBounds_toArray, List.set_cons_zero, List.set_cons_succ]; first | done | exact rfl)); (case' next936 => skip))
              (first | (refine' grow_skip rfl ?wt931 ?put931 ?next931; (case wt931 => rfl)) | (refine' grow_lit rfl ?wt931 ?run931 ?put931 ?next931; (case wt931 => rfl); (case run931 => (intro w' hS H; clear H; (obtain ⟨x0, x1, x2, -, -, -⟩ := (KXs.out.keep hS).o3); (obtain ⟨t0, t1, t2, -, -, -⟩ := (KTs.out.keep hS).o3); (have xi := keep hS XI.out); (have xo := keep hS XO.out); clear hS; go_simp; first | done | exact rfl)))); (case put931 => (simp only [Act.put, List.setIfInBounds_toArray, List.set_cons_zero, List.set_cons_succ]; first | done | exact rfl)); (case' next931 => skip)
              intro w21 hb _
              have HB4 := Lib.hid (HB3.out.trans (hb.mono HB3.out.size))
              clear hb hGS KXs VXs KTs TXs XI XO
              go_wp2_with fail
              go_roundw
              case rel => exact ⟨j + 1, by omega, by go_num, HB4⟩
              case measure => simp [intOf]; omega
            · have hjj : ¬ (j : Int) < ((outsL n.a k).length : Int) := by omega
              go_wp2_with fail
              go_roundw
              case rel => exact ⟨i + 1, by omega, by go_num, HB3⟩
              case measure => simp [intOf]; omega
        · have hii : ¬ (i : Int) < ((insL n.a k).length : Int) := by omega
          go_wp2_with fail
          go_roundw
          case rel => exact ⟨k + 1, by omega, by go_num, by rw [← HOT.out, HOL.out], Lib.hid (HBs.out.trans (HB2.out.mono HBs.out.size))⟩
          case measure => simp [intOf]; omega
    · have hli : ¬ (k : Int) < (n.v.length : Int) := by omega
      obtain rfl : k = n.v.length := by omega
      have hOT : OT = (n.a.length : Int) := by rw [← EOT.out]; exact outsTo_all GD.out.arcsIn
      have hoe : (OT == (n.a.length : Int)) = true := by simp [hOT]
      go_wp2_with fail
      go_ret
      exact ⟨rfl, BWr.out⟩

theorem grid_walk (v : Value) (n : NetD) (w : World) (hg : ErrT w) (hv : NetV w v n) (hin : InNet n) :
    Calls Tryd.prog 6 #[v] w fun e w' => e = .returned (.bool true) ∧ Below w.heap.size w w' := by
  cases hm : mayN n with
  | false => exact grid_no v n w hg hv hin hm
  | true => exact grid_yes v n w hg hv hin hm

set_option maxRecDepth 100000 in
theorem netGrid_walks : Walks laidAll 6 Tryd.f6 := by
  intro H enc W args ds g
  obtain ⟨ps, hA⟩ := g.reads
  obtain ⟨base, hval⟩ := g.okay
  rw [Tryd.params6] at hA hval
  obtain ⟨v0, vs0, d0, ds0, p0, q0, hargs, rfl, rfl, h0, r0⟩ := trodAll_cons hA
  obtain ⟨rfl, rfl, rfl⟩ := trodAll_nil r0
  obtain rfl : args = #[v0] := Array.toList_inj.1 hargs
  obtain ⟨n0, w0, u0⟩ := open_net (hval 0 26 v0 rfl rfl) h0
  exact grid_walk v0 n0 W (errT_of_laid g.laid) w0 u0

theorem netGrid_row : Rows.NetGridSaid :=
  OpenClaim.holds_of_wide 6 Tryd.f6 rfl rfl rfl rfl rfl rfl rfl ⟨rfl, rfl, rfl, rfl, rfl⟩ rfl rfl rfl rfl rfl (by kernel_rfl) Tryd.func6 (by kernel_rfl)
    (of_decide_eq_true (by kernel_rfl)) (by unfold Func.isWrapper; rw [if_neg (of_decide_eq_false (by kernel_rfl))]; exact ⟨rfl, rfl⟩)
    (fun os started H enc _ => law_lifted (s := Rows.netGridSpec) (L := laidAll) Tryd.func6 (by kernel_rfl) rfl (by kernel_rfl)
      (fun H ds hl => by
        rw [Tryd.params6] at hl
        match ds, hl with
        | [_], _ => exact ⟨rfl, rfl, rfl⟩)
      (by kernel_rfl) os started H enc
      (ChangeSpec.witness_at (enc := enc) (C := Tryd.checked) (os := os) (X := fun w _ => laidMetH Tryd.prog laidAll w) false (laidWorld os) #[.agg #[.slice none 0 0, .slice none 0 0, .slice none 0 0]] 8 rfl (by kernel_rfl) (by kernel_rfl) (by kernel_rfl) (by kernel_rfl) (by kernel_rfl) (laidWorld_met os _))
      netGrid_walks)

theorem netGrid_card : Rows.NetGridCardSaid :=
  Claim7.holds_tied_plain_at .later [] laidKindsAll true (Rows.netGridCard.stood.harness) true
    netGrid_row (fun _ h => by cases h) (by kernel_rfl) (fun _ h => by cases h) netGrid_row_tie rfl ⟨rfl, rfl⟩ (by kernel_rfl) rfl
    (fun f fn hf hfn => by
      obtain rfl : f = 6 := Option.some.inj ((show Tryd.prog.funcNamed "roundsman/roundsmanlaw3.NetGrid" = some 6 by kernel_rfl).symm.trans hf) |>.symm
      obtain rfl : fn = Tryd.f6 := (Option.some.inj (Tryd.func6.symm.trans hfn)).symm
      exact ⟨by kernel_rfl, fun j t ht => by
        rw [Tryd.params6] at ht
        exact stand_all #[26] (by kernel_rfl) j t ht⟩)
    (by kernel_rfl)
#print axioms netGrid_card

end Go.Proofs.YtbdompngabokgaaDoor
