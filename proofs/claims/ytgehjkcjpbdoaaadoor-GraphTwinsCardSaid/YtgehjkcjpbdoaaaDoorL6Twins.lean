/-
  PROVED: a twin stays as it was while the graph is changed, and the other way round; the net told, and the net that was handed in, are none of theirs. For every net and two rows of acts. Conditions: the listed library variable holds what the program's own text lays (the card ties it).
-/
import Derived.Test.YtgehjkcjpbdoaaaDoorKnown6
import Derived.Test.YtgehjkcjpbdoaaaDoorNetIn
import Derived.Test.YtgehjkcjpbdoaaaDoorLaid2
import Derived.Test.YtgehjkcjpbdoaaaDoorCards
import Derived.Test.YtgehjkcjpbdoaaaDoorTie
import Derived.SevenTiedAt
import Derived.Test.YtgehjkcjpbdoaaaDoorTwO
namespace Go.Proofs.YtgehjkcjpbdoaaaDoor
open Go.ChangeShapes Go.WideShapes Go.ChangeAt Go.RowKit

set_option maxHeartbeats 8000000 in
set_option maxRecDepth 100000 in
theorem gtwins_no (v : Value) (n : NetD) (aq0 : Option Addr) (ac0 : Nat) (acts : List ActD) (bq0 : Option Addr) (bc0 : Nat) (more : List ActD) (w : World) (hg : ErrT w) (hv : NetV w v n) (hin : InNet n) (hac : Acts w (.slice aq0 acts.length ac0) acts) (hai : InAct acts) (hmc : Acts w (.slice bq0 more.length bc0) more) (hmi : InAct more) (hm : mayN n = false) :
    Calls Tryd.prog 3 #[v, .slice aq0 acts.length ac0, .slice bq0 more.length bc0] w fun e w' => e = .returned (.bool true) ∧ Below w.heap.size w w' := by
  obtain ⟨vq, aq, tq, vc, ac, tc, rfl, -⟩ := hv.shape
  have HG := Lib.hid hg
  have HV := Lib.hid hv
  have HIN := Lib.hid hin
  have HM := Lib.hid hm
  clear hg hv hin hm
  have HAC := Lib.hid hac
  have HAI := Lib.hid hai
  have HMC := Lib.hid hmc
  have HMI := Lib.hid hmi
  clear hac hai hmc hmi
  go_enter Tryd.func3, Tryd.ntmps3
  go_wp2_with fail
  obtain ⟨W0, hW0⟩ := named (w.alloc (.cells #[.slice vq n.v.length vc, .slice aq n.a.length ac, .slice tq n.t.length tc] 26))
  rw [← hW0]
  have B0 : Hid (Below w.heap.size w W0) := by rw [hW0]; exact Lib.hid (below_new _)
  have KA : Hid (Blk W0 w.heap.size #[.slice vq n.v.length vc, .slice aq n.a.length ac, .slice tq n.t.length tc] 26) := by rw [hW0]; exact Lib.hid (Blk.new _ _ _ _ rfl)
  clear hW0
  refine (known6_any _ (HG.out.below HG.out.lt B0.out)).mono ?_
  rintro e w' ⟨rfl, hb⟩
  have KA_ := Lib.hid (KA.out.keep hb)
  have B_ := Lib.hid (bOn6 B0.out hb)
  clear KA
  have KA := KA_
  clear KA_
  clear B0
  have B0 := B_
  clear B_ hb 
  obtain ⟨ka0, ka1, ka2, -, -, -⟩ := KA.out.o3
  go_wp2_with fail
  clear ka0 ka1 ka2
  refine (vmay (HV.out.below B0.out) HIN.out HM.out).mono ?_
  rintro e w' ⟨rfl, hb⟩
  have KA_ := Lib.hid (KA.out.keep hb)
  have B_ := Lib.hid (bOn6 B0.out hb)
  clear KA
  have KA := KA_
  clear KA_
  clear B0
  have B0 := B_
  clear B_ hb 
  obtain ⟨ka0, ka1, ka2, -, -, -⟩ := KA.out.o3
  go_wp2_with fail
  clear ka0 ka1 ka2
  go_ret
  exact ⟨rfl, B0.out⟩

set_option maxHeartbeats 8000000 in
set_option maxRecDepth 100000 in
theorem gtwins_long (v : Value) (n : NetD) (aq0 : Option Addr) (ac0 : Nat) (acts : List ActD) (bq0 : Option Addr) (bc0 : Nat) (more : List ActD) (w : World) (hg : ErrT w) (hv : NetV w v n) (hin : InNet n) (hac : Acts w (.slice aq0 acts.length ac0) acts) (hai : InAct acts) (hmc : Acts w (.slice bq0 more.length bc0) more) (hmi : InAct more) (hm : mayN n = true) (hl : 20 < acts.length) :
    Calls Tryd.prog 3 #[v, .slice aq0 acts.length ac0, .slice bq0 more.length bc0] w fun e w' => e = .returned (.bool true) ∧ Below w.heap.size w w' := by
  obtain ⟨vq, aq, tq, vc, ac, tc, rfl, -⟩ := hv.shape
  have HG := Lib.hid hg
  have HV := Lib.hid hv
  have HIN := Lib.hid hin
  have HM := Lib.hid hm
  clear hg hv hin hm
  have HAC := Lib.hid hac
  have HAI := Lib.hid hai
  have HMC := Lib.hid hmc
  have HMI := Lib.hid hmi
  clear hac hai hmc hmi
  have HLL : Hid (20 < (acts.length : Int)) := Lib.hid (by omega)
  clear hl
  go_enter Tryd.func3, Tryd.ntmps3
  go_wp2_with fail
  obtain ⟨W0, hW0⟩ := named (w.alloc (.cells #[.slice vq n.v.length vc, .slice aq n.a.length ac, .slice tq n.t.length tc] 26))
  rw [← hW0]
  have B0 : Hid (Below w.heap.size w W0) := by rw [hW0]; exact Lib.hid (below_new _)
  have KA : Hid (Blk W0 w.heap.size #[.slice vq n.v.length vc, .slice aq n.a.length ac, .slice tq n.t.length tc] 26) := by rw [hW0]; exact Lib.hid (Blk.new _ _ _ _ rfl)
  clear hW0
  refine (known6_any _ (HG.out.below HG.out.lt B0.out)).mono ?_
  rintro e w' ⟨rfl, hb⟩
  have KA_ := Lib.hid (KA.out.keep hb)
  have B_ := Lib.hid (bOn6 B0.out hb)
  clear KA
  have KA := KA_
  clear KA_
  clear B0
  have B0 := B_
  clear B_ hb 
  obtain ⟨ka0, ka1, ka2, -, -, -⟩ := KA.out.o3
  go_wp2_with fail
  clear ka0 ka1 ka2
  refine (vmay (HV.out.below B0.out) HIN.out HM.out).mono ?_
  rintro e w' ⟨rfl, hb⟩
  have KA_ := Lib.hid (KA.out.keep hb)
  have B_ := Lib.hid (bOn6 B0.out hb)
  clear KA
  have KA := KA_
  clear KA_
  clear B0
  have B0 := B_
  clear B_ hb 
  have hll := HLL.out
  obtain ⟨ka0, ka1, ka2, -, -, -⟩ := KA.out.o3
  go_wp2_with fail
  clear ka0 ka1 ka2
  go_ret
  exact ⟨rfl, B0.out⟩

set_option maxHeartbeats 8000000 in
set_option maxRecDepth 100000 in
theorem gtwins_more (v : Value) (n : NetD) (aq0 : Option Addr) (ac0 : Nat) (acts : List ActD) (bq0 : Option Addr) (bc0 : Nat) (more : List ActD) (w : World) (hg : ErrT w) (hv : NetV w v n) (hin : InNet n) (hac : Acts w (.slice aq0 acts.length ac0) acts) (hai : InAct acts) (hmc : Acts w (.slice bq0 more.length bc0) more) (hmi : InAct more) (hm : mayN n = true) (hl : acts.length ≤ 20) (hl2 : 20 < more.length) :
    Calls Tryd.prog 3 #[v, .slice aq0 acts.length ac0, .slice bq0 more.length bc0] w fun e w' => e = .returned (.bool true) ∧ Below w.heap.size w w' := by
  obtain ⟨vq, aq, tq, vc, ac, tc, rfl, -⟩ := hv.shape
  have HG := Lib.hid hg
  have HV := Lib.hid hv
  have HIN := Lib.hid hin
  have HM := Lib.hid hm
  clear hg hv hin hm
  have HAC := Lib.hid hac
  have HAI := Lib.hid hai
  have HMC := Lib.hid hmc
  have HMI := Lib.hid hmi
  clear hac hai hmc hmi
  have HLL : Hid ((acts.length : Int) ≤ 20 ∧ 20 < (more.length : Int)) := Lib.hid (by omega)
  clear hl hl2
  go_enter Tryd.func3, Tryd.ntmps3
  go_wp2_with fail
  obtain ⟨W0, hW0⟩ := named (w.alloc (.cells #[.slice vq n.v.length vc, .slice aq n.a.length ac, .slice tq n.t.length tc] 26))
  rw [← hW0]
  have B0 : Hid (Below w.heap.size w W0) := by rw [hW0]; exact Lib.hid (below_new _)
  have KA : Hid (Blk W0 w.heap.size #[.slice vq n.v.length vc, .slice aq n.a.length ac, .slice tq n.t.length tc] 26) := by rw [hW0]; exact Lib.hid (Blk.new _ _ _ _ rfl)
  clear hW0
  refine (known6_any _ (HG.out.below HG.out.lt B0.out)).mono ?_
  rintro e w' ⟨rfl, hb⟩
  have KA_ := Lib.hid (KA.out.keep hb)
  have B_ := Lib.hid (bOn6 B0.out hb)
  clear KA
  have KA := KA_
  clear KA_
  clear B0
  have B0 := B_
  clear B_ hb 
  obtain ⟨ka0, ka1, ka2, -, -, -⟩ := KA.out.o3
  go_wp2_with fail
  clear ka0 ka1 ka2
  refine (vmay (HV.out.below B0.out) HIN.out HM.out).mono ?_
  rintro e w' ⟨rfl, hb⟩
  have KA_ := Lib.hid (KA.out.keep hb)
  have B_ := Lib.hid (bOn6 B0.out hb)
  clear KA
  have KA := KA_
  clear KA_
  clear B0
  have B0 := B_
  clear B_ hb 
  obtain ⟨hll, hlm⟩ := HLL.out
  obtain ⟨ka0, ka1, ka2, -, -, -⟩ := KA.out.o3
  go_wp2_with fail
  clear ka0 ka1 ka2
  go_ret
  exact ⟨rfl, B0.out⟩

set_option maxHeartbeats 8000000 in
set_option maxRecDepth 100000 in
theorem gtwins_main (v : Value) (n : NetD) (aq0 : Option Addr) (ac0 : Nat) (acts : List ActD) (bq0 : Option Addr) (bc0 : Nat) (more : List ActD) (w : World) (hg : ErrT w) (hv : NetV w v n) (hin : InNet n) (hac : Acts w (.slice aq0 acts.length ac0) acts) (hai : InAct acts) (hmc : Acts w (.slice bq0 more.length bc0) more) (hmi : InAct more) (hm : mayN n = true) (hl : acts.length ≤ 20) (hl2 : more.length ≤ 20) :
    Calls Tryd.prog 3 #[v, .slice aq0 acts.length ac0, .slice bq0 more.length bc0] w fun e w' => e = .returned (.bool true) ∧ Below w.heap.size w w' := by
  obtain ⟨vq, aq, tq, vc, ac, tc, rfl, -⟩ := hv.shape
  obtain ⟨hf, hok, hgd⟩ := may_of hm
  have GN : Hid (GrN n) := Lib.hid ⟨hgd, hf, hin⟩
  have HOK := Lib.hid hok
  clear hf hok hgd
  have HG := Lib.hid hg
  have HV := Lib.hid hv
  have HIN := Lib.hid hin
  have HM := Lib.hid hm
  clear hg hv hin hm
  have HAC := Lib.hid hac
  have HAI := Lib.hid hai
  have HMC := Lib.hid hmc
  have HMI := Lib.hid hmi
  clear hac hai hmc hmi
  have HLL : Hid ((acts.length : Int) ≤ 20 ∧ (more.length : Int) ≤ 20) := Lib.hid (by omega)
  clear hl hl2
  go_enter Tryd.func3, Tryd.ntmps3
  go_wp2_with fail
  obtain ⟨W0, hW0⟩ := named (w.alloc (.cells #[.slice vq n.v.length vc, .slice aq n.a.length ac, .slice tq n.t.length tc] 26))
  rw [← hW0]
  have B0 : Hid (Below w.heap.size w W0) := by rw [hW0]; exact Lib.hid (below_new _)
  have KA : Hid (Blk W0 w.heap.size #[.slice vq n.v.length vc, .slice aq n.a.length ac, .slice tq n.t.length tc] 26) := by rw [hW0]; exact Lib.hid (Blk.new _ _ _ _ rfl)
  clear hW0
  refine (known6_any _ (HG.out.below HG.out.lt B0.out)).mono ?_
  rintro e w' ⟨rfl, hb⟩
  have KA_ := Lib.hid (KA.out.keep hb)
  have B_ := Lib.hid (bOn6 B0.out hb)
  clear KA
  have KA := KA_
  clear KA_
  clear B0
  have B0 := B_
  clear B_ hb 
  obtain ⟨ka0, ka1, ka2, -, -, -⟩ := KA.out.o3
  go_wp2_with fail
  clear ka0 ka1 ka2
  refine (vmay (HV.out.below B0.out) HIN.out HM.out).mono ?_
  rintro e w' ⟨rfl, hb⟩
  have KA_ := Lib.hid (KA.out.keep hb)
  have B_ := Lib.hid (bOn6 B0.out hb)
  clear KA
  have KA := KA_
  clear KA_
  clear B0
  have B0 := B_
  clear B_ hb 
  obtain ⟨hll, hlm⟩ := HLL.out
  obtain ⟨ka0, ka1, ka2, -, -, -⟩ := KA.out.o3
  go_wp2_with fail
  clear ka0 ka1 ka2
  refine (to3_own n vq aq tq vc ac tc _ (HV.out.below B0.out).s (by have := GN.out.few.v; omega) (by have := GN.out.few.a; omega) (by have := GN.out.few.t; omega) (fun t ht => by have := GN.out.few.c t ht; omega)).mono ?_
  rintro e w1 ⟨xv, rfl, hX, hb, hO⟩
  obtain ⟨x1, x2, x3, e1, e2, e3, rfl, -⟩ := hX.shape
  have HO1 := Lib.hid (owns_base hO.at B0.out.size)
  have VX := Lib.hid hX
  have KA_ := Lib.hid (KA.out.keep hb)
  have B0_ := Lib.hid (bOn6 B0.out hb)
  clear KA B0
  have KA := KA_
  have B0 := B0_
  clear KA_ B0_
  clear hb hX hO
  obtain ⟨ka0, ka1, ka2, -, -, -⟩ := KA.out.o3
  go_wp2_with fail
  clear ka0 ka1 ka2
  obtain ⟨W1, hW1⟩ := named (w1.alloc (.cells #[.slice x1 n.v.length e1, .slice x2 n.a.length e2, .slice x3 n.t.length e3] 34))
  rw [← hW1]
  have hb : Below w1.heap.size w1 W1 := by rw [hW1]; exact below_new _
  have KA_ := Lib.hid (KA.out.keep hb)
  have B0_ := Lib.hid (bOn6 B0.out hb)
  clear KA B0
  have KA := KA_
  have B0 := B0_
  clear KA_ B0_
  have KO : Hid (Blk W1 w1.heap.size #[.slice x1 n.v.length e1, .slice x2 n.a.length e2, .slice x3 n.t.length e3] 34) := by rw [hW1]; exact Lib.hid (Blk.new _ _ _ _ rfl)
  have HOW := Lib.hid (owns_below HO1.out hb)
  have VXW := Lib.hid (VX.out.below hb)
  have HSZ := Lib.hid B0.out.size
  clear hb hW1 VX HO1
  refine (gnew_ok VXW.out GN.out HOK.out).mono ?_
  rintro e w2 ⟨p, va, vt, rfl, hG, ha, ht, hb⟩
  have HO2 := Lib.hid (owns_below HOW.out hb)
  have HG0 := Lib.hid hG
  have HVA := Lib.hid ha
  have HVT := Lib.hid ht
  have KA_ := Lib.hid (KA.out.keep hb)
  have KO_ := Lib.hid (KO.out.keep hb)
  have B0_ := Lib.hid (bOn6 B0.out hb)
  clear KA KO B0
  have KA := KA_
  have KO := KO_
  have B0 := B0_
  clear KA_ KO_ B0_
  clear hb hG ha ht VXW
  go_wp2_with fail
  go_loopw [10] (fun i wr => ∃ k : Nat, k ≤ n.a.length ∧ i = .int .i64 k ∧ Hid (Keep (Off [.slice x2 n.a.length e2]) w2 wr) ∧ Hid (∃ ys, wr.ownsRow w.heap.size 42 3 (.slice x2 n.a.length e2) n.a.length ys)) (fun i _ => n.a.length - (intOf i).toNat)
  case atStart => exact ⟨0, Nat.zero_le _, rfl, Lib.hid (Keep.refl _ _), Lib.hid ⟨_, HO2.out⟩⟩
  case round =>
    obtain ⟨k, hk, rfl, HK, HY⟩ := hrel
    have KOr := Lib.hid (HK.out.blk KO.out (off_blk (mut1 HO2.out) KO.out (by decide) (by decide)))
    have hsa : n.a.length ≤ 300 := GN.out.few.a
    by_cases hlt : k < n.a.length
    · have hli : (k : Int) < (n.a.length : Int) := by omega
      obtain ⟨ys, hy⟩ := HY.out
      obtain ⟨g, rfl, hgl, ⟨y, hyc⟩, hyf, hys, hkk⟩ := own77 hy hlt
      have HYS := Lib.hid hys
      have HKK := Lib.hid hkk
      clear hy hys hkk
      obtain ⟨o0, o1, o2, -, -, -⟩ := KOr.out.o3
      have lo := KOr.out.lt
      go_wp2_with fail
      go_roundw
      case rel => exact ⟨k + 1, by omega, by go_num, Lib.hid (HK.out.trans HKK.out), HYS⟩
      case measure => simp [intOf]; omega
    · have hli : ¬ (k : Int) < (n.a.length : Int) := by omega
      have hoff : ∀ b, W1.heap.size ≤ b → Off [.slice x2 n.a.length e2] b := fun b hb => off_new (mut1 HOW.out) hb
      have hlow : ∀ b, b < w.heap.size → Off [.slice x2 n.a.length e2] b := fun b hb v hv e => by
        simp at hv
        subst hv
        have := own_ge HO2.out b e
        omega
      have HG1 := Lib.hid (HG0.out.keep HK.out (fun b h => hoff b h.2) (fun b e => hoff b (HVA.out b e)) (fun b e => hoff b (HVT.out b e)))
      have B1 := Lib.hid (B0.out.trans (HK.out.below hlow B0.out.size))
      have KA1 := Lib.hid (HK.out.blk KA.out (off_blk (mut1 HO2.out) KA.out (by decide) (by decide)))
      clear hoff hlow KA B0 HG0 HO2 HOW HY HK KO
      obtain ⟨o0, o1, o2, -, -, -⟩ := KOr.out.o3
      have lo := KOr.out.lt
      go_wp2_with fail
      clear o0 o1 o2 lo KOr
      refine (gtwin_any (Q := Off [va, vt]) HG1.out GN.out (fun b h _ => h.1) (fun b hb => off_new (graph_mut HG1.out) hb)).mono ?_
      rintro e w3 ⟨p', va', vt', rfl, hT, ha', ht', hb⟩
      have TW := Lib.hid (TwW.start HG1.out HSZ.out B1.out HVA.out HVT.out GN.out hT ha' ht' hb)
      have KA := Lib.hid (KA1.out.keep hb)
      clear hT ha' ht' hb HG1 B1 KA1 HVA HVT HSZ
      go_wp2_with fail
      refine (gnet_own TW.out.g GN.out).mono ?_
      rintro e w4 ⟨tv, rfl, hN, hb⟩
      obtain ⟨t1, t2, t3, g1, g2, g3, rfl, -⟩ := hN.net.shape
      have NT_ := Lib.hid (TW.out.off_new hN)
      have NT := NT_
      clear NT_ hN
      have KA_ := Lib.hid (KA.out.keep hb)
      have TW_ := Lib.hid (TW.out.old hb)
      clear KA TW
      have KA := KA_
      have TW := TW_
      clear KA_ TW_
      clear hb
      obtain ⟨ka0, ka1, ka2, -, -, -⟩ := KA.out.o3
      have hka := KA.out.lt
      go_wp2_with fail
      clear ka0 ka1 ka2 hka
      obtain ⟨W4, hW4⟩ := named (w4.alloc (.cells #[.slice t1 n.v.length g1, .slice t2 n.a.length g2, .slice t3 n.t.length g3] 34))
      rw [← hW4]
      have hb : Below w4.heap.size w4 W4 := by rw [hW4]; exact below_new _
      have KA_ := Lib.hid (KA.out.keep hb)
      have TW_ := Lib.hid (TW.out.old hb)
      have NT_ := Lib.hid (NT.out.old hb)
      clear KA TW NT
      have KA := KA_
      have TW := TW_
      have NT := NT_
      clear KA_ TW_ NT_
      have KT : Hid (Blk W4 w4.heap.size #[.slice t1 n.v.length g1, .slice t2 n.a.length g2, .slice t3 n.t.length g3] 34) := by rw [hW4]; exact Lib.hid (Blk.new _ _ _ _ rfl)
      clear hb hW4
      refine (same6_any TW.out.t GN.out (HV.out.below TW.out.b)).mono ?_
      rintro e w5 ⟨rfl, hb⟩
      have KA_ := Lib.hid (KA.out.keep hb)
      have KT_ := Lib.hid (KT.out.keep hb)
      have TW_ := Lib.hid (TW.out.old hb)
      have NT_ := Lib.hid (NT.out.old hb)
      clear KA KT TW NT
      have KA := KA_
      have KT := KT_
      have TW := TW_
      have NT := NT_
      clear KA_ KT_ TW_ NT_
      clear hb
      obtain ⟨ka0, ka1, ka2, -, -, -⟩ := KA.out.o3
      have hka := KA.out.lt
      go_wp2_with fail
      clear ka0 ka1 ka2 hka
      have HNE : Hid (w.heap.size ≠ w5.heap.size ∧ w4.heap.size ≠ w5.heap.size) := Lib.hid ⟨by have := KA.out.lt; omega, by have := KT.out.lt; omega⟩
      have HLE : Hid (w.heap.size ≤ w5.heap.size) := Lib.hid TW.out.b.size
      obtain ⟨W5, hW5⟩ := named (w5.alloc (.cells #[.slice vq n.v.length vc, .slice aq n.a.length ac, .slice tq n.t.length tc] 26))
      rw [← hW5]
      have hb : Below w5.heap.size w5 W5 := by rw [hW5]; exact below_new _
      have KA_ := Lib.hid (KA.out.keep hb)
      have KT_ := Lib.hid (KT.out.keep hb)
      have TW_ := Lib.hid (TW.out.old hb)
      have NT_ := Lib.hid (NT.out.old hb)
      clear KA KT TW NT
      have KA := KA_
      have KT := KT_
      have TW := TW_
      have NT := NT_
      clear KA_ KT_ TW_ NT_
      have K0 : Hid (Blk W5 w5.heap.size #[.slice vq n.v.length vc, .slice aq n.a.length ac, .slice tq n.t.length tc] 26) := by rw [hW5]; exact Lib.hid (Blk.new _ _ _ _ rfl)
      clear hb hW5
      have N0 : Hid (NetA (Off [va, vt, va', vt']) W5 (.agg #[.slice vq n.v.length vc, .slice aq n.a.length ac, .slice tq n.t.length tc]) n) := Lib.hid ((HV.out.av.old TW.out.b).mono TW.out.o)
      go_loopw [14] (fun i wr => ∃ (k : Nat) (m : NetD) (q1 q2 q3 : Option Addr) (c1 c2 c3 : Nat), k ≤ acts.length ∧ i = .int .i64 k ∧ Hid (Blk wr w5.heap.size #[.slice q1 m.v.length c1, .slice q2 m.a.length c2, .slice q3 m.t.length c3] 26) ∧ Hid (NetA (Off [va, vt, va', vt']) wr (.agg #[.slice q1 m.v.length c1, .slice q2 m.a.length c2, .slice q3 m.t.length c3]) m) ∧ Hid (TwW w wr p p' m n va vt va' vt') ∧ Hid (Blk wr w.heap.size #[.slice vq n.v.length vc, .slice aq n.a.length ac, .slice tq n.t.length tc] 26) ∧ Hid (Blk wr w4.heap.size #[.slice t1 n.v.length g1, .slice t2 n.a.length g2, .slice t3 n.t.length g3] 34) ∧ Hid (NetA (Off [va, vt, va', vt']) wr (.agg #[.slice t1 n.v.length g1, .slice t2 n.a.length g2, .slice t3 n.t.length g3]) n)) (fun i _ => acts.length - (intOf i).toNat)
      case atStart => exact ⟨0, n, vq, aq, tq, vc, ac, tc, Nat.zero_le _, rfl, K0, N0, TW, KA, KT, NT⟩
      case round =>
        clear K0 N0 TW KA KT NT
        obtain ⟨k, m, q1, q2, q3, c1, c2, c3, hk, rfl, KM, NM, TW, KA, KT, NT⟩ := hrel
        by_cases hlt : k < acts.length
        · have hli : (k : Int) < (acts.length : Int) := by omega
          obtain ⟨ab, ao, rfl, x0, x1, x2, x3, x4⟩ := HAC.out.at hlt
          have hx := act_bounds HAI.out hlt
          obtain ⟨x, ex⟩ : ∃ x, acts[k] = x := ⟨_, rfl⟩
          rw [ex] at x0 x1 x2 x3 x4 hx
          clear ex
          obtain ⟨xk, xa, xi, xo, xw⟩ := x
          obtain ⟨M, eM⟩ : ∃ M, (actN m ⟨xk, xa, xi, xo, xw⟩).1 = M := ⟨_, rfl⟩
          have HM_ := Lib.hid eM
          have HX := Lib.hid hx
          have X0 := Lib.hid x0
          have X1 := Lib.hid x1
          have X2 := Lib.hid x2
          have X3 := Lib.hid x3
          have X4 := Lib.hid x4
          clear x0 x1 x2 x3 x4 hx eM
          go_wp2_with fail
          have DS0 := Lib.hid (GG.ActS.start (vs := [va, vt, va', vt']) (m := M) TW.out.g TW.out.b)
          refine' GG.wp_thenL _ 12 (GG.ActS [va, vt, va', vt'] va vt p m M w wr) [[], [], [], [], [2, 3], [2, 3, 4], [0, 1, 2, 3, 4, 5], [0, 1, 2, 3, 4, 5, 6], [0, 1, 2, 3, 4, 5, 6, 7], [0, 1, 2, 3, 4, 5, 6, 7], [], [0, 1, 2, 3, 4, 5, 6, 7, 8, 10]] (GG.Fact.lit (Rl := GG.RlM [va, vt, va', vt'] M) _ :: GG.Fact.lit (Rl := GG.RlM [va, vt, va', vt'] M) _ :: GG.Fact.lit (Rl := GG.RlM [va, vt, va', vt'] M) _ :: GG.Fact.lit (Rl := GG.RlM [va, vt, va', vt'] M) _ :: GG.Fact.lit (Rl := GG.RlM [va, vt, va', vt'] M) _ :: GG.Fact.lit (Rl := GG.RlM [va, vt, va', vt'] M) _ :: GG.Fact.prop (Rl := GG.RlM [va, vt, va', vt'] M) _ _ :: GG.Fact.prop (Rl := GG.RlM [va, vt, va', vt'] M) _ _ :: GG.Fact.prop (Rl := GG.RlM [va, vt, va', vt'] M) _ _ :: GG.Fact.lit (Rl := GG.RlM [va, vt, va', vt'] M) _ :: GG.Fact.prop (Rl := GG.RlM [va, vt, va', vt'] M) _ _ :: GG.Fact.lit (Rl := GG.RlM [va, vt, va', vt'] M) _ :: []) (by kernel_rfl) rfl (by kernel_rfl) (0) (DS0.out) ?seqtg
          case' seqtg => skip
          (refine' GG.grow_lit (GG.ActS.still (by decide) (by decide) (by decide)) rfl ?wttg0 ?runtg0 ?puttg0 ?nexttg0; (case wttg0 => rfl); (case runtg0 => (intro w' hS; (obtain ⟨dn, s, hS⟩ := hS); (obtain ⟨a0, a1, a2, -, -, -⟩ := (hS.d.k.blk KM.out (off_blk (graph_mut TW.out.g) KM.out (by decide) (by decide))).o3); (have x0 := keep hS.d.b X0.out); (have x1 := keep hS.d.b X1.out); (have x2 := keep hS.d.b X2.out); (have x3 := keep hS.d.b X3.out); (have x4 := keep hS.d.b X4.out); (have hab := World.block_lt_of_cell? w' _ x0); clear hS; go_simp; first | done | exact rfl)); (case puttg0 => (first | (simp only [Act.put, List.setIfInBounds_toArray, List.set_cons_zero, List.set_cons_succ]; first | done | exact rfl) | rfl)); (case' nexttg0 => skip))
          (refine' GG.grow_lit (GG.ActS.still (by decide) (by decide) (by decide)) rfl ?wttg1 ?runtg1 ?puttg1 ?nexttg1; (case wttg1 => rfl); (case runtg1 => (intro w' hS; (obtain ⟨dn, s, hS⟩ := hS); (obtain ⟨a0, a1, a2, -, -, -⟩ := (hS.d.k.blk KM.out (off_blk (graph_mut TW.out.g) KM.out (by decide) (by decide))).o3); (have x0 := keep hS.d.b X0.out); (have x1 := keep hS.d.b X1.out); (have x2 := keep hS.d.b X2.out); (have x3 := keep hS.d.b X3.out); (have x4 := keep hS.d.b X4.out); (have hab := World.block_lt_of_cell? w' _ x0); clear hS; go_simp; first | done | exact rfl)); (case puttg1 => (first | (simp only [Act.put, List.setIfInBounds_toArray, List.set_cons_zero, List.set_cons_succ]; first | done | exact rfl) | rfl)); (case' nexttg1 => skip))
          (refine' GG.grow_lit (GG.ActS.still (by decide) (by decide) (by decide)) rfl ?wttg2 ?runtg2 ?puttg2 ?nexttg2; (case wttg2 => rfl); (case runtg2 => (intro w' hS; (obtain ⟨dn, s, hS⟩ := hS); (obtain ⟨a0, a1, a2, -, -, -⟩ := (hS.d.k.blk KM.out (off_blk (graph_mut TW.out.g) KM.out (by decide) (by decide))).o3); (have x0 := keep hS.d.b X0.out); (have x1 := keep hS.d.b X1.out); (have x2 := keep hS.d.b X2.out); (have x3 := keep hS.d.b X3.out); (have x4 := keep hS.d.b X4.out); (have hab := World.block_lt_of_cell? w' _ x0); clear hS; go_simp; first | done | exact rfl)); (case puttg2 => (first | (simp only [Act.put, List.setIfInBounds_toArray, List.set_cons_zero, List.set_cons_succ]; first | done | exact rfl) | rfl)); (case' nexttg2 => skip))
          (refine' GG.grow_lit (GG.ActS.still (by decide) (by decide) (by decide)) rfl ?wttg3 ?runtg3 ?puttg3 ?nexttg3; (case wttg3 => rfl); (case runtg3 => (intro w' hS; (obtain ⟨dn, s, hS⟩ := hS); (obtain ⟨a0, a1, a2, -, -, -⟩ := (hS.d.k.blk KM.out (off_blk (graph_mut TW.out.g) KM.out (by decide) (by decide))).o3); (have x0 := keep hS.d.b X0.out); (have x1 := keep hS.d.b X1.out); (have x2 := keep hS.d.b X2.out); (have x3 := keep hS.d.b X3.out); (have x4 := keep hS.d.b X4.out); (have hab := World.block_lt_of_cell? w' _ x0); clear hS; go_simp; first | done | exact rfl)); (case puttg3 => (first | (simp only [Act.put, List.setIfInBounds_toArray, List.set_cons_zero, List.set_cons_succ]; first | done | exact rfl) | rfl)); (case' nexttg3 => skip))
          (refine' GG.grow_lit (GG.ActS.still (by decide) (by decide) (by decide)) rfl ?wttg4 ?runtg4 ?puttg4 ?nexttg4; (case wttg4 => rfl); (case runtg4 => (intro w' hS; (obtain ⟨dn, s, hS⟩ := hS); (obtain ⟨a0, a1, a2, -, -, -⟩ := (hS.d.k.blk KM.out (off_blk (graph_mut TW.out.g) KM.out (by decide) (by decide))).o3); (have x0 := keep hS.d.b X0.out); (have x1 := keep hS.d.b X1.out); (have x2 := keep hS.d.b X2.out); (have x3 := keep hS.d.b X3.out); (have x4 := keep hS.d.b X4.out); (have hab := World.block_lt_of_cell? w' _ x0); clear hS; go_simp; first | done | exact rfl)); (case puttg4 => (first | (simp only [Act.put, List.setIfInBounds_toArray, List.set_cons_zero, List.set_cons_succ]; first | done | exact rfl) | rfl)); (case' nexttg4 => skip))
          (refine' GG.grow_lit (GG.ActS.still (by decide) (by decide) (by decide)) rfl ?wttg5 ?runtg5 ?puttg5 ?nexttg5; (case wttg5 => rfl); (case runtg5 => (intro w' hS; (obtain ⟨dn, s, hS⟩ := hS); (obtain ⟨a0, a1, a2, -, -, -⟩ := (hS.d.k.blk KM.out (off_blk (graph_mut TW.out.g) KM.out (by decide) (by decide))).o3); (have x0 := keep hS.d.b X0.out); (have x1 := keep hS.d.b X1.out); (have x2 := keep hS.d.b X2.out); (have x3 := keep hS.d.b X3.out); (have x4 := keep hS.d.b X4.out); (have hab := World.block_lt_of_cell? w' _ x0); clear hS; go_simp; first | done | exact rfl)); (case puttg5 => (first | (simp only [Act.put, List.setIfInBounds_toArray, List.set_cons_zero, List.set_cons_succ]; first | done | exact rfl) | rfl)); (case' nexttg5 => skip))
          (refine' GG.grow_any_call (p := fun v _ w => DoneP [va, vt, va', vt'] M v w) (hp := fun v s w s' w' h hb => DoneP.keep h hb) rfl Tryd.func11 (by kernel_rfl) rfl rfl ?wttg6 ?runtg6 ?puttg6 ?nexttg6; (case wttg6 => rfl); (case runtg6 => (intro dn s w' hS hd H; exact (do6_to HG.out hS.d.b TW.out.og (hS.d.g0 hd) TW.out.gn (NM.out.keep (hS.d.k.mono off4a)) (by simp) (by simp) (TW.out.mutG hS.d.k hS.d.mut) ⟨xk, xa, xi, xo, xw⟩ HX.out HM_.out).mono (fun e w2 ⟨u, h1, h2, h3, h4⟩ => ⟨_, s, h1, ⟨u, rfl, h2⟩, (hS.put (by simp) (by simp) TW.out.og h3 h4).1, (hS.put (by simp) (by simp) TW.out.og h3 h4).2, h4.size⟩))); (case puttg6 => (intro v; (simp only [Act.put, List.setIfInBounds_toArray, List.set_cons_zero, List.set_cons_succ]; first | done | exact rfl))); (case' nexttg6 => intro v6))
          (refine' GG.grow_any_op (p := fun v _ w => DoneP [va, vt, va', vt'] M v w) (hp := fun v s w s' w' h hb => DoneP.keep h hb) rfl ?wttg7 ?runtg7 ?puttg7 ?nexttg7; (case wttg7 => rfl); (case runtg7 => (intro dn s w' hS hd H; (have hv : DoneP [va, vt, va', vt'] M v6 w' := H 6 (by decide)); exact ⟨v6, s, w', (by clear hS H hd hv; go_simp; first | done | exact rfl), hv, hS.step (by decide) (by decide) (by decide), GG.RlM.refl, Nat.le_refl _⟩)); (case puttg7 => (intro v; (simp only [Act.put, List.setIfInBounds_toArray, List.set_cons_zero, List.set_cons_succ]; first | done | exact rfl))); (case' nexttg7 => intro v7))
          (refine' GG.grow_any_op (p := fun v _ w => NetA (Off [va, vt, va', vt']) w v M) (hp := fun v s w s' w' h hb => hb.2 _ h) rfl ?wttg8 ?runtg8 ?puttg8 ?nexttg8; (case wttg8 => rfl); (case runtg8 => (intro dn s w' hS hd H; (have hv : DoneP [va, vt, va', vt'] M v7 w' := H 7 (by decide)); (obtain ⟨u, rfl, hU⟩ := hv); exact ⟨u, s, w', (by clear hS H hd hU; go_simp; first | done | exact rfl), hU, hS.step (by decide) (by decide) (by decide), GG.RlM.refl, Nat.le_refl _⟩)); (case puttg8 => (intro v; (simp only [Act.put, List.setIfInBounds_toArray, List.set_cons_zero, List.set_cons_succ]; first | done | exact rfl))); (case' nexttg8 => intro v8))
          (refine' GG.grow_write (u := .bool true) rfl ?wttg9 ?runtg9 ?puttg9 ?nexttg9; (case wttg9 => rfl); (case runtg9 => (intro dn s w' hS hd H; (have hv : DoneP [va, vt, va', vt'] M v7 w' := H 7 (by decide)); (obtain ⟨u, rfl, hU⟩ := hv); exact ⟨s, w', (by clear hS H hd hU; go_simp; first | done | exact rfl), hS.step (by decide) (by decide) (by decide), GG.RlM.refl, Nat.le_refl _⟩)); (case puttg9 => (first | (simp only [Act.put, List.setIfInBounds_toArray, List.set_cons_zero, List.set_cons_succ]; first | done | exact rfl) | rfl)); (case' nexttg9 => skip))
          (refine' GG.grow_any_op (p := fun v s _ => v = .pointer (some ⟨s, 0, none⟩) ∧ s ≠ 0) (hp := fun v s w s' w' h hb => (hb.1 h.2).symm ▸ h) rfl ?wttg10 ?runtg10 ?puttg10 ?nexttg10; (case wttg10 => rfl); (case runtg10 => (intro dn s w' hS hd H; (have hz : w'.heap.size ≠ 0 := by have := KM.out.lt; have := hS.d.k.size; omega); exact ⟨.pointer (some ⟨w'.heap.size, 0, none⟩), w'.heap.size, w'.alloc (.cells #[.slice none 0 0, .slice none 0 0, .slice none 0 0] 26), (by clear hS H hd hz; go_simp; first | done | exact rfl), ⟨rfl, hz⟩, (hS.box hd).1, (hS.box hd).2, (below_new _).size⟩)); (case puttg10 => (intro v; (simp only [Act.put, List.setIfInBounds_toArray, List.set_cons_zero, List.set_cons_succ]; first | done | exact rfl))); (case' nexttg10 => intro v10))
          (refine' GG.grow_store rfl ?wttg11 ?runtg11 ?puttg11 ?nexttg11; (case wttg11 => rfl); (case runtg11 => (intro dn s w' hS hd H; (have hv : NetA (Off [va, vt, va', vt']) w' v8 M := H 8 (by decide)); (have hp : v10 = .pointer (some ⟨s, 0, none⟩) ∧ s ≠ 0 := H 10 (by decide)); (obtain ⟨rfl, hs0⟩ := hp); (obtain ⟨y1, y2, y3, d1, d2, d3, rfl, -⟩ := hv.net.shape); (have hz := hS.zero hs0 hd); (have h5 := hS.lay hs0 hd hv rfl); (obtain ⟨r0, r1, r2, f0, f1, f2⟩ := Blk.o3 hz); (have lr := Blk.lt hz); exact ⟨s, _, (by clear hS H hd hv h5 hz; go_simp; first | done | exact rfl), h5.1, h5.2, (keep_hdr w' s _ _ _).size⟩)); (case puttg11 => rfl); (case' nexttg11 => skip))
          intro dn s w2 hS hdn H
          have hv10 : v10 = .pointer (some ⟨s, 0, none⟩) ∧ s ≠ 0 := H 10 (by decide)
          obtain ⟨rfl, hs0⟩ := hv10
          obtain ⟨y1, y2, y3, d1, d2, d3, hB, hN⟩ := hS.b1 (hdn 11 (by decide))
          have TW2 := Lib.hid (TW.out.didG hS.d.k (hS.d.g1 (hdn 6 (by decide))) (HM_.out ▸ actN_grn TW.out.gn _) hS.d.b)
          have KM2 := Lib.hid (hS.d.k.blk KM.out (off_blk (graph_mut TW.out.g) KM.out (by decide) (by decide)))
          have KA2 := Lib.hid (hS.d.k.blk KA.out (off_blk (graph_mut TW.out.g) KA.out (by decide) (by decide)))
          have KT2 := Lib.hid (hS.d.k.blk KT.out (off_blk (graph_mut TW.out.g) KT.out (by decide) (by decide)))
          have NT2 := Lib.hid (NT.out.keep (hS.d.k.mono off4a))
          clear hS hdn H hs0 KM NM TW DS0 KA KT NT
          have KN : Hid (Blk w2 s #[.slice y1 M.v.length d1, .slice y2 M.a.length d2, .slice y3 M.t.length d3] 26) := Lib.hid hB
          have NM := Lib.hid hN
          clear hB hN
          refine wpAny_ready (rs := [12]) (by kernel_rfl) (by simp) (AllReady.cons rfl (fun K hK => ?_) AllReady.nil)
          go_simp
          refine hK _ _ ?_
          clear hK K
          refine wpAny_done (by kernel_rfl) ?_ _
          obtain ⟨r0, r1, r2, -, -, -⟩ := KN.out.o3
          obtain ⟨a0, a1, a2, f0, f1, f2⟩ := KM2.out.o3
          have lr := KN.out.lt
          have la := KM2.out.lt
          go_wp2_with fail
          clear r0 r1 r2 a0 a1 a2 f0 f1 f2 lr la
          go_roundw
          case rel => exact ⟨k + 1, M, y1, y2, y3, d1, d2, d3, by omega, by go_num, Lib.hid (blk_hdr KM2.out _ _ _), Lib.hid (NM.out.box KM2.out (hdr3 _ _ _ _ _ _ _ _ _) (keep_hdr _ _ _ _ _)), Lib.hid (TW2.out.box KM2.out (hdr3 _ _ _ _ _ _ _ _ _) HLE.out (keep_hdr _ _ _ _ _)), Lib.hid ((keep_hdr _ _ _ _ _).blk KA2.out HNE.out.1), Lib.hid ((keep_hdr _ _ _ _ _).blk KT2.out HNE.out.2), Lib.hid (NT2.out.box KM2.out (hdr3 _ _ _ _ _ _ _ _ _) (keep_hdr _ _ _ _ _))⟩
          case measure => simp [intOf]; omega
        · have hli : ¬ (k : Int) < (acts.length : Int) := by omega
          go_wp2_with fail
          have hGS : Grows (fun w' => Below wr.heap.size wr w') := Grows.below wr
          refine' wp_growL _ (fun w' => Below wr.heap.size wr w') [[], [], [0, 1], [2], [3], [4], [4, 5], [4], [4, 6, 7], [4, 8], [4, 9]] (Fact.lit _ :: Fact.lit _ :: Fact.lit _ :: Fact.lit _ :: Fact.lit _ :: Fact.lit _ :: Fact.prop _ _ :: Fact.lit _ :: Fact.lit _ :: Fact.lit _ :: Fact.lit _ :: []) (by kernel_rfl) rfl (by kernel_rfl) (Below.refl _ _).drew ?seqta
          case' seqta => skip
          iterate 2 ((first | (apply grow_skip; (case hf => rfl); (case hw => rfl)) | (apply grow_lit; (case hf => rfl); (case hw => rfl); (case hrun => (intro w' hS H; clear H; (obtain ⟨a0, a1, a2, -, -, -⟩ := (KA.out.keep hS).o3); (obtain ⟨b0, b1, b2, -, -, -⟩ := (KT.out.keep hS).o3); clear hS; go_simp; first | done | exact rfl)))); (case hc => (simp only [Act.put, List.setIfInBounds_toArray, List.set_cons_zero, List.set_cons_succ]; first | done | exact rfl)); (try (case hj => rfl)))
          (refine' grow_call (u := .bool true) rfl Tryd.func10 (by kernel_rfl) rfl hGS rfl ?wt1 ?run1 ?put1 ?next1; (case wt1 => rfl); (case run1 => (intro w' hS H; exact same6_any (TW.out.t.old hS) GN.out (HV.out.below (bOn6 TW.out.b hS)))); (case put1 => (simp only [Act.put, List.setIfInBounds_toArray, List.set_cons_zero, List.set_cons_succ]; first | done | exact rfl)); (case' next1 => skip))
          iterate 3 ((first | (apply grow_skip; (case hf => rfl); (case hw => rfl)) | (apply grow_lit; (case hf => rfl); (case hw => rfl); (case hrun => (intro w' hS H; clear H; (obtain ⟨a0, a1, a2, -, -, -⟩ := (KA.out.keep hS).o3); (obtain ⟨b0, b1, b2, -, -, -⟩ := (KT.out.keep hS).o3); clear hS; go_simp; first | done | exact rfl)))); (case hc => (simp only [Act.put, List.setIfInBounds_toArray, List.set_cons_zero, List.set_cons_succ]; first | done | exact rfl)); (try (case hj => rfl)))
          (refine' grow_callP (p := fun v w => NetV w v n) (hp := fun v w w' h hb => h.below hb) rfl Tryd.func13 (by kernel_rfl) rfl hGS rfl ?wt2 ?run2 ?put2 ?next2; (case wt2 => rfl); (case run2 => (intro w' hS H; exact vOf6 (NT.out.net.below hS) GN.out)); (case put2 => (intro v; simp only [Act.put, List.setIfInBounds_toArray, List.set_cons_zero, List.set_cons_succ]; first | done | exact rfl)); (case' next2 => intro v6))
          iterate 1 ((first | (apply grow_skip; (case hf => rfl); (case hw => rfl)) | (apply grow_lit; (case hf => rfl); (case hw => rfl); (case hrun => (intro w' hS H; clear H; (obtain ⟨a0, a1, a2, -, -, -⟩ := (KA.out.keep hS).o3); (obtain ⟨b0, b1, b2, -, -, -⟩ := (KT.out.keep hS).o3); clear hS; go_simp; first | done | exact rfl)))); (case hc => (simp only [Act.put, List.setIfInBounds_toArray, List.set_cons_zero, List.set_cons_succ]; first | done | exact rfl)); (try (case hj => rfl)))
          (refine' grow_call (u := .bool true) rfl Tryd.func12 (by kernel_rfl) rfl hGS rfl ?wt3 ?run3 ?put3 ?next3; (case wt3 => rfl); (case run3 => (intro w' hS H; (have h1 : NetV w' v6 n := H 6 (by decide)); exact rvsame h1 (HV.out.below (bOn6 TW.out.b hS)) (by simp [sameN]))); (case put3 => (simp only [Act.put, List.setIfInBounds_toArray, List.set_cons_zero, List.set_cons_succ]; first | done | exact rfl)); (case' next3 => skip))
          iterate 2 ((first | (apply grow_skip; (case hf => rfl); (case hw => rfl)) | (apply grow_lit; (case hf => rfl); (case hw => rfl); (case hrun => (intro w' hS H; clear H; (obtain ⟨a0, a1, a2, -, -, -⟩ := (KA.out.keep hS).o3); (obtain ⟨b0, b1, b2, -, -, -⟩ := (KT.out.keep hS).o3); clear hS; go_simp; first | done | exact rfl)))); (case hc => (simp only [Act.put, List.setIfInBounds_toArray, List.set_cons_zero, List.set_cons_succ]; first | done | exact rfl)); (try (case hj => rfl)))
          intro w6 hb _
          have KA_ := Lib.hid (KA.out.keep hb)
          have KM_ := Lib.hid (KM.out.keep hb)
          have TW_ := Lib.hid (TW.out.old hb)
          have NM_ := Lib.hid (NM.out.old hb)
          clear KA KM TW NM
          have KA := KA_
          have KM := KM_
          have TW := TW_
          have NM := NM_
          clear KA_ KM_ TW_ NM_
          clear hb hGS KT NT
          obtain ⟨ka0, ka1, ka2, -, -, -⟩ := KA.out.o3
          have hka := KA.out.lt
          go_wp2_with fail
          clear ka0 ka1 ka2 hka
          have HNF : Hid (w5.heap.size ≠ w6.heap.size) := Lib.hid (by have := KM.out.lt; omega)
          have HLF : Hid (w.heap.size ≤ w6.heap.size) := Lib.hid TW.out.b.size
          clear HLE HNE
          have HLE := HLF
          have HNE := HNF
          have KG := KM
          have NG := NM
          obtain ⟨mg, emg⟩ : ∃ x, x = m := ⟨m, rfl⟩
          subst emg
          clear KM NM KA
          obtain ⟨W6, hW6⟩ := named (w6.alloc (.cells #[.slice vq n.v.length vc, .slice aq n.a.length ac, .slice tq n.t.length tc] 26))
          rw [← hW6]
          have hb : Below w6.heap.size w6 W6 := by rw [hW6]; exact below_new _
          have KG_ := Lib.hid (KG.out.keep hb)
          have TW_ := Lib.hid (TW.out.old hb)
          have NG_ := Lib.hid (NG.out.old hb)
          clear KG TW NG
          have KG := KG_
          have TW := TW_
          have NG := NG_
          clear KG_ TW_ NG_
          have K0 : Hid (Blk W6 w6.heap.size #[.slice vq n.v.length vc, .slice aq n.a.length ac, .slice tq n.t.length tc] 26) := by rw [hW6]; exact Lib.hid (Blk.new _ _ _ _ rfl)
          clear hb hW6
          have N0 : Hid (NetA (Off [va, vt, va', vt']) W6 (.agg #[.slice vq n.v.length vc, .slice aq n.a.length ac, .slice tq n.t.length tc]) n) := Lib.hid ((HV.out.av.old TW.out.b).mono TW.out.o)
          obtain ⟨u1, u2, u3, l1, l2, l3, h1, h2, h3, h4, h5, h6⟩ : ∃ u1 u2 u3 l1 l2 l3, u1 = q1 ∧ u2 = q2 ∧ u3 = q3 ∧ l1 = c1 ∧ l2 = c2 ∧ l3 = c3 := ⟨q1, q2, q3, c1, c2, c3, rfl, rfl, rfl, rfl, rfl, rfl⟩
          subst h1 h2 h3 h4 h5 h6
          go_loopw [18] (fun i wr => ∃ (k : Nat) (m : NetD) (q1 q2 q3 : Option Addr) (c1 c2 c3 : Nat), k ≤ more.length ∧ i = .int .i64 k ∧ Hid (Blk wr w6.heap.size #[.slice q1 m.v.length c1, .slice q2 m.a.length c2, .slice q3 m.t.length c3] 26) ∧ Hid (NetA (Off [va, vt, va', vt']) wr (.agg #[.slice q1 m.v.length c1, .slice q2 m.a.length c2, .slice q3 m.t.length c3]) m) ∧ Hid (TwW w wr p p' mg m va vt va' vt') ∧ Hid (Blk wr w5.heap.size #[.slice u1 mg.v.length l1, .slice u2 mg.a.length l2, .slice u3 mg.t.length l3] 26) ∧ Hid (NetA (Off [va, vt, va', vt']) wr (.agg #[.slice u1 mg.v.length l1, .slice u2 mg.a.length l2, .slice u3 mg.t.length l3]) mg)) (fun i _ => more.length - (intOf i).toNat)
          case atStart => exact ⟨0, n, vq, aq, tq, vc, ac, tc, Nat.zero_le _, rfl, K0, N0, TW, KG, NG⟩
          case round =>
            clear K0 N0 TW KG NG
            obtain ⟨k, m, q1, q2, q3, c1, c2, c3, hk, rfl, KM, NM, TW, KG, NG⟩ := hrel
            by_cases hlt : k < more.length
            · have hli : (k : Int) < (more.length : Int) := by omega
              obtain ⟨ab, ao, rfl, x0, x1, x2, x3, x4⟩ := HMC.out.at hlt
              have hx := act_bounds HMI.out hlt
              obtain ⟨x, ex⟩ : ∃ x, more[k] = x := ⟨_, rfl⟩
              rw [ex] at x0 x1 x2 x3 x4 hx
              clear ex
              obtain ⟨xk, xa, xi, xo, xw⟩ := x
              obtain ⟨M, eM⟩ : ∃ M, (actN m ⟨xk, xa, xi, xo, xw⟩).1 = M := ⟨_, rfl⟩
              have HM_ := Lib.hid eM
              have HX := Lib.hid hx
              have X0 := Lib.hid x0
              have X1 := Lib.hid x1
              have X2 := Lib.hid x2
              have X3 := Lib.hid x3
              have X4 := Lib.hid x4
              clear x0 x1 x2 x3 x4 hx eM
              go_wp2_with fail
              have DS0 := Lib.hid (GG.ActS.start (vs := [va, vt, va', vt']) (m := M) TW.out.t TW.out.b)
              refine' GG.wp_thenL _ 12 (GG.ActS [va, vt, va', vt'] va' vt' p' m M w wr) [[], [], [], [], [2, 3], [2, 3, 4], [0, 1, 2, 3, 4, 5], [0, 1, 2, 3, 4, 5, 6], [0, 1, 2, 3, 4, 5, 6, 7], [0, 1, 2, 3, 4, 5, 6, 7], [], [0, 1, 2, 3, 4, 5, 6, 7, 8, 10]] (GG.Fact.lit (Rl := GG.RlM [va, vt, va', vt'] M) _ :: GG.Fact.lit (Rl := GG.RlM [va, vt, va', vt'] M) _ :: GG.Fact.lit (Rl := GG.RlM [va, vt, va', vt'] M) _ :: GG.Fact.lit (Rl := GG.RlM [va, vt, va', vt'] M) _ :: GG.Fact.lit (Rl := GG.RlM [va, vt, va', vt'] M) _ :: GG.Fact.lit (Rl := GG.RlM [va, vt, va', vt'] M) _ :: GG.Fact.prop (Rl := GG.RlM [va, vt, va', vt'] M) _ _ :: GG.Fact.prop (Rl := GG.RlM [va, vt, va', vt'] M) _ _ :: GG.Fact.prop (Rl := GG.RlM [va, vt, va', vt'] M) _ _ :: GG.Fact.lit (Rl := GG.RlM [va, vt, va', vt'] M) _ :: GG.Fact.prop (Rl := GG.RlM [va, vt, va', vt'] M) _ _ :: GG.Fact.lit (Rl := GG.RlM [va, vt, va', vt'] M) _ :: []) (by kernel_rfl) rfl (by kernel_rfl) (0) (DS0.out) ?seqtt
              case' seqtt => skip
              (refine' GG.grow_lit (GG.ActS.still (by decide) (by decide) (by decide)) rfl ?wttt0 ?runtt0 ?puttt0 ?nexttt0; (case wttt0 => rfl); (case runtt0 => (intro w' hS; (obtain ⟨dn, s, hS⟩ := hS); (obtain ⟨a0, a1, a2, -, -, -⟩ := (hS.d.k.blk KM.out (off_blk (graph_mut TW.out.t) KM.out (by decide) (by decide))).o3); (have x0 := keep hS.d.b X0.out); (have x1 := keep hS.d.b X1.out); (have x2 := keep hS.d.b X2.out); (have x3 := keep hS.d.b X3.out); (have x4 := keep hS.d.b X4.out); (have hab := World.block_lt_of_cell? w' _ x0); clear hS; go_simp; first | done | exact rfl)); (case puttt0 => (first | (simp only [Act.put, List.setIfInBounds_toArray, List.set_cons_zero, List.set_cons_succ]; first | done | exact rfl) | rfl)); (case' nexttt0 => skip))
              (refine' GG.grow_lit (GG.ActS.still (by decide) (by decide) (by decide)) rfl ?wttt1 ?runtt1 ?puttt1 ?nexttt1; (case wttt1 => rfl); (case runtt1 => (intro w' hS; (obtain ⟨dn, s, hS⟩ := hS); (obtain ⟨a0, a1, a2, -, -, -⟩ := (hS.d.k.blk KM.out (off_blk (graph_mut TW.out.t) KM.out (by decide) (by decide))).o3); (have x0 := keep hS.d.b X0.out); (have x1 := keep hS.d.b X1.out); (have x2 := keep hS.d.b X2.out); (have x3 := keep hS.d.b X3.out); (have x4 := keep hS.d.b X4.out); (have hab := World.block_lt_of_cell? w' _ x0); clear hS; go_simp; first | done | exact rfl)); (case puttt1 => (first | (simp only [Act.put, List.setIfInBounds_toArray, List.set_cons_zero, List.set_cons_succ]; first | done | exact rfl) | rfl)); (case' nexttt1 => skip))
              (refine' GG.grow_lit (GG.ActS.still (by decide) (by decide) (by decide)) rfl ?wttt2 ?runtt2 ?puttt2 ?nexttt2; (case wttt2 => rfl); (case runtt2 => (intro w' hS; (obtain ⟨dn, s, hS⟩ := hS); (obtain ⟨a0, a1, a2, -, -, -⟩ := (hS.d.k.blk KM.out (off_blk (graph_mut TW.out.t) KM.out (by decide) (by decide))).o3); (have x0 := keep hS.d.b X0.out); (have x1 := keep hS.d.b X1.out); (have x2 := keep hS.d.b X2.out); (have x3 := keep hS.d.b X3.out); (have x4 := keep hS.d.b X4.out); (have hab := World.block_lt_of_cell? w' _ x0); clear hS; go_simp; first | done | exact rfl)); (case puttt2 => (first | (simp only [Act.put, List.setIfInBounds_toArray, List.set_cons_zero, List.set_cons_succ]; first | done | exact rfl) | rfl)); (case' nexttt2 => skip))
              (refine' GG.grow_lit (GG.ActS.still (by decide) (by decide) (by decide)) rfl ?wttt3 ?runtt3 ?puttt3 ?nexttt3; (case wttt3 => rfl); (case runtt3 => (intro w' hS; (obtain ⟨dn, s, hS⟩ := hS); (obtain ⟨a0, a1, a2, -, -, -⟩ := (hS.d.k.blk KM.out (off_blk (graph_mut TW.out.t) KM.out (by decide) (by decide))).o3); (have x0 := keep hS.d.b X0.out); (have x1 := keep hS.d.b X1.out); (have x2 := keep hS.d.b X2.out); (have x3 := keep hS.d.b X3.out); (have x4 := keep hS.d.b X4.out); (have hab := World.block_lt_of_cell? w' _ x0); clear hS; go_simp; first | done | exact rfl)); (case puttt3 => (first | (simp only [Act.put, List.setIfInBounds_toArray, List.set_cons_zero, List.set_cons_succ]; first | done | exact rfl) | rfl)); (case' nexttt3 => skip))
              (refine' GG.grow_lit (GG.ActS.still (by decide) (by decide) (by decide)) rfl ?wttt4 ?runtt4 ?puttt4 ?nexttt4; (case wttt4 => rfl); (case runtt4 => (intro w' hS; (obtain ⟨dn, s, hS⟩ := hS); (obtain ⟨a0, a1, a2, -, -, -⟩ := (hS.d.k.blk KM.out (off_blk (graph_mut TW.out.t) KM.out (by decide) (by decide))).o3); (have x0 := keep hS.d.b X0.out); (have x1 := keep hS.d.b X1.out); (have x2 := keep hS.d.b X2.out); (have x3 := keep hS.d.b X3.out); (have x4 := keep hS.d.b X4.out); (have hab := World.block_lt_of_cell? w' _ x0); clear hS; go_simp; first | done | exact rfl)); (case puttt4 => (first | (simp only [Act.put, List.setIfInBounds_toArray, List.set_cons_zero, List.set_cons_succ]; first | done | exact rfl) | rfl)); (case' nexttt4 => skip))
              (refine' GG.grow_lit (GG.ActS.still (by decide) (by decide) (by decide)) rfl ?wttt5 ?runtt5 ?puttt5 ?nexttt5; (case wttt5 => rfl); (case runtt5 => (intro w' hS; (obtain ⟨dn, s, hS⟩ := hS); (obtain ⟨a0, a1, a2, -, -, -⟩ := (hS.d.k.blk KM.out (off_blk (graph_mut TW.out.t) KM.out (by decide) (by decide))).o3); (have x0 := keep hS.d.b X0.out); (have x1 := keep hS.d.b X1.out); (have x2 := keep hS.d.b X2.out); (have x3 := keep hS.d.b X3.out); (have x4 := keep hS.d.b X4.out); (have hab := World.block_lt_of_cell? w' _ x0); clear hS; go_simp; first | done | exact rfl)); (case puttt5 => (first | (simp only [Act.put, List.setIfInBounds_toArray, List.set_cons_zero, List.set_cons_succ]; first | done | exact rfl) | rfl)); (case' nexttt5 => skip))
              (refine' GG.grow_any_call (p := fun v _ w => DoneP [va, vt, va', vt'] M v w) (hp := fun v s w s' w' h hb => DoneP.keep h hb) rfl Tryd.func11 (by kernel_rfl) rfl rfl ?wttt6 ?runtt6 ?puttt6 ?nexttt6; (case wttt6 => rfl); (case runtt6 => (intro dn s w' hS hd H; exact (do6_to HG.out hS.d.b TW.out.ot (hS.d.g0 hd) TW.out.tn (NM.out.keep (hS.d.k.mono off4b)) (by simp) (by simp) (TW.out.mutT hS.d.k hS.d.mut) ⟨xk, xa, xi, xo, xw⟩ HX.out HM_.out).mono (fun e w2 ⟨u, h1, h2, h3, h4⟩ => ⟨_, s, h1, ⟨u, rfl, h2⟩, (hS.put (by simp) (by simp) TW.out.ot h3 h4).1, (hS.put (by simp) (by simp) TW.out.ot h3 h4).2, h4.size⟩))); (case puttt6 => (intro v; (simp only [Act.put, List.setIfInBounds_toArray, List.set_cons_zero, List.set_cons_succ]; first | done | exact rfl))); (case' nexttt6 => intro v6))
              (refine' GG.grow_any_op (p := fun v _ w => DoneP [va, vt, va', vt'] M v w) (hp := fun v s w s' w' h hb => DoneP.keep h hb) rfl ?wttt7 ?runtt7 ?puttt7 ?nexttt7; (case wttt7 => rfl); (case runtt7 => (intro dn s w' hS hd H; (have hv : DoneP [va, vt, va', vt'] M v6 w' := H 6 (by decide)); exact ⟨v6, s, w', (by clear hS H hd hv; go_simp; first | done | exact rfl), hv, hS.step (by decide) (by decide) (by decide), GG.RlM.refl, Nat.le_refl _⟩)); (case puttt7 => (intro v; (simp only [Act.put, List.setIfInBounds_toArray, List.set_cons_zero, List.set_cons_succ]; first | done | exact rfl))); (case' nexttt7 => intro v7))
              (refine' GG.grow_any_op (p := fun v _ w => NetA (Off [va, vt, va', vt']) w v M) (hp := fun v s w s' w' h hb => hb.2 _ h) rfl ?wttt8 ?runtt8 ?puttt8 ?nexttt8; (case wttt8 => rfl); (case runtt8 => (intro dn s w' hS hd H; (have hv : DoneP [va, vt, va', vt'] M v7 w' := H 7 (by decide)); (obtain ⟨u, rfl, hU⟩ := hv); exact ⟨u, s, w', (by clear hS H hd hU; go_simp; first | done | exact rfl), hU, hS.step (by decide) (by decide) (by decide), GG.RlM.refl, Nat.le_refl _⟩)); (case puttt8 => (intro v; (simp only [Act.put, List.setIfInBounds_toArray, List.set_cons_zero, List.set_cons_succ]; first | done | exact rfl))); (case' nexttt8 => intro v8))
              (refine' GG.grow_write (u := .bool true) rfl ?wttt9 ?runtt9 ?puttt9 ?nexttt9; (case wttt9 => rfl); (case runtt9 => (intro dn s w' hS hd H; (have hv : DoneP [va, vt, va', vt'] M v7 w' := H 7 (by decide)); (obtain ⟨u, rfl, hU⟩ := hv); exact ⟨s, w', (by clear hS H hd hU; go_simp; first | done | exact rfl), hS.step (by decide) (by decide) (by decide), GG.RlM.refl, Nat.le_refl _⟩)); (case puttt9 => (first | (simp only [Act.put, List.setIfInBounds_toArray, List.set_cons_zero, List.set_cons_succ]; first | done | exact rfl) | rfl)); (case' nexttt9 => skip))
              (refine' GG.grow_any_op (p := fun v s _ => v = .pointer (some ⟨s, 0, none⟩) ∧ s ≠ 0) (hp := fun v s w s' w' h hb => (hb.1 h.2).symm ▸ h) rfl ?wttt10 ?runtt10 ?puttt10 ?nexttt10; (case wttt10 => rfl); (case runtt10 => (intro dn s w' hS hd H; (have hz : w'.heap.size ≠ 0 := by have := KM.out.lt; have := hS.d.k.size; omega); exact ⟨.pointer (some ⟨w'.heap.size, 0, none⟩), w'.heap.size, w'.alloc (.cells #[.slice none 0 0, .slice none 0 0, .slice none 0 0] 26), (by clear hS H hd hz; go_simp; first | done | exact rfl), ⟨rfl, hz⟩, (hS.box hd).1, (hS.box hd).2, (below_new _).size⟩)); (case puttt10 => (intro v; (simp only [Act.put, List.setIfInBounds_toArray, List.set_cons_zero, List.set_cons_succ]; first | done | exact rfl))); (case' nexttt10 => intro v10))
              (refine' GG.grow_store rfl ?wttt11 ?runtt11 ?puttt11 ?nexttt11; (case wttt11 => rfl); (case runtt11 => (intro dn s w' hS hd H; (have hv : NetA (Off [va, vt, va', vt']) w' v8 M := H 8 (by decide)); (have hp : v10 = .pointer (some ⟨s, 0, none⟩) ∧ s ≠ 0 := H 10 (by decide)); (obtain ⟨rfl, hs0⟩ := hp); (obtain ⟨y1, y2, y3, d1, d2, d3, rfl, -⟩ := hv.net.shape); (have hz := hS.zero hs0 hd); (have h5 := hS.lay hs0 hd hv rfl); (obtain ⟨r0, r1, r2, f0, f1, f2⟩ := Blk.o3 hz); (have lr := Blk.lt hz); exact ⟨s, _, (by clear hS H hd hv h5 hz; go_simp; first | done | exact rfl), h5.1, h5.2, (keep_hdr w' s _ _ _).size⟩)); (case puttt11 => rfl); (case' nexttt11 => skip))
              intro dn s w2 hS hdn H
              have hv10 : v10 = .pointer (some ⟨s, 0, none⟩) ∧ s ≠ 0 := H 10 (by decide)
              obtain ⟨rfl, hs0⟩ := hv10
              obtain ⟨y1, y2, y3, d1, d2, d3, hB, hN⟩ := hS.b1 (hdn 11 (by decide))
              have TW2 := Lib.hid (TW.out.didT hS.d.k (hS.d.g1 (hdn 6 (by decide))) (HM_.out ▸ actN_grn TW.out.tn _) hS.d.b)
              have KM2 := Lib.hid (hS.d.k.blk KM.out (off_blk (graph_mut TW.out.t) KM.out (by decide) (by decide)))
              have KG2 := Lib.hid (hS.d.k.blk KG.out (off_blk (graph_mut TW.out.t) KG.out (by decide) (by decide)))
              have NG2 := Lib.hid (NG.out.keep (hS.d.k.mono off4b))
              clear hS hdn H hs0 KM NM TW DS0 KG NG
              have KN : Hid (Blk w2 s #[.slice y1 M.v.length d1, .slice y2 M.a.length d2, .slice y3 M.t.length d3] 26) := Lib.hid hB
              have NM := Lib.hid hN
              clear hB hN
              refine wpAny_ready (rs := [12]) (by kernel_rfl) (by simp) (AllReady.cons rfl (fun K hK => ?_) AllReady.nil)
              go_simp
              refine hK _ _ ?_
              clear hK K
              refine wpAny_done (by kernel_rfl) ?_ _
              obtain ⟨r0, r1, r2, -, -, -⟩ := KN.out.o3
              obtain ⟨a0, a1, a2, f0, f1, f2⟩ := KM2.out.o3
              have lr := KN.out.lt
              have la := KM2.out.lt
              go_wp2_with fail
              clear r0 r1 r2 a0 a1 a2 f0 f1 f2 lr la
              go_roundw
              case rel => exact ⟨k + 1, M, y1, y2, y3, d1, d2, d3, by omega, by go_num, Lib.hid (blk_hdr KM2.out _ _ _), Lib.hid (NM.out.box KM2.out (hdr3 _ _ _ _ _ _ _ _ _) (keep_hdr _ _ _ _ _)), Lib.hid (TW2.out.box KM2.out (hdr3 _ _ _ _ _ _ _ _ _) HLE.out (keep_hdr _ _ _ _ _)), Lib.hid ((keep_hdr _ _ _ _ _).blk KG2.out HNE.out), Lib.hid (NG2.out.box KM2.out (hdr3 _ _ _ _ _ _ _ _ _) (keep_hdr _ _ _ _ _))⟩
              case measure => simp [intOf]; omega
            · have hli : ¬ (k : Int) < (more.length : Int) := by omega
              obtain ⟨a0, a1, a2, -, -, -⟩ := KG.out.o3
              go_wp2_with fail
              clear a0 a1 a2
              refine (same6_any TW.out.g TW.out.gn NG.out.net).mono ?_
              rintro e w7 ⟨rfl, hb⟩
              have KM_ := Lib.hid (KM.out.keep hb)
              have TW_ := Lib.hid (TW.out.old hb)
              have NM_ := Lib.hid (NM.out.old hb)
              clear KM TW NM
              have KM := KM_
              have TW := TW_
              have NM := NM_
              clear KM_ TW_ NM_
              clear hb
              obtain ⟨a0, a1, a2, -, -, -⟩ := KM.out.o3
              go_wp2_with fail
              clear a0 a1 a2
              refine (same6_any TW.out.t TW.out.tn NM.out.net).mono ?_
              rintro e w8 ⟨rfl, hb⟩
              have TW_ := Lib.hid (TW.out.old hb)
              clear TW
              have TW := TW_
              clear TW_
              clear hb
              go_wp2_with fail
              go_ret
              exact ⟨rfl, TW.out.b⟩

theorem gtwins_walk (v : Value) (n : NetD) (u : Value) (acts : List ActD) (x : Value) (more : List ActD) (w : World) (hg : ErrT w) (hv : NetV w v n) (hin : InNet n) (hac : Acts w u acts) (hai : InAct acts) (hmc : Acts w x more) (hmi : InAct more) :
    Calls Tryd.prog 3 #[v, u, x] w fun e w' => e = .returned (.bool true) ∧ Below w.heap.size w w' := by
  obtain ⟨q, c, rfl⟩ := hac.shape
  obtain ⟨q', c', rfl⟩ := hmc.shape
  cases hm : mayN n with
  | false => exact gtwins_no v n q c acts q' c' more w hg hv hin hac hai hmc hmi hm
  | true =>
    by_cases hl : acts.length ≤ 20
    · by_cases hl2 : more.length ≤ 20
      · exact gtwins_main v n q c acts q' c' more w hg hv hin hac hai hmc hmi hm hl hl2
      · exact gtwins_more v n q c acts q' c' more w hg hv hin hac hai hmc hmi hm hl (by omega)
    · exact gtwins_long v n q c acts q' c' more w hg hv hin hac hai hmc hmi hm (by omega)

set_option maxRecDepth 100000 in
theorem graphTwins_walks : Walks laidAll 3 Tryd.f3 := by
  intro H enc W args ds g
  obtain ⟨ps, hA⟩ := g.reads
  obtain ⟨base, hval⟩ := g.okay
  rw [Tryd.params3] at hA hval
  obtain ⟨v0, vs0, d0, ds0, p0, q0, hargs, rfl, rfl, h0, r0⟩ := trodAll_cons hA
  obtain ⟨v1, vs1, d1, ds1, p1, q1, rfl, rfl, rfl, h1, r1⟩ := trodAll_cons r0
  obtain ⟨v2, vs2, d2, ds2, p2, q2, rfl, rfl, rfl, h2, r2⟩ := trodAll_cons r1
  obtain ⟨rfl, rfl, rfl⟩ := trodAll_nil r2
  obtain rfl : args = #[v0, v1, v2] := Array.toList_inj.1 hargs
  obtain ⟨n0, w0, u0⟩ := open_net (hval 0 26 v0 rfl rfl) h0
  obtain ⟨x1, w1, u1⟩ := open_acts6 (hval 1 27 v1 rfl rfl) h1
  obtain ⟨x2, w2, u2⟩ := open_acts6 (hval 2 27 v2 rfl rfl) h2
  exact gtwins_walk v0 n0 v1 x1 v2 x2 W (errT_of_laid g.laid) w0 u0 w1 u1 w2 u2

theorem graphTwins_row : Rows.GraphTwinsSaid :=
  OpenClaim.holds_of_wide 3 Tryd.f3 rfl rfl rfl rfl rfl rfl rfl ⟨rfl, rfl, rfl, rfl, rfl⟩ rfl rfl rfl rfl rfl (by kernel_rfl) Tryd.func3 (by kernel_rfl)
    (of_decide_eq_true (by kernel_rfl)) (by unfold Func.isWrapper; rw [if_neg (of_decide_eq_false (by kernel_rfl))]; exact ⟨rfl, rfl⟩)
    (fun os started H enc _ => law_lifted (s := Rows.graphTwinsSpec) (L := laidAll) Tryd.func3 (by kernel_rfl) rfl (by kernel_rfl)
      (fun H ds hl => by
        rw [Tryd.params3] at hl
        match ds, hl with
        | [_, _, _], _ => exact ⟨rfl, rfl, rfl⟩)
      (by kernel_rfl) os started H enc
      (ChangeSpec.witness_at (enc := enc) (C := Tryd.checked) (os := os) (X := fun w _ => laidMetH Tryd.prog laidAll w) false (laidWorld os) #[.agg #[.slice none 0 0, .slice none 0 0, .slice none 0 0], .slice none 0 0, .slice none 0 0] 8 rfl (by kernel_rfl) (by kernel_rfl) (by kernel_rfl) (by kernel_rfl) (by kernel_rfl) (laidWorld_met os _))
      graphTwins_walks)

theorem graphTwins_card : Rows.GraphTwinsCardSaid :=
  Claim7.holds_tied_plain_at .later [] laidKindsAll true (Rows.graphTwinsCard.stood.harness) true
    graphTwins_row (fun _ h => by cases h) (by kernel_rfl) (fun _ h => by cases h) graphTwins_row_tie rfl ⟨rfl, rfl⟩ (by kernel_rfl) rfl
    (fun f fn hf hfn => by
      obtain rfl : f = 3 := Option.some.inj ((show Tryd.prog.funcNamed "roundsman/roundsmanlaw6.GraphTwins" = some 3 by kernel_rfl).symm.trans hf) |>.symm
      obtain rfl : fn = Tryd.f3 := (Option.some.inj (Tryd.func3.symm.trans hfn)).symm
      exact ⟨by kernel_rfl, fun j t ht => by
        rw [Tryd.params3] at ht
        exact stand_all #[26, 27, 27] (by kernel_rfl) j t ht⟩)
    (by kernel_rfl)
#print axioms graphTwins_card

end Go.Proofs.YtgehjkcjpbdoaaaDoor
