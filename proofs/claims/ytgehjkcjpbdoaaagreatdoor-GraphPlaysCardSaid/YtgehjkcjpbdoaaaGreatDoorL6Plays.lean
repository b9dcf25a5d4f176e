/-
  PROVED: a graph that is changed act by act is the net of the document that is changed so, and its turns cost what the document says. For every net and row of acts. Conditions: the listed library variable holds what the program's own text lays (the card ties it).
-/
import Derived.Test.YtgehjkcjpbdoaaaGreatDoorKnown6
import Derived.Test.YtgehjkcjpbdoaaaGreatDoorNetIn
import Derived.Test.YtgehjkcjpbdoaaaGreatDoorLaid2
import Derived.Test.YtgehjkcjpbdoaaaGreatDoorCards
import Derived.Test.YtgehjkcjpbdoaaaGreatDoorTie
import Derived.SevenTiedAt
import Derived.Test.YtgehjkcjpbdoaaaGreatDoorActsIn
import Derived.Test.YtgehjkcjpbdoaaaGreatDoorNeOff
namespace Go.Proofs.YtgehjkcjpbdoaaaGreatDoor
open Go.ChangeShapes Go.WideShapes Go.ChangeAt Go.RowKit

set_option maxHeartbeats 8000000 in
set_option maxRecDepth 100000 in
theorem gplays_no (v : Value) (n : NetD) (aq0 : Option Addr) (ac0 : Nat) (acts : List ActD) (w : World) (hg : ErrT w) (hv : NetV w v n) (hin : InNet n) (hac : Acts w (.slice aq0 acts.length ac0) acts) (hai : InAct acts) (hm : mayN n = false) :
    Calls Tryz.prog 3 #[v, .slice aq0 acts.length ac0] w fun e w' => e = .returned (.bool true) ∧ Below w.heap.size w w' := by
  obtain ⟨vq, aq, tq, vc, ac, tc, rfl, -⟩ := hv.shape
  have HG := Lib.hid hg
  have HV := Lib.hid hv
  have HIN := Lib.hid hin
  have HM := Lib.hid hm
  clear hg hv hin hm
  have HAC := Lib.hid hac
  have HAI := Lib.hid hai
  clear hac hai
  go_enter Tryz.func3, Tryz.ntmps3
  go_wp2_with fail
  obtain ⟨W0, hW0⟩ := named (w.alloc (.cells #[.slice vq n.v.length vc, .slice aq n.a.length ac, .slice tq n.t.length tc] 26))
  rw [← hW0]
  have B0 : Hid (Below w.heap.size w W0) := by rw [hW0]; exact Lib.hid (below_new _)
  have KA : Hid (Blk W0 w.heap.size #[.slice vq n.v.length vc, .slice aq n.a.length ac, .slice tq n.t.length tc] 26) := by rw [hW0]; exact Lib.hid (Blk.new _ _ _ _ rfl)
  clear hW0
  refine (known6_any _ (HG.out.below HG.out.lt B0.out)).mono ?_
  rintro e w' ⟨rfl, hb⟩
  have KA_ := Lib.hid (KA.out.keep hb)
  have B_ := Lib.hid (bOn6 B0.out hb)
  clear KA
  have KA := KA_
  clear KA_
  clear B0
  have B0 := B_
  clear B_ hb 
  obtain ⟨ka0, ka1, ka2, -, -, -⟩ := KA.out.o3
  go_wp2_with fail
  clear ka0 ka1 ka2
  refine (vmay (HV.out.below B0.out) HIN.out HM.out).mono ?_
  rintro e w' ⟨rfl, hb⟩
  have KA_ := Lib.hid (KA.out.keep hb)
  have B_ := Lib.hid (bOn6 B0.out hb)
  clear KA
  have KA := KA_
  clear KA_
  clear B0
  have B0 := B_
  clear B_ hb 
  obtain ⟨ka0, ka1, ka2, -, -, -⟩ := KA.out.o3
  go_wp2_with fail
  clear ka0 ka1 ka2
  go_ret
  exact ⟨rfl, B0.out⟩

set_option maxHeartbeats 8000000 in
set_option maxRecDepth 100000 in
theorem gplays_long (v : Value) (n : NetD) (aq0 : Option Addr) (ac0 : Nat) (acts : List ActD) (w : World) (hg : ErrT w) (hv : NetV w v n) (hin : InNet n) (hac : Acts w (.slice aq0 acts.length ac0) acts) (hai : InAct acts) (hm : mayN n = true) (hl : 30 < acts.length) :
    Calls Tryz.prog 3 #[v, .slice aq0 acts.length ac0] w fun e w' => e = .returned (.bool true) ∧ Below w.heap.size w w' := by
  obtain ⟨vq, aq, tq, vc, ac, tc, rfl, -⟩ := hv.shape
  have HG := Lib.hid hg
  have HV := Lib.hid hv
  have HIN := Lib.hid hin
  have HM := Lib.hid hm
  clear hg hv hin hm
  have HAC := Lib.hid hac
  have HAI := Lib.hid hai
  clear hac hai
  have HLL : Hid (30 < (acts.length : Int)) := Lib.hid (by omega)
  clear hl
  go_enter Tryz.func3, Tryz.ntmps3
  go_wp2_with fail
  obtain ⟨W0, hW0⟩ := named (w.alloc (.cells #[.slice vq n.v.length vc, .slice aq n.a.length ac, .slice tq n.t.length tc] 26))
  rw [← hW0]
  have B0 : Hid (Below w.heap.size w W0) := by rw [hW0]; exact Lib.hid (below_new _)
  have KA : Hid (Blk W0 w.heap.size #[.slice vq n.v.length vc, .slice aq n.a.length ac, .slice tq n.t.length tc] 26) := by rw [hW0]; exact Lib.hid (Blk.new _ _ _ _ rfl)
  clear hW0
  refine (known6_any _ (HG.out.below HG.out.lt B0.out)).mono ?_
  rintro e w' ⟨rfl, hb⟩
  have KA_ := Lib.hid (KA.out.keep hb)
  have B_ := Lib.hid (bOn6 B0.out hb)
  clear KA
  have KA := KA_
  clear KA_
  clear B0
  have B0 := B_
  clear B_ hb 
  obtain ⟨ka0, ka1, ka2, -, -, -⟩ := KA.out.o3
  go_wp2_with fail
  clear ka0 ka1 ka2
  refine (vmay (HV.out.below B0.out) HIN.out HM.out).mono ?_
  rintro e w' ⟨rfl, hb⟩
  have KA_ := Lib.hid (KA.out.keep hb)
  have B_ := Lib.hid (bOn6 B0.out hb)
  clear KA
  have KA := KA_
  clear KA_
  clear B0
  have B0 := B_
  clear B_ hb 
  have hll := HLL.out
  obtain ⟨ka0, ka1, ka2, -, -, -⟩ := KA.out.o3
  go_wp2_with fail
  clear ka0 ka1 ka2
  go_ret
  exact ⟨rfl, B0.out⟩

set_option maxHeartbeats 8000000 in
set_option maxRecDepth 100000 in
theorem gplays_main (v : Value) (n : NetD) (aq0 : Option Addr) (ac0 : Nat) (acts : List ActD) (w : World) (hg : ErrT w) (hv : NetV w v n) (hin : InNet n) (hac : Acts w (.slice aq0 acts.length ac0) acts) (hai : InAct acts) (hm : mayN n = true) (hl : acts.length ≤ 30) :
    Calls Tryz.prog 3 #[v, .slice aq0 acts.length ac0] w fun e w' => e = .returned (.bool true) ∧ Below w.heap.size w w' := by
  obtain ⟨vq, aq, tq, vc, ac, tc, rfl, -⟩ := hv.shape
  obtain ⟨hf, hok, hgd⟩ := may_of hm
  have GN : Hid (GrN n) := Lib.hid ⟨hgd, hf, hin⟩
  have HOK := Lib.hid hok
  clear hf hok hgd
  have HG := Lib.hid hg
  have HV := Lib.hid hv
  have HIN := Lib.hid hin
  have HM := Lib.hid hm
  clear hg hv hin hm
  have HAC := Lib.hid hac
  have HAI := Lib.hid hai
  clear hac hai
  have HLL : Hid ((acts.length : Int) ≤ 30) := Lib.hid (by omega)
  clear hl
  go_enter Tryz.func3, Tryz.ntmps3
  go_wp2_with fail
  obtain ⟨W0, hW0⟩ := named (w.alloc (.cells #[.slice vq n.v.length vc, .slice aq n.a.length ac, .slice tq n.t.length tc] 26))
  rw [← hW0]
  have B0 : Hid (Below w.heap.size w W0) := by rw [hW0]; exact Lib.hid (below_new _)
  have KA : Hid (Blk W0 w.heap.size #[.slice vq n.v.length vc, .slice aq n.a.length ac, .slice tq n.t.length tc] 26) := by rw [hW0]; exact Lib.hid (Blk.new _ _ _ _ rfl)
  clear hW0
  refine (known6_any _ (HG.out.below HG.out.lt B0.out)).mono ?_
  rintro e w' ⟨rfl, hb⟩
  have KA_ := Lib.hid (KA.out.keep hb)
  have B_ := Lib.hid (bOn6 B0.out hb)
  clear KA
  have KA := KA_
  clear KA_
  clear B0
  have B0 := B_
  clear B_ hb 
  obtain ⟨ka0, ka1, ka2, -, -, -⟩ := KA.out.o3
  go_wp2_with fail
  clear ka0 ka1 ka2
  refine (vmay (HV.out.below B0.out) HIN.out HM.out).mono ?_
  rintro e w' ⟨rfl, hb⟩
  have KA_ := Lib.hid (KA.out.keep hb)
  have B_ := Lib.hid (bOn6 B0.out hb)
  clear KA
  have KA := KA_
  clear KA_
  clear B0
  have B0 := B_
  clear B_ hb 
  have hll := HLL.out
  obtain ⟨ka0, ka1, ka2, -, -, -⟩ := KA.out.o3
  go_wp2_with fail
  clear ka0 ka1 ka2
  refine (vtoF (HV.out.below B0.out) GN.out.few).mono ?_
  rintro e w' ⟨xv, rfl, hX, hb⟩
  have KA_ := Lib.hid (KA.out.keep hb)
  have B_ := Lib.hid (bOn6 B0.out hb)
  have VX := Lib.hid hX
  clear KA
  have KA := KA_
  clear KA_
  clear B0
  have B0 := B_
  clear B_ hb hX
  go_wp2_with fail
  refine (vNewG B0.out VX.out GN.out HOK.out).mono ?_
  rintro e w' ⟨p, va, vt, rfl, hG, hb⟩
  have KA_ := Lib.hid (KA.out.keep hb)
  have G := Lib.hid hG
  clear KA
  have KA := KA_
  clear KA_
  clear hb hG B0
  obtain ⟨ka0, ka1, ka2, -, -, -⟩ := KA.out.o3
  go_wp2_with fail
  clear ka0 ka1 ka2
  have NA : Hid (NetA (Off [va, vt]) w' (.agg #[.slice vq n.v.length vc, .slice aq n.a.length ac, .slice tq n.t.length tc]) n) := Lib.hid ((HV.out.av.old G.out.b).mono G.out.o)
  go_loopw [7] (fun i wr => ∃ (k : Nat) (m : NetD) (q1 q2 q3 : Option Addr) (c1 c2 c3 : Nat), k ≤ acts.length ∧ i = .int .i64 k ∧ Hid (Blk wr w.heap.size #[.slice q1 m.v.length c1, .slice q2 m.a.length c2, .slice q3 m.t.length c3] 26) ∧ Hid (NetA (Off [va, vt]) wr (.agg #[.slice q1 m.v.length c1, .slice q2 m.a.length c2, .slice q3 m.t.length c3]) m) ∧ Hid (Gr1 w wr p m va vt)) (fun i _ => acts.length - (intOf i).toNat)
  case atStart => exact ⟨0, n, vq, aq, tq, vc, ac, tc, Nat.zero_le _, rfl, KA, NA, G⟩
  case round =>
    clear KA NA G
    obtain ⟨k, m, q1, q2, q3, c1, c2, c3, hk, rfl, KM, NM, GM⟩ := hrel
    by_cases hlt : k < acts.length
    · have hli : (k : Int) < (acts.length : Int) := by omega
      obtain ⟨ab, ao, rfl, x0, x1, x2, x3, x4⟩ := HAC.out.at hlt
      have hx := act_bounds HAI.out hlt
      obtain ⟨x, ex⟩ : ∃ x, acts[k] = x := ⟨_, rfl⟩
      rw [ex] at x0 x1 x2 x3 x4 hx
      clear ex
      obtain ⟨xk, xa, xi, xo, xw⟩ := x
      obtain ⟨M, eM⟩ : ∃ M, (actN m ⟨xk, xa, xi, xo, xw⟩).1 = M := ⟨_, rfl⟩
      have HM_ := Lib.hid eM
      have HX := Lib.hid hx
      have X0 := Lib.hid x0
      have X1 := Lib.hid x1
      have X2 := Lib.hid x2
      have X3 := Lib.hid x3
      have X4 := Lib.hid x4
      clear x0 x1 x2 x3 x4 hx eM
      go_wp2_with fail
      have DS0 := Lib.hid (GG.ActS.start (vs := [va, vt]) (m := M) GM.out.g GM.out.b)
      refine' GG.wp_thenL _ 12 (GG.ActS [va, vt] va vt p m M w wr) [[], [], [], [], [2, 3], [2, 3, 4], [0, 1, 2, 3, 4, 5], [0, 1, 2, 3, 4, 5, 6], [0, 1, 2, 3, 4, 5, 6, 7], [0, 1, 2, 3, 4, 5, 6, 7], [], [0, 1, 2, 3, 4, 5, 6, 7, 8, 10]] (GG.Fact.lit (Rl := GG.RlM [va, vt] M) _ :: GG.Fact.lit (Rl := GG.RlM [va, vt] M) _ :: GG.Fact.lit (Rl := GG.RlM [va, vt] M) _ :: GG.Fact.lit (Rl := GG.RlM [va, vt] M) _ :: GG.Fact.lit (Rl := GG.RlM [va, vt] M) _ :: GG.Fact.lit (Rl := GG.RlM [va, vt] M) _ :: GG.Fact.prop (Rl := GG.RlM [va, vt] M) _ _ :: GG.Fact.prop (Rl := GG.RlM [va, vt] M) _ _ :: GG.Fact.prop (Rl := GG.RlM [va, vt] M) _ _ :: GG.Fact.lit (Rl := GG.RlM [va, vt] M) _ :: GG.Fact.prop (Rl := GG.RlM [va, vt] M) _ _ :: GG.Fact.lit (Rl := GG.RlM [va, vt] M) _ :: []) (by kernel_rfl) rfl (by kernel_rfl) (0) (DS0.out) ?seqpl
      case' seqpl => skip
      (refine' GG.grow_lit (GG.ActS.still (by decide) (by decide) (by decide)) rfl ?wtpl0 ?runpl0 ?putpl0 ?nextpl0; (case wtpl0 => rfl); (case runpl0 => (intro w' hS; (obtain ⟨dn, s, hS⟩ := hS); (obtain ⟨a0, a1, a2, -, -, -⟩ := (hS.d.k.blk KM.out (off_blk GM.out.mut KM.out (by decide) (by decide))).o3); (have x0 := keep hS.d.b X0.out); (have x1 := keep hS.d.b X1.out); (have x2 := keep hS.d.b X2.out); (have x3 := keep hS.d.b X3.out); (have x4 := keep hS.d.b X4.out); (have hab := World.block_lt_of_cell? w' _ x0); clear hS; go_simp; first | done | exact rfl)); (case putpl0 => (first | (simp only [Act.put, List.setIfInBounds_toArray, List.set_cons_zero, List.set_cons_succ]; first | done | exact rfl) | rfl)); (case' nextpl0 => skip))
      (refine' GG.grow_lit (GG.ActS.still (by decide) (by decide) (by decide)) rfl ?wtpl1 ?runpl1 ?putpl1 ?nextpl1; (case wtpl1 => rfl); (case runpl1 => (intro w' hS; (obtain ⟨dn, s, hS⟩ := hS); (obtain ⟨a0, a1, a2, -, -, -⟩ := (hS.d.k.blk KM.out (off_blk GM.out.mut KM.out (by decide) (by decide))).o3); (have x0 := keep hS.d.b X0.out); (have x1 := keep hS.d.b X1.out); (have x2 := keep hS.d.b X2.out); (have x3 := keep hS.d.b X3.out); (have x4 := keep hS.d.b X4.out); (have hab := World.block_lt_of_cell? w' _ x0); clear hS; go_simp; first | done | exact rfl)); (case putpl1 => (first | (simp only [Act.put, List.setIfInBounds_toArray, List.set_cons_zero, List.set_cons_succ]; first | done | exact rfl) | rfl)); (case' nextpl1 => skip))
      (refine' GG.grow_lit (GG.ActS.still (by decide) (by decide) (by decide)) rfl ?wtpl2 ?runpl2 ?putpl2 ?nextpl2; (case wtpl2 => rfl); (case runpl2 => (intro w' hS; (obtain ⟨dn, s, hS⟩ := hS); (obtain ⟨a0, a1, a2, -, -, -⟩ := (hS.d.k.blk KM.out (off_blk GM.out.mut KM.out (by decide) (by decide))).o3); (have x0 := keep hS.d.b X0.out); (have x1 := keep hS.d.b X1.out); (have x2 := keep hS.d.b X2.out); (have x3 := keep hS.d.b X3.out); (have x4 := keep hS.d.b X4.out); (have hab := World.block_lt_of_cell? w' _ x0); clear hS; go_simp; first | done | exact rfl)); (case putpl2 => (first | (simp only [Act.put, List.setIfInBounds_toArray, List.set_cons_zero, List.set_cons_succ]; first | done | exact rfl) | rfl)); (case' nextpl2 => skip))
      (refine' GG.grow_lit (GG.ActS.still (by decide) (by decide) (by decide)) rfl ?wtpl3 ?runpl3 ?putpl3 ?nextpl3; (case wtpl3 => rfl); (case runpl3 => (intro w' hS; (obtain ⟨dn, s, hS⟩ := hS); (obtain ⟨a0, a1, a2, -, -, -⟩ := (hS.d.k.blk KM.out (off_blk GM.out.mut KM.out (by decide) (by decide))).o3); (have x0 := keep hS.d.b X0.out); (have x1 := keep hS.d.b X1.out); (have x2 := keep hS.d.b X2.out); (have x3 := keep hS.d.b X3.out); (have x4 := keep hS.d.b X4.out); (have hab := World.block_lt_of_cell? w' _ x0); clear hS; go_simp; first | done | exact rfl)); (case putpl3 => (first | (simp only [Act.put, List.setIfInBounds_toArray, List.set_cons_zero, List.set_cons_succ]; first | done | exact rfl) | rfl)); (case' nextpl3 => skip))
      (refine' GG.grow_lit (GG.ActS.still (by decide) (by decide) (by decide)) rfl ?wtpl4 ?runpl4 ?putpl4 ?nextpl4; (case wtpl4 => rfl); (case runpl4 => (intro w' hS; (obtain ⟨dn, s, hS⟩ := hS); (obtain ⟨a0, a1, a2, -, -, -⟩ := (hS.d.k.blk KM.out (off_blk GM.out.mut KM.out (by decide) (by decide))).o3); (have x0 := keep hS.d.b X0.out); (have x1 := keep hS.d.b X1.out); (have x2 := keep hS.d.b X2.out); (have x3 := keep hS.d.b X3.out); (have x4 := keep hS.d.b X4.out); (have hab := World.block_lt_of_cell? w' _ x0); clear hS; go_simp; first | done | exact rfl)); (case putpl4 => (first | (simp only [Act.put, List.setIfInBounds_toArray, List.set_cons_zero, List.set_cons_succ]; first | done | exact rfl) | rfl)); (case' nextpl4 => skip))
      (refine' GG.grow_lit (GG.ActS.still (by decide) (by decide) (by decide)) rfl ?wtpl5 ?runpl5 ?putpl5 ?nextpl5; (case wtpl5 => rfl); (case runpl5 => (intro w' hS; (obtain ⟨dn, s, hS⟩ := hS); (obtain ⟨a0, a1, a2, -, -, -⟩ := (hS.d.k.blk KM.out (off_blk GM.out.mut KM.out (by decide) (by decide))).o3); (have x0 := keep hS.d.b X0.out); (have x1 := keep hS.d.b X1.out); (have x2 := keep hS.d.b X2.out); (have x3 := keep hS.d.b X3.out); (have x4 := keep hS.d.b X4.out); (have hab := World.block_lt_of_cell? w' _ x0); clear hS; go_simp; first | done | exact rfl)); (case putpl5 => (first | (simp only [Act.put, List.setIfInBounds_toArray, List.set_cons_zero, List.set_cons_succ]; first | done | exact rfl) | rfl)); (case' nextpl5 => skip))
      (refine' GG.grow_any_call (p := fun v _ w => DoneP [va, vt] M v w) (hp := fun v s w s' w' h hb => DoneP.keep h hb) rfl Tryz.func8 (by kernel_rfl) rfl rfl ?wtpl6 ?runpl6 ?putpl6 ?nextpl6; (case wtpl6 => rfl); (case runpl6 => (intro dn s w' hS hd H; exact (do6_to HG.out hS.d.b GM.out.o (hS.d.g0 hd) (GM.out.n) (NM.out.keep hS.d.k) (by simp) (by simp) hS.d.mut ⟨xk, xa, xi, xo, xw⟩ HX.out HM_.out).mono (fun e w2 ⟨u, h1, h2, h3, h4⟩ => ⟨_, s, h1, ⟨u, rfl, h2⟩, (hS.put (by simp) (by simp) GM.out.o h3 h4).1, (hS.put (by simp) (by simp) GM.out.o h3 h4).2, h4.size⟩))); (case putpl6 => (intro v; (simp only [Act.put, List.setIfInBounds_toArray, List.set_cons_zero, List.set_cons_succ]; first | done | exact rfl))); (case' nextpl6 => intro v6))
      (refine' GG.grow_any_op (p := fun v _ w => DoneP [va, vt] M v w) (hp := fun v s w s' w' h hb => DoneP.keep h hb) rfl ?wtpl7 ?runpl7 ?putpl7 ?nextpl7; (case wtpl7 => rfl); (case runpl7 => (intro dn s w' hS hd H; (have hv : DoneP [va, vt] M v6 w' := H 6 (by decide)); exact ⟨v6, s, w', (by clear hS H hd hv; go_simp; first | done | exact rfl), hv, hS.step (by decide) (by decide) (by decide), GG.RlM.refl, Nat.le_refl _⟩)); (case putpl7 => (intro v; (simp only [Act.put, List.setIfInBounds_toArray, List.set_cons_zero, List.set_cons_succ]; first | done | exact rfl))); (case' nextpl7 => intro v7))
      (refine' GG.grow_any_op (p := fun v _ w => NetA (Off [va, vt]) w v M) (hp := fun v s w s' w' h hb => hb.2 _ h) rfl ?wtpl8 ?runpl8 ?putpl8 ?nextpl8; (case wtpl8 => rfl); (case runpl8 => (intro dn s w' hS hd H; (have hv : DoneP [va, vt] M v7 w' := H 7 (by decide)); (obtain ⟨u, rfl, hU⟩ := hv); exact ⟨u, s, w', (by clear hS H hd hU; go_simp; first | done | exact rfl), hU, hS.step (by decide) (by decide) (by decide), GG.RlM.refl, Nat.le_refl _⟩)); (case putpl8 => (intro v; (simp only [Act.put, List.setIfInBounds_toArray, List.set_cons_zero, List.set_cons_succ]; first | done | exact rfl))); (case' nextpl8 => intro v8))
      (refine' GG.grow_write (u := .bool true) rfl ?wtpl9 ?runpl9 ?putpl9 ?nextpl9; (case wtpl9 => rfl); (case runpl9 => (intro dn s w' hS hd H; (have hv : DoneP [va, vt] M v7 w' := H 7 (by decide)); (obtain ⟨u, rfl, hU⟩ := hv); exact ⟨s, w', (by clear hS H hd hU; go_simp; first | done | exact rfl), hS.step (by decide) (by decide) (by decide), GG.RlM.refl, Nat.le_refl _⟩)); (case putpl9 => (first | (simp only [Act.put, List.setIfInBounds_toArray, List.set_cons_zero, List.set_cons_succ]; first | done | exact rfl) | rfl)); (case' nextpl9 => skip))
      (refine' GG.grow_any_op (p := fun v s _ => v = .pointer (some ⟨s, 0, none⟩) ∧ s ≠ 0) (hp := fun v s w s' w' h hb => (hb.1 h.2).symm ▸ h) rfl ?wtpl10 ?runpl10 ?putpl10 ?nextpl10; (case wtpl10 => rfl); (case runpl10 => (intro dn s w' hS hd H; (have hz : w'.heap.size ≠ 0 := by have := KM.out.lt; have := hS.d.k.size; omega); exact ⟨.pointer (some ⟨w'.heap.size, 0, none⟩), w'.heap.size, w'.alloc (.cells #[.slice none 0 0, .slice none 0 0, .slice none 0 0] 26), (by clear hS H hd hz; go_simp; first | done | exact rfl), ⟨rfl, hz⟩, (hS.box hd).1, (hS.box hd).2, (below_new _).size⟩)); (case putpl10 => (intro v; (simp only [Act.put, List.setIfInBounds_toArray, List.set_cons_zero, List.set_cons_succ]; first | done | exact rfl))); (case' nextpl10 => intro v10))
      (refine' GG.grow_store rfl ?wtpl11 ?runpl11 ?putpl11 ?nextpl11; (case wtpl11 => rfl); (case runpl11 => (intro dn s w' hS hd H; (have hv : NetA (Off [va, vt]) w' v8 M := H 8 (by decide)); (have hp : v10 = .pointer (some ⟨s, 0, none⟩) ∧ s ≠ 0 := H 10 (by decide)); (obtain ⟨rfl, hs0⟩ := hp); (obtain ⟨y1, y2, y3, d1, d2, d3, rfl, -⟩ := hv.net.shape); (have hz := hS.zero hs0 hd); (have h5 := hS.lay hs0 hd hv rfl); (obtain ⟨r0, r1, r2, f0, f1, f2⟩ := Blk.o3 hz); (have lr := Blk.lt hz); exact ⟨s, _, (by clear hS H hd hv h5 hz; go_simp; first | done | exact rfl), h5.1, h5.2, (keep_hdr w' s _ _ _).size⟩)); (case putpl11 => rfl); (case' nextpl11 => skip))
      intro dn s w2 hS hdn H
      have hv10 : v10 = .pointer (some ⟨s, 0, none⟩) ∧ s ≠ 0 := H 10 (by decide)
      obtain ⟨rfl, hs0⟩ := hv10
      obtain ⟨y1, y2, y3, d1, d2, d3, hB, hN⟩ := hS.b1 (hdn 11 (by decide))
      have GM2 : Hid (Gr1 w w2 p M va vt) := Lib.hid ⟨hS.d.g1 (hdn 6 (by decide)), HM_.out ▸ actN_grn GM.out.n _, hS.d.b, GM.out.o⟩
      have KM2 := Lib.hid (hS.d.k.blk KM.out (off_blk GM.out.mut KM.out (by decide) (by decide)))
      clear hS hdn H hs0 KM NM GM DS0
      have KN : Hid (Blk w2 s #[.slice y1 M.v.length d1, .slice y2 M.a.length d2, .slice y3 M.t.length d3] 26) := Lib.hid hB
      have NM := Lib.hid hN
      have GM := GM2
      have KM := KM2
      clear hB hN GM2 KM2
      refine wpAny_ready (rs := [12]) (by kernel_rfl) (by simp) (AllReady.cons rfl (fun K hK => ?_) AllReady.nil)
      go_simp
      refine hK _ _ ?_
      clear hK K
      refine wpAny_done (by kernel_rfl) ?_ _
      obtain ⟨r0, r1, r2, -, -, -⟩ := KN.out.o3
      have lr := KN.out.lt
      go_wp2_with fail
      clear r0 r1 r2 lr
      refine (same6_any GM.out.g GM.out.n NM.out.net).mono ?_
      rintro e w4 ⟨rfl, hb⟩
      have KN4 := Lib.hid (KN.out.keep hb)
      have KM4 := Lib.hid (KM.out.keep hb)
      have NM4 := Lib.hid (NM.out.old hb)
      have GM4 := Lib.hid (GM.out.old hb)
      clear hb KN KM NM GM
      obtain ⟨r0, r1, r2, -, -, -⟩ := KN4.out.o3
      obtain ⟨a0, a1, a2, f0, f1, f2⟩ := KM4.out.o3
      have lr := KN4.out.lt
      have la := KM4.out.lt
      go_wp2_with fail
      clear r0 r1 r2 a0 a1 a2 f0 f1 f2 lr la
      go_roundw
      case rel => exact ⟨k + 1, M, y1, y2, y3, d1, d2, d3, by omega, by go_num, Lib.hid (blk_hdr KM4.out _ _ _), Lib.hid (NM4.out.box KM4.out (hdr3 _ _ _ _ _ _ _ _ _) (keep_hdr _ _ _ _ _)), Lib.hid (GM4.out.box KM4.out (hdr3 _ _ _ _ _ _ _ _ _) (Nat.le_refl _) (keep_hdr _ _ _ _ _))⟩
      case measure => simp [intOf]; omega
    · have hli : ¬ (k : Int) < (acts.length : Int) := by omega
      obtain ⟨a0, a1, a2, -, -, -⟩ := KM.out.o3
      have la := KM.out.lt
      go_wp2_with fail
      clear a0 a1 a2 la
      have hsa : m.a.length ≤ 300 := GM.out.n.few.a
      obtain ⟨wl, rfl⟩ : ∃ x, x = wr := ⟨_, rfl⟩
      go_loopw [10] (fun i wr => ∃ a : Nat, a ≤ m.a.length ∧ i = .int .i64 a ∧ Hid (Below wl.heap.size wl wr)) (fun i _ => m.a.length - (intOf i).toNat)
      case atStart => exact ⟨0, Nat.zero_le _, rfl, Lib.hid (Below.refl _ _)⟩
      case round =>
        obtain ⟨a, ha, rfl, HB⟩ := hrel
        have KMa := Lib.hid (KM.out.keep HB.out)
        obtain ⟨a0, a1, a2, -, -, -⟩ := KMa.out.o3
        have la := KMa.out.lt
        by_cases hla : a < m.a.length
        · have hlai : (a : Int) < (m.a.length : Int) := by omega
          go_wp2_with fail
          clear a0 a1 a2 la
          obtain ⟨wm, rfl⟩ : ∃ x, x = wr := ⟨_, rfl⟩
          go_loopw [11] (fun i wr => ∃ b : Nat, b ≤ m.a.length ∧ i = .int .i64 b ∧ Hid (Below wl.heap.size wl wr)) (fun i _ => m.a.length - (intOf i).toNat)
          case atStart => exact ⟨0, Nat.zero_le _, rfl, HB⟩
          case round =>
            obtain ⟨b, hb, rfl, HC⟩ := hrel
            have KMb := Lib.hid (KM.out.keep HC.out)
            obtain ⟨a0, a1, a2, -, -, -⟩ := KMb.out.o3
            have la := KMb.out.lt
            by_cases hlb : b < m.a.length
            · have hlbi : (b : Int) < (m.a.length : Int) := by omega
              by_cases h40 : b < 40
              · have h40i : (b : Int) < 40 := by omega
                go_wp2_with fail
                clear a0 a1 a2 la
                obtain ⟨X, eX⟩ : ∃ X, m.turn a b = X := ⟨_, rfl⟩
                have EX := Lib.hid eX
                clear eX
                have hGS : Grows (fun w' => Below wr.heap.size wr w') := Grows.below wr
                refine' wp_growL _ (fun w' => Below wr.heap.size wr w') [[], [], [], [0, 1, 2], [], [], [], [4, 5, 6], [3, 7]] (Fact.lit _ :: Fact.lit _ :: Fact.lit _ :: Fact.lit _ :: Fact.lit _ :: Fact.lit _ :: Fact.lit _ :: Fact.lit _ :: Fact.lit _ :: []) (by kernel_rfl) rfl (by kernel_rfl) (Below.refl _ _).drew ?seqtu
                case' seqtu => skip
                iterate 3 ((first | (apply grow_skip; (case hf => rfl); (case hw => rfl)) | (apply grow_lit; (case hf => rfl); (case hw => rfl); (case hrun => (intro w' hS H; clear H; (obtain ⟨a0, a1, a2, -, -, -⟩ := (KMb.out.keep hS).o3); clear hS; go_simp; first | done | exact rfl)))); (case hc => (simp only [Act.put, List.setIfInBounds_toArray, List.set_cons_zero, List.set_cons_succ]; first | done | exact rfl)); (try (case hj => rfl)))
                (refine' grow_call (u := .int .i64 X) rfl Tryz.func10 (by kernel_rfl) rfl hGS rfl ?wt1 ?run1 ?put1 ?next1; (case wt1 => rfl); (case run1 => (intro w' hS H; exact vTurnG (GM.out.g.old (HC.out.trans (hS.mono HC.out.size))) GM.out.n EX.out)); (case put1 => (simp only [Act.put, List.setIfInBounds_toArray, List.set_cons_zero, List.set_cons_succ]; first | done | exact rfl)); (case' next1 => skip))
                iterate 3 ((first | (apply grow_skip; (case hf => rfl); (case hw => rfl)) | (apply grow_lit; (case hf => rfl); (case hw => rfl); (case hrun => (intro w' hS H; clear H; (obtain ⟨a0, a1, a2, -, -, -⟩ := (KMb.out.keep hS).o3); clear hS; go_simp; first | done | exact rfl)))); (case hc => (simp only [Act.put, List.setIfInBounds_toArray, List.set_cons_zero, List.set_cons_succ]; first | done | exact rfl)); (try (case hj => rfl)))
                (refine' grow_call (u := .int .i64 X) rfl Tryz.func11 (by kernel_rfl) rfl hGS rfl ?wt2 ?run2 ?put2 ?next2; (case wt2 => rfl); (case run2 => (intro w' hS H; exact rvturn (NM.out.net.below (HC.out.trans (hS.mono HC.out.size))) GM.out.n.good EX.out)); (case put2 => (simp only [Act.put, List.setIfInBounds_toArray, List.set_cons_zero, List.set_cons_succ]; first | done | exact rfl)); (case' next2 => skip))
                iterate 1 ((first | (apply grow_skip; (case hf => rfl); (case hw => rfl)) | (apply grow_lit; (case hf => rfl); (case hw => rfl); (case hrun => (intro w' hS H; clear H; (obtain ⟨a0, a1, a2, -, -, -⟩ := (KMb.out.keep hS).o3); clear hS; go_simp; first | done | exact rfl)))); (case hc => (simp only [Act.put, List.setIfInBounds_toArray, List.set_cons_zero, List.set_cons_succ]; first | done | exact rfl)); (try (case hj => rfl)))
                intro w5 hb5 _
                have HB5 := Lib.hid (HC.out.trans (hb5.mono HC.out.size))
                clear hb5 hGS
                go_wp2_with fail
                go_roundw
                case rel => exact ⟨b + 1, by omega, by go_num, HB5⟩
                case measure => simp [intOf]; omega
              · have h40i : ¬ (b : Int) < 40 := by omega
                go_wp2_with fail
                clear a0 a1 a2 la
                go_roundw
                case rel => exact ⟨a + 1, by omega, by go_num, HC⟩
                case measure => simp [intOf]; omega
            · have hlbi : ¬ (b : Int) < (m.a.length : Int) := by omega
              go_wp2_with fail
              clear a0 a1 a2 la
              go_roundw
              case rel => exact ⟨a + 1, by omega, by go_num, HC⟩
              case measure => simp [intOf]; omega
        · have hlai : ¬ (a : Int) < (m.a.length : Int) := by omega
          go_wp2_with fail
          go_ret
          exact ⟨rfl, bOn6 GM.out.b HB.out⟩

theorem gplays_walk (v : Value) (n : NetD) (u : Value) (acts : List ActD) (w : World) (hg : ErrT w) (hv : NetV w v n) (hin : InNet n) (hac : Acts w u acts) (hai : InAct acts) :
    Calls Tryz.prog 3 #[v, u] w fun e w' => e = .returned (.bool true) ∧ Below w.heap.size w w' := by
  obtain ⟨q, c, rfl⟩ := hac.shape
  cases hm : mayN n with
  | false => exact gplays_no v n q c acts w hg hv hin hac hai hm
  | true =>
    by_cases hl : acts.length ≤ 30
    · exact gplays_main v n q c acts w hg hv hin hac hai hm hl
    · exact gplays_long v n q c acts w hg hv hin hac hai hm (by omega)

set_option maxRecDepth 100000 in
theorem graphPlays_walks : Walks laidAll 3 Tryz.f3 := by
  intro H enc W args ds g
  obtain ⟨ps, hA⟩ := g.reads
  obtain ⟨base, hval⟩ := g.okay
  rw [Tryz.params3] at hA hval
  obtain ⟨v0, vs0, d0, ds0, p0, q0, hargs, rfl, rfl, h0, r0⟩ := trodAll_cons hA
  obtain ⟨v1, vs1, d1, ds1, p1, q1, rfl, rfl, rfl, h1, r1⟩ := trodAll_cons r0
  obtain ⟨rfl, rfl, rfl⟩ := trodAll_nil r1
  obtain rfl : args = #[v0, v1] := Array.toList_inj.1 hargs
  obtain ⟨n0, w0, u0⟩ := open_net (hval 0 26 v0 rfl rfl) h0
  obtain ⟨x1, w1, u1⟩ := open_acts6 (hval 1 27 v1 rfl rfl) h1
  exact gplays_walk v0 n0 v1 x1 W (errT_of_laid g.laid) w0 u0 w1 u1

theorem graphPlays_row : Rows.GraphPlaysSaid :=
  OpenClaim.holds_of_wide 3 Tryz.f3 rfl rfl rfl rfl rfl rfl rfl ⟨rfl, rfl, rfl, rfl, rfl⟩ rfl rfl rfl rfl rfl (by kernel_rfl) Tryz.func3 (by kernel_rfl)
    (of_decide_eq_true (by kernel_rfl)) (by unfold Func.isWrapper; rw [if_neg (of_decide_eq_false (by kernel_rfl))]; exact ⟨rfl, rfl⟩)
    (fun os started H enc _ => law_lifted (s := Rows.graphPlaysSpec) (L := laidAll) Tryz.func3 (by kernel_rfl) rfl (by kernel_rfl)
      (fun H ds hl => by
        rw [Tryz.params3] at hl
        match ds, hl with
        | [_, _], _ => exact ⟨rfl, rfl, rfl⟩)
      (by kernel_rfl) os started H enc
      (ChangeSpec.witness_at (enc := enc) (C := Tryz.checked) (os := os) (X := fun w _ => laidMetH Tryz.prog laidAll w) false (laidWorld os) #[.agg #[.slice none 0 0, .slice none 0 0, .slice none 0 0], .slice none 0 0] 8 rfl (by kernel_rfl) (by kernel_rfl) (by kernel_rfl) (by kernel_rfl) (by kernel_rfl) (laidWorld_met os _))
      graphPlays_walks)

theorem graphPlays_card : Rows.GraphPlaysCardSaid :=
  Claim7.holds_tied_plain_at .later [] laidKindsAll true (Rows.graphPlaysCard.stood.harness) true
    graphPlays_row (fun _ h => by cases h) (by kernel_rfl) (fun _ h => by cases h) graphPlays_row_tie rfl ⟨rfl, rfl⟩ (by kernel_rfl) rfl
    (fun f fn hf hfn => by
      obtain rfl : f = 3 := Option.some.inj ((show Tryz.prog.funcNamed "roundsman/roundsmanlaw6.GraphPlays" = some 3 by kernel_rfl).symm.trans hf) |>.symm
      obtain rfl : fn = Tryz.f3 := (Option.some.inj (Tryz.func3.symm.trans hfn)).symm
      exact ⟨by kernel_rfl, fun j t ht => by
        rw [Tryz.params3] at ht
        exact stand_all #[26, 27] (by kernel_rfl) j t ht⟩)
    (by kernel_rfl)
#print axioms graphPlays_card

end Go.Proofs.YtgehjkcjpbdoaaaGreatDoor
