/-
  PROVED: any row of numbers: what it costs as a walk of a net that was changed act by act. For every net, row of acts and row of numbers. Conditions: the listed library variable holds what the program's own text lays (the card ties it).
-/
import Derived.Test.YtlfihaajnjeaeaaGreatDoorK7
import Derived.Test.YtlfihaajnjeaeaaGreatDoorE7
import Derived.Test.YtlfihaajnjeaeaaGreatDoorIntsIn
import Derived.Test.YtlfihaajnjeaeaaGreatDoorD1
import Derived.Test.YtlfihaajnjeaeaaGreatDoorCards
import Derived.Test.YtlfihaajnjeaeaaGreatDoorTie
import Derived.SevenTiedAt
namespace Go.Proofs.YtlfihaajnjeaeaaGreatDoor
open HP Go.ChangeShapes Go.WideShapes Go.ChangeAt Go.RowKit

/-- A region that only makes memory. -/
structure GG.BelS8 (W : World) (_ : Nat → Bool) (_ : Unit) (w : World) : Prop where
  b : Below W.heap.size W w
def GG.RlB8 (_ : Unit) (w : World) (_ : Unit) (w' : World) : Prop := Below w.heap.size w w'
theorem GG.BelS8.still {W : World} {i : Nat} : GG.Still (GG.BelS8 W) GG.RlB8 i := ⟨fun _ _ _ h => ⟨h.b⟩, fun _ _ => Below.refl _ _⟩
/-- An empty row of the call's own. -/
def EmptyI (W : World) (v : Value) (w : World) : Prop := ∃ g, v = .slice (some ⟨g, 0, none⟩) 0 0 ∧ w.ownsRow W.heap.size 3 1 v 0 []
theorem EmptyI.below {W w w' : World} {v : Value} (h : EmptyI W v w) (hb : Below w.heap.size w w') : EmptyI W v w' := by
  obtain ⟨g, e, h1⟩ := h
  exact ⟨g, e, owns_keep (P := fun _ => True) h1 (Keep.of hb) (fun _ _ => trivial)⟩

set_option maxHeartbeats 8000000 in
set_option maxRecDepth 100000 in
theorem costs_no (v : Value) (n : NetD) (aq0 : Option Addr) (ac0 : Nat) (acts : List ActD) (lq0 : Option Addr) (lc0 : Nat) (l : List Int) (w : World) (hg : ErrT w) (hv : NetV w v n) (hin : InNet n) (hac : Acts w (.slice aq0 acts.length ac0) acts) (hai : InAct acts) (hli : I64s w (.slice lq0 l.length lc0) l) (hm : smallN n = false) :
    Calls Tryz.prog 3 #[v, .slice aq0 acts.length ac0, .slice lq0 l.length lc0] w fun e w' => e = .returned (.bool true) ∧ Below w.heap.size w w' := by
  obtain ⟨vq, aq, tq, vc, ac, tc, rfl, -⟩ := hv.shape
  have HG := Lib.hid hg
  have HV := Lib.hid hv
  have HIN := Lib.hid hin
  have HM := Lib.hid hm
  clear hg hv hin hm
  have HAC := Lib.hid hac
  have HAI := Lib.hid hai
  have HLI := Lib.hid hli
  clear hac hai hli
  go_enter Tryz.func3, Tryz.ntmps3
  go_wp2_with fail
  obtain ⟨W0, hW0⟩ := named (w.alloc (.cells #[.slice vq n.v.length vc, .slice aq n.a.length ac, .slice tq n.t.length tc] 26))
  rw [← hW0]
  have B0 : Hid (Below w.heap.size w W0) := by rw [hW0]; exact Lib.hid (below_new _)
  have KA : Hid (Blk W0 w.heap.size #[.slice vq n.v.length vc, .slice aq n.a.length ac, .slice tq n.t.length tc] 26) := by rw [hW0]; exact Lib.hid (Blk.new _ _ _ _ rfl)
  clear hW0
  refine (known8_any _).mono ?_
  rintro e w' ⟨rfl, hb⟩
  have KA_ := Lib.hid (KA.out.keep hb)
  have B_ := Lib.hid (bOn6 B0.out hb)
  clear KA
  have KA := KA_
  clear KA_
  clear B0
  have B0 := B_
  clear B_ hb 
  obtain ⟨ka0, ka1, ka2, -, -, -⟩ := KA.out.o3
  go_wp2_with fail
  clear ka0 ka1 ka2
  refine (vSmall (HV.out.below B0.out) HIN.out HM.out).mono ?_
  rintro e w' ⟨rfl, hb⟩
  have KA_ := Lib.hid (KA.out.keep hb)
  have B_ := Lib.hid (bOn6 B0.out hb)
  clear KA
  have KA := KA_
  clear KA_
  clear B0
  have B0 := B_
  clear B_ hb 
  obtain ⟨ka0, ka1, ka2, -, -, -⟩ := KA.out.o3
  go_wp2_with fail
  clear ka0 ka1 ka2
  go_ret
  exact ⟨rfl, B0.out⟩

set_option maxHeartbeats 8000000 in
set_option maxRecDepth 100000 in
theorem costs_long (v : Value) (n : NetD) (aq0 : Option Addr) (ac0 : Nat) (acts : List ActD) (lq0 : Option Addr) (lc0 : Nat) (l : List Int) (w : World) (hg : ErrT w) (hv : NetV w v n) (hin : InNet n) (hac : Acts w (.slice aq0 acts.length ac0) acts) (hai : InAct acts) (hli : I64s w (.slice lq0 l.length lc0) l) (hm : smallN n = true) (hl : 12 < acts.length) :
    Calls Tryz.prog 3 #[v, .slice aq0 acts.length ac0, .slice lq0 l.length lc0] w fun e w' => e = .returned (.bool true) ∧ Below w.heap.size w w' := by
  obtain ⟨vq, aq, tq, vc, ac, tc, rfl, -⟩ := hv.shape
  have HG := Lib.hid hg
  have HV := Lib.hid hv
  have HIN := Lib.hid hin
  have HM := Lib.hid hm
  clear hg hv hin hm
  have HAC := Lib.hid hac
  have HAI := Lib.hid hai
  have HLI := Lib.hid hli
  clear hac hai hli
  have HLL : Hid (12 < (acts.length : Int)) := Lib.hid (by omega)
  clear hl
  go_enter Tryz.func3, Tryz.ntmps3
  go_wp2_with fail
  obtain ⟨W0, hW0⟩ := named (w.alloc (.cells #[.slice vq n.v.length vc, .slice aq n.a.length ac, .slice tq n.t.length tc] 26))
  rw [← hW0]
  have B0 : Hid (Below w.heap.size w W0) := by rw [hW0]; exact Lib.hid (below_new _)
  have KA : Hid (Blk W0 w.heap.size #[.slice vq n.v.length vc, .slice aq n.a.length ac, .slice tq n.t.length tc] 26) := by rw [hW0]; exact Lib.hid (Blk.new _ _ _ _ rfl)
  clear hW0
  refine (known8_any _).mono ?_
  rintro e w' ⟨rfl, hb⟩
  have KA_ := Lib.hid (KA.out.keep hb)
  have B_ := Lib.hid (bOn6 B0.out hb)
  clear KA
  have KA := KA_
  clear KA_
  clear B0
  have B0 := B_
  clear B_ hb 
  obtain ⟨ka0, ka1, ka2, -, -, -⟩ := KA.out.o3
  go_wp2_with fail
  clear ka0 ka1 ka2
  refine (vSmall (HV.out.below B0.out) HIN.out HM.out).mono ?_
  rintro e w' ⟨rfl, hb⟩
  have KA_ := Lib.hid (KA.out.keep hb)
  have B_ := Lib.hid (bOn6 B0.out hb)
  clear KA
  have KA := KA_
  clear KA_
  clear B0
  have B0 := B_
  clear B_ hb 
  have hll := HLL.out
  obtain ⟨ka0, ka1, ka2, -, -, -⟩ := KA.out.o3
  go_wp2_with fail
  clear ka0 ka1 ka2
  go_ret
  exact ⟨rfl, B0.out⟩

set_option maxHeartbeats 8000000 in
set_option maxRecDepth 100000 in
theorem costs_long2 (v : Value) (n : NetD) (aq0 : Option Addr) (ac0 : Nat) (acts : List ActD) (lq0 : Option Addr) (lc0 : Nat) (l : List Int) (w : World) (hg : ErrT w) (hv : NetV w v n) (hin : InNet n) (hac : Acts w (.slice aq0 acts.length ac0) acts) (hai : InAct acts) (hli : I64s w (.slice lq0 l.length lc0) l) (hm : smallN n = true) (hl : acts.length ≤ 12) (hl2 : 60 < l.length) :
    Calls Tryz.prog 3 #[v, .slice aq0 acts.length ac0, .slice lq0 l.length lc0] w fun e w' => e = .returned (.bool true) ∧ Below w.heap.size w w' := by
  obtain ⟨vq, aq, tq, vc, ac, tc, rfl, -⟩ := hv.shape
  have HG := Lib.hid hg
  have HV := Lib.hid hv
  have HIN := Lib.hid hin
  have HM := Lib.hid hm
  clear hg hv hin hm
  have HAC := Lib.hid hac
  have HAI := Lib.hid hai
  have HLI := Lib.hid hli
  clear hac hai hli
  have HLL : Hid ((acts.length : Int) ≤ 12) := Lib.hid (by omega)
  have HL2 : Hid (60 < (l.length : Int)) := Lib.hid (by omega)
  clear hl hl2
  go_enter Tryz.func3, Tryz.ntmps3
  go_wp2_with fail
  obtain ⟨W0, hW0⟩ := named (w.alloc (.cells #[.slice vq n.v.length vc, .slice aq n.a.length ac, .slice tq n.t.length tc] 26))
  rw [← hW0]
  have B0 : Hid (Below w.heap.size w W0) := by rw [hW0]; exact Lib.hid (below_new _)
  have KA : Hid (Blk W0 w.heap.size #[.slice vq n.v.length vc, .slice aq n.a.length ac, .slice tq n.t.length tc] 26) := by rw [hW0]; exact Lib.hid (Blk.new _ _ _ _ rfl)
  clear hW0
  refine (known8_any _).mono ?_
  rintro e w' ⟨rfl, hb⟩
  have KA_ := Lib.hid (KA.out.keep hb)
  have B_ := Lib.hid (bOn6 B0.out hb)
  clear KA
  have KA := KA_
  clear KA_
  clear B0
  have B0 := B_
  clear B_ hb 
  obtain ⟨ka0, ka1, ka2, -, -, -⟩ := KA.out.o3
  go_wp2_with fail
  clear ka0 ka1 ka2
  refine (vSmall (HV.out.below B0.out) HIN.out HM.out).mono ?_
  rintro e w' ⟨rfl, hb⟩
  have KA_ := Lib.hid (KA.out.keep hb)
  have B_ := Lib.hid (bOn6 B0.out hb)
  clear KA
  have KA := KA_
  clear KA_
  clear B0
  have B0 := B_
  clear B_ hb 
  have hll := HLL.out
  have hl2 := HL2.out
  obtain ⟨ka0, ka1, ka2, -, -, -⟩ := KA.out.o3
  go_wp2_with fail
  clear ka0 ka1 ka2
  go_ret
  exact ⟨rfl, B0.out⟩
theorem infoIntC : (Tryz.prog.info? 3).map (fun i => (i.zero, i.size, i.bytes)) = some (some (.int .i64 0), 1, 8) := by kernel_rfl

set_option maxHeartbeats 8000000 in
set_option maxRecDepth 100000 in
theorem costs_main (v : Value) (n : NetD) (aq0 : Option Addr) (ac0 : Nat) (acts : List ActD) (lq0 : Option Addr) (lc0 : Nat) (l : List Int) (w : World) (hg : ErrT w) (hv : NetV w v n) (hin : InNet n) (hac : Acts w (.slice aq0 acts.length ac0) acts) (hai : InAct acts) (hli : I64s w (.slice lq0 l.length lc0) l) (hm : smallN n = true) (hl : acts.length ≤ 12) (hl2 : l.length ≤ 60) :
    Calls Tryz.prog 3 #[v, .slice aq0 acts.length ac0, .slice lq0 l.length lc0] w fun e w' => e = .returned (.bool true) ∧ Below w.heap.size w w' := by
  obtain ⟨vq, aq, tq, vc, ac, tc, rfl, -⟩ := hv.shape
  obtain ⟨hgr, hfew, hok, h90⟩ := small_gr hm hin
  have GN : Hid (GrN n) := Lib.hid hgr
  have HOK := Lib.hid hok
  have HLN : Hid (lq0 = none → l.length = 0) := Lib.hid (fun e => by
    rcases hli with ⟨rfl, _⟩ | ⟨_, b, o, c', _, _, e2, _⟩
    · rfl
    · rw [e] at e2; cases e2)
  clear hgr hfew hok h90
  have HG := Lib.hid hg
  have HV := Lib.hid hv
  have HIN := Lib.hid hin
  have HM := Lib.hid hm
  clear hg hv hin hm
  have HAC := Lib.hid hac
  have HAI := Lib.hid hai
  have HLI := Lib.hid hli
  clear hac hai hli
  have HLL : Hid ((acts.length : Int) ≤ 12) := Lib.hid (by omega)
  have HL2 : Hid ((l.length : Int) ≤ 60) := Lib.hid (by omega)
  clear hl
  go_enter Tryz.func3, Tryz.ntmps3
  go_wp2_with fail
  obtain ⟨W0, hW0⟩ := named (w.alloc (.cells #[.slice vq n.v.length vc, .slice aq n.a.length ac, .slice tq n.t.length tc] 26))
  rw [← hW0]
  have B0 : Hid (Below w.heap.size w W0) := by rw [hW0]; exact Lib.hid (below_new _)
  have KA : Hid (Blk W0 w.heap.size #[.slice vq n.v.length vc, .slice aq n.a.length ac, .slice tq n.t.length tc] 26) := by rw [hW0]; exact Lib.hid (Blk.new _ _ _ _ rfl)
  clear hW0
  refine (known8_any _).mono ?_
  rintro e w' ⟨rfl, hb⟩
  have KA_ := Lib.hid (KA.out.keep hb)
  have B_ := Lib.hid (bOn6 B0.out hb)
  clear KA
  have KA := KA_
  clear KA_
  clear B0
  have B0 := B_
  clear B_ hb 
  obtain ⟨ka0, ka1, ka2, -, -, -⟩ := KA.out.o3
  go_wp2_with fail
  clear ka0 ka1 ka2
  refine (vSmall (HV.out.below B0.out) HIN.out HM.out).mono ?_
  rintro e w' ⟨rfl, hb⟩
  have KA_ := Lib.hid (KA.out.keep hb)
  have B_ := Lib.hid (bOn6 B0.out hb)
  clear KA
  have KA := KA_
  clear KA_
  clear B0
  have B0 := B_
  clear B_ hb 
  have hll := HLL.out
  have hl2 := HL2.out
  obtain ⟨ka0, ka1, ka2, -, -, -⟩ := KA.out.o3
  go_wp2_with fail
  clear ka0 ka1 ka2
  refine (vMade B0.out (HV.out.below B0.out) GN.out HOK.out).mono ?_
  rintro e w' ⟨p, va, vt, rfl, hG, hb⟩
  have KA_ := Lib.hid (KA.out.keep hb)
  have G := Lib.hid hG
  clear KA
  have KA := KA_
  clear KA_
  clear hb hG B0
  obtain ⟨ka0, ka1, ka2, -, -, -⟩ := KA.out.o3
  go_wp2_with fail
  clear ka0 ka1 ka2
  have NA : Hid (NetA (Off [va, vt]) w' (.agg #[.slice vq n.v.length vc, .slice aq n.a.length ac, .slice tq n.t.length tc]) n) := Lib.hid ((HV.out.av.old G.out.b).mono G.out.o)
  go_loopw [8] (fun i wr => ∃ (k : Nat) (m : NetD) (q1 q2 q3 : Option Addr) (c1 c2 c3 : Nat), k ≤ acts.length ∧ i = .int .i64 k ∧ Hid (Blk wr w.heap.size #[.slice q1 m.v.length c1, .slice q2 m.a.length c2, .slice q3 m.t.length c3] 26) ∧ Hid (NetA (Off [va, vt]) wr (.agg #[.slice q1 m.v.length c1, .slice q2 m.a.length c2, .slice q3 m.t.length c3]) m) ∧ Hid (Gr1 w wr p m va vt)) (fun i _ => acts.length - (intOf i).toNat)
  case atStart => exact ⟨0, n, vq, aq, tq, vc, ac, tc, Nat.zero_le _, rfl, KA, NA, G⟩
  case round =>
    clear KA NA G
    obtain ⟨k, m, q1, q2, q3, c1, c2, c3, hk, rfl, KM, NM, GM⟩ := hrel
    by_cases hlt : k < acts.length
    · have hli : (k : Int) < (acts.length : Int) := by omega
      obtain ⟨ab, ao, rfl, x0, x1, x2, x3, x4⟩ := HAC.out.at hlt
      have hx := act_bounds HAI.out hlt
      obtain ⟨x, ex⟩ : ∃ x, acts[k] = x := ⟨_, rfl⟩
      rw [ex] at x0 x1 x2 x3 x4 hx
      clear ex
      obtain ⟨xk, xa, xi, xo, xw⟩ := x
      obtain ⟨M, eM⟩ : ∃ M, (actN m ⟨xk, xa, xi, xo, xw⟩).1 = M := ⟨_, rfl⟩
      have HM_ := Lib.hid eM
      have HX := Lib.hid hx
      have X0 := Lib.hid x0
      have X1 := Lib.hid x1
      have X2 := Lib.hid x2
      have X3 := Lib.hid x3
      have X4 := Lib.hid x4
      clear x0 x1 x2 x3 x4 hx eM
      go_wp2_with fail
      have DS0 := Lib.hid (GG.ActS.start (vs := [va, vt]) (m := M) GM.out.g GM.out.b)
      refine' GG.wp_thenL _ 12 (GG.ActS [va, vt] va vt p m M w wr) [[], [], [], [], [2, 3], [2, 3, 4], [0, 1, 2, 3, 4, 5], [0, 1, 2, 3, 4, 5, 6], [0, 1, 2, 3, 4, 5, 6, 7], [0, 1, 2, 3, 4, 5, 6, 7], [], [0, 1, 2, 3, 4, 5, 6, 7, 8, 10]] (GG.Fact.lit (Rl := GG.RlM [va, vt] M) _ :: GG.Fact.lit (Rl := GG.RlM [va, vt] M) _ :: GG.Fact.lit (Rl := GG.RlM [va, vt] M) _ :: GG.Fact.lit (Rl := GG.RlM [va, vt] M) _ :: GG.Fact.lit (Rl := GG.RlM [va, vt] M) _ :: GG.Fact.lit (Rl := GG.RlM [va, vt] M) _ :: GG.Fact.prop (Rl := GG.RlM [va, vt] M) _ _ :: GG.Fact.prop (Rl := GG.RlM [va, vt] M) _ _ :: GG.Fact.prop (Rl := GG.RlM [va, vt] M) _ _ :: GG.Fact.lit (Rl := GG.RlM [va, vt] M) _ :: GG.Fact.prop (Rl := GG.RlM [va, vt] M) _ _ :: GG.Fact.lit (Rl := GG.RlM [va, vt] M) _ :: []) (by kernel_rfl) rfl (by kernel_rfl) (0) (DS0.out) ?seqpl
      case' seqpl => skip
      iterate 6 (apply GG.grow_lit (GG.ActS.still (by decide) (by decide) (by decide)); (case hf => rfl); (case hw => rfl); (case hrun => (intro w' hS; (obtain ⟨dn, s, hS⟩ := hS); (obtain ⟨a0, a1, a2, -, -, -⟩ := (hS.d.k.blk KM.out (off_blk GM.out.mut KM.out (by decide) (by decide))).o3); (have x0 := keep hS.d.b X0.out); (have x1 := keep hS.d.b X1.out); (have x2 := keep hS.d.b X2.out); (have x3 := keep hS.d.b X3.out); (have x4 := keep hS.d.b X4.out); (have hab := World.block_lt_of_cell? w' _ x0); clear hS; go_simp; first | done | exact rfl)); (case hc => (first | (simp only [Act.put, List.setIfInBounds_toArray, List.set_cons_zero, List.set_cons_succ]; first | done | exact rfl) | rfl)))
      (refine' GG.grow_any_call (p := fun v _ w => DoneP [va, vt] M v w) (hp := fun v s w s' w' h hb => DoneP.keep h hb) rfl Tryz.func7 (by kernel_rfl) rfl rfl ?wtpl6 ?runpl6 ?putpl6 ?nextpl6; (case wtpl6 => rfl); (case runpl6 => (intro dn s w' hS hd H; exact (do6_to HG.out hS.d.b GM.out.o (hS.d.g0 hd) (GM.out.n) (NM.out.keep hS.d.k) (by simp) (by simp) hS.d.mut ⟨xk, xa, xi, xo, xw⟩ HX.out HM_.out).mono (fun e w2 ⟨u, h1, h2, h3, h4⟩ => ⟨_, s, h1, ⟨u, rfl, h2⟩, (hS.put (by simp) (by simp) GM.out.o h3 h4).1, (hS.put (by simp) (by simp) GM.out.o h3 h4).2, h4.size⟩))); (case putpl6 => (intro v; (simp only [Act.put, List.setIfInBounds_toArray, List.set_cons_zero, List.set_cons_succ]; first | done | exact rfl))); (case' nextpl6 => intro v6))
      (refine' GG.grow_any_op (p := fun v _ w => DoneP [va, vt] M v w) (hp := fun v s w s' w' h hb => DoneP.keep h hb) rfl ?wtpl7 ?runpl7 ?putpl7 ?nextpl7; (case wtpl7 => rfl); (case runpl7 => (intro dn s w' hS hd H; (have hv : DoneP [va, vt] M v6 w' := H 6 (by decide)); exact ⟨v6, s, w', (by clear hS H hd hv; go_simp; first | done | exact rfl), hv, hS.step (by decide) (by decide) (by decide), GG.RlM.refl, Nat.le_refl _⟩)); (case putpl7 => (intro v; (simp only [Act.put, List.setIfInBounds_toArray, List.set_cons_zero, List.set_cons_succ]; first | done | exact rfl))); (case' nextpl7 => intro v7))
      (refine' GG.grow_any_op (p := fun v _ w => NetA (Off [va, vt]) w v M) (hp := fun v s w s' w' h hb => hb.2 _ h) rfl ?wtpl8 ?runpl8 ?putpl8 ?nextpl8; (case wtpl8 => rfl); (case runpl8 => (intro dn s w' hS hd H; (have hv : DoneP [va, vt] M v7 w' := H 7 (by decide)); (obtain ⟨u, rfl, hU⟩ := hv); exact ⟨u, s, w', (by clear hS H hd hU; go_simp; first | done | exact rfl), hU, hS.step (by decide) (by decide) (by decide), GG.RlM.refl, Nat.le_refl _⟩)); (case putpl8 => (intro v; (simp only [Act.put, List.setIfInBounds_toArray, List.set_cons_zero, List.set_cons_succ]; first | done | exact rfl))); (case' nextpl8 => intro v8))
      (refine' GG.grow_write (u := .bool true) rfl ?wtpl9 ?runpl9 ?putpl9 ?nextpl9; (case wtpl9 => rfl); (case runpl9 => (intro dn s w' hS hd H; (have hv : DoneP [va, vt] M v7 w' := H 7 (by decide)); (obtain ⟨u, rfl, hU⟩ := hv); exact ⟨s, w', (by clear hS H hd hU; go_simp; first | done | exact rfl), hS.step (by decide) (by decide) (by decide), GG.RlM.refl, Nat.le_refl _⟩)); (case putpl9 => (first | (simp only [Act.put, List.setIfInBounds_toArray, List.set_cons_zero, List.set_cons_succ]; first | done | exact rfl) | rfl)); (case' nextpl9 => skip))
      (refine' GG.grow_any_op (p := fun v s _ => v = .pointer (some ⟨s, 0, none⟩) ∧ s ≠ 0) (hp := fun v s w s' w' h hb => (hb.1 h.2).symm ▸ h) rfl ?wtpl10 ?runpl10 ?putpl10 ?nextpl10; (case wtpl10 => rfl); (case runpl10 => (intro dn s w' hS hd H; (have hz : w'.heap.size ≠ 0 := by have := KM.out.lt; have := hS.d.k.size; omega); exact ⟨.pointer (some ⟨w'.heap.size, 0, none⟩), w'.heap.size, w'.alloc (.cells #[.slice none 0 0, .slice none 0 0, .slice none 0 0] 26), (by clear hS H hd hz; go_simp; first | done | exact rfl), ⟨rfl, hz⟩, (hS.box hd).1, (hS.box hd).2, (below_new _).size⟩)); (case putpl10 => (intro v; (simp only [Act.put, List.setIfInBounds_toArray, List.set_cons_zero, List.set_cons_succ]; first | done | exact rfl))); (case' nextpl10 => intro v10))
      (refine' GG.grow_store rfl ?wtpl11 ?runpl11 ?putpl11 ?nextpl11; (case wtpl11 => rfl); (case runpl11 => (intro dn s w' hS hd H; (have hv : NetA (Off [va, vt]) w' v8 M := H 8 (by decide)); (have hp : v10 = .pointer (some ⟨s, 0, none⟩) ∧ s ≠ 0 := H 10 (by decide)); (obtain ⟨rfl, hs0⟩ := hp); (obtain ⟨y1, y2, y3, d1, d2, d3, rfl, -⟩ := hv.net.shape); (have hz := hS.zero hs0 hd); (have h5 := hS.lay hs0 hd hv rfl); (obtain ⟨r0, r1, r2, f0, f1, f2⟩ := Blk.o3 hz); (have lr := Blk.lt hz); exact ⟨s, _, (by clear hS H hd hv h5 hz; go_simp; first | done | exact rfl), h5.1, h5.2, (keep_hdr w' s _ _ _).size⟩)); (case putpl11 => rfl); (case' nextpl11 => skip))
      intro dn s w2 hS hdn H
      have hv10 : v10 = .pointer (some ⟨s, 0, none⟩) ∧ s ≠ 0 := H 10 (by decide)
      obtain ⟨rfl, hs0⟩ := hv10
      obtain ⟨y1, y2, y3, d1, d2, d3, hB, hN⟩ := hS.b1 (hdn 11 (by decide))
      have GM2 : Hid (Gr1 w w2 p M va vt) := Lib.hid ⟨hS.d.g1 (hdn 6 (by decide)), HM_.out ▸ actN_grn GM.out.n _, hS.d.b, GM.out.o⟩
      have KM2 := Lib.hid (hS.d.k.blk KM.out (off_blk GM.out.mut KM.out (by decide) (by decide)))
      clear hS hdn H hs0 KM NM GM DS0
      have KN : Hid (Blk w2 s #[.slice y1 M.v.length d1, .slice y2 M.a.length d2, .slice y3 M.t.length d3] 26) := Lib.hid hB
      have NM := Lib.hid hN
      have GM := GM2
      have KM := KM2
      clear hB hN GM2 KM2
      refine wpAny_ready (rs := [12]) (by kernel_rfl) (by simp) (AllReady.cons rfl (fun K hK => ?_) AllReady.nil)
      go_simp
      refine hK _ _ ?_
      clear hK K
      refine wpAny_done (by kernel_rfl) ?_ _
      obtain ⟨r0, r1, r2, -, -, -⟩ := KN.out.o3
      obtain ⟨a0, a1, a2, f0, f1, f2⟩ := KM.out.o3
      have lr := KN.out.lt
      have la := KM.out.lt
      go_wp2_with fail
      clear r0 r1 r2 a0 a1 a2 f0 f1 f2 lr la
      go_roundw
      case rel => exact ⟨k + 1, M, y1, y2, y3, d1, d2, d3, by omega, by go_num, Lib.hid (blk_hdr KM.out _ _ _), Lib.hid (NM.out.box KM.out (hdr3 _ _ _ _ _ _ _ _ _) (keep_hdr _ _ _ _ _)), Lib.hid (GM.out.box KM.out (hdr3 _ _ _ _ _ _ _ _ _) (Nat.le_refl _) (keep_hdr _ _ _ _ _))⟩
      case measure => simp [intOf]; omega
    · have hli : ¬ (k : Int) < (acts.length : Int) := by omega
      obtain ⟨X, hX⟩ : ∃ X, m.cost l = X := ⟨_, rfl⟩
      have HX := Lib.hid hX
      have HLW := Lib.hid (HLI.out.below GM.out.b)
      have DS0 : Hid (GG.BelS8 wr (fun _ => false) () wr.drew) := Lib.hid ⟨(Below.refl _ _).drew⟩
      clear hX
      go_wp2_with fail
      refine' GG.wp_growL _ (GG.BelS8 wr) [[], [], [], [1, 2], [0, 1, 2, 3], [], [], [0, 1, 2, 3, 4, 5, 6], [0, 1, 2, 3, 4, 5, 6, 7], [0, 1, 2, 3, 4, 5, 6, 7, 8]] (GG.Fact.lit (Rl := GG.RlB8) _ :: GG.Fact.prop (Rl := GG.RlB8) _ _ :: GG.Fact.lit (Rl := GG.RlB8) _ :: GG.Fact.prop (Rl := GG.RlB8) _ _ :: GG.Fact.lit (Rl := GG.RlB8) _ :: GG.Fact.lit (Rl := GG.RlB8) _ :: GG.Fact.lit (Rl := GG.RlB8) _ :: GG.Fact.lit (Rl := GG.RlB8) _ :: GG.Fact.lit (Rl := GG.RlB8) _ :: GG.Fact.lit (Rl := GG.RlB8) _ :: []) (by kernel_rfl) rfl (by kernel_rfl) (()) (DS0.out) ?seqcs
      case' seqcs => skip
      (refine' GG.grow_lit (GG.BelS8.still) rfl ?wtcs0 ?runcs0 ?putcs0 ?nextcs0; (case wtcs0 => rfl); (case runcs0 => (intro w' hS; (obtain ⟨dn, s, hS⟩ := hS); (obtain ⟨a0, a1, a2, -, -, -⟩ := (KM.out.keep hS.b).o3); clear hS; go_simp; first | done | exact rfl)); (case putcs0 => (first | (simp only [Act.put, List.setIfInBounds_toArray, List.set_cons_zero, List.set_cons_succ]; first | done | exact rfl) | rfl)); (case' nextcs0 => skip))
      (refine' GG.grow_any_op (p := fun v _ w => EmptyI wr v w) (hp := fun v s w s' w' h hb => EmptyI.below h hb) rfl ?wtcs1 ?runcs1 ?putcs1 ?nextcs1; (case wtcs1 => rfl); (case runcs1 => (intro dn s w' hS hd H; exact ⟨.slice (some ⟨w'.heap.size, 0, none⟩) 0 0, (), w'.alloc (.cells #[] 3), (by clear hS H hd; go_simp; first | done | exact rfl), ⟨w'.heap.size, rfl, World.ownsRow_lit w' #[] 0 hS.b.size (by simp [maxLen]) (by simp)⟩, ⟨hS.b.trans ((below_new _).mono hS.b.size)⟩, below_new _, (below_new _).size⟩)); (case putcs1 => (intro v; (simp only [Act.put, List.setIfInBounds_toArray, List.set_cons_zero, List.set_cons_succ]; first | done | exact rfl))); (case' nextcs1 => intro v1))
      (refine' GG.grow_lit (GG.BelS8.still) rfl ?wtcs2 ?runcs2 ?putcs2 ?nextcs2; (case wtcs2 => rfl); (case runcs2 => (intro w' hS; (obtain ⟨dn, s, hS⟩ := hS); (obtain ⟨a0, a1, a2, -, -, -⟩ := (KM.out.keep hS.b).o3); clear hS; go_simp; first | done | exact rfl)); (case putcs2 => (first | (simp only [Act.put, List.setIfInBounds_toArray, List.set_cons_zero, List.set_cons_succ]; first | done | exact rfl) | rfl)); (case' nextcs2 => skip))
      (refine' GG.grow_any_op (p := fun v _ w => I64s w v l) (hp := fun v s w s' w' h hb => I64s.below h hb) rfl ?wtcs3 ?runcs3 ?putcs3 ?nextcs3; (case wtcs3 => rfl); (case runcs3 => (intro dn s w' hS hd H; (have hE : EmptyI wr v1 w' := H 1 (by decide)); (obtain ⟨ge, rfl, hown⟩ := hE); (obtain ⟨v9, w9, hr9, h19, h29⟩ := copyR (c := lc0) Tryz.underlying28 infoIntC rfl (by decide) (by decide) (W := w') (xs := l.map (Value.int .i64)) (n := l.length) (by simp) ((HLW.out.below hS.b).cells) HLN.out (by omega) hown hS.b.size); exact ⟨v9, (), w9, GG.exec_append (.tmp 50) (.tmp 51) 28 rfl rfl rfl hr9, ints_of_owns h19 (by omega), ⟨hS.b.trans (h29.mono hS.b.size)⟩, h29, h29.size⟩)); (case putcs3 => (intro v; (simp only [Act.put, List.setIfInBounds_toArray, List.set_cons_zero, List.set_cons_succ]; first | done | exact rfl))); (case' nextcs3 => intro v3))
      (refine' GG.grow_lit_call (u := .int .i64 X) rfl Tryz.func8 (by kernel_rfl) rfl rfl ?wtcs4 ?runcs4 ?putcs4 ?nextcs4; (case wtcs4 => rfl); (case runcs4 => (intro dn s w' hS hd H; (have hv9 : I64s w' v3 l := H 3 (by decide)); exact (wcost_is (GM.out.g.old hS.b) GM.out.n hv9 HX.out).mono (fun e w2 h => ⟨(), h.1, ⟨hS.b.trans (h.2.mono hS.b.size)⟩, h.2, h.2.size⟩))); (case putcs4 => (first | (simp only [Act.put, List.setIfInBounds_toArray, List.set_cons_zero, List.set_cons_succ]; first | done | exact rfl) | rfl)); (case' nextcs4 => skip))
      iterate 2 (apply GG.grow_lit (GG.BelS8.still); (case hf => rfl); (case hw => rfl); (case hrun => (intro w' hS; (obtain ⟨dn, s, hS⟩ := hS); (obtain ⟨a0, a1, a2, -, -, -⟩ := (KM.out.keep hS.b).o3); clear hS; go_simp; first | done | exact rfl)); (case hc => (first | (simp only [Act.put, List.setIfInBounds_toArray, List.set_cons_zero, List.set_cons_succ]; first | done | exact rfl) | rfl)))
      (refine' GG.grow_lit_call (u := .int .i64 X) rfl Tryz.func9 (by kernel_rfl) rfl rfl ?wtcs7 ?runcs7 ?putcs7 ?nextcs7; (case wtcs7 => rfl); (case runcs7 => (intro dn s w' hS hd H; exact (rvcost (NM.out.net.below hS.b) GM.out.n.good (HLW.out.below hS.b) (by omega) HX.out).mono (fun e w2 h => ⟨(), h.1, ⟨hS.b.trans (h.2.mono hS.b.size)⟩, h.2, h.2.size⟩))); (case putcs7 => (first | (simp only [Act.put, List.setIfInBounds_toArray, List.set_cons_zero, List.set_cons_succ]; first | done | exact rfl) | rfl)); (case' nextcs7 => skip))
      iterate 2 (apply GG.grow_lit (GG.BelS8.still); (case hf => rfl); (case hw => rfl); (case hrun => (intro w' hS; (obtain ⟨dn, s, hS⟩ := hS); (obtain ⟨a0, a1, a2, -, -, -⟩ := (KM.out.keep hS.b).o3); clear hS; go_simp; first | done | exact rfl)); (case hc => (first | (simp only [Act.put, List.setIfInBounds_toArray, List.set_cons_zero, List.set_cons_succ]; first | done | exact rfl) | rfl)))
      intro dn s w2 hS _ _
      have HF := Lib.hid (bOn6 GM.out.b hS.b)
      clear hS DS0
      go_wp2_with fail
      go_ret
      exact ⟨rfl, HF.out⟩

theorem costs_walk (v : Value) (n : NetD) (u : Value) (acts : List ActD) (lv : Value) (l : List Int) (w : World) (hg : ErrT w) (hv : NetV w v n) (hin : InNet n) (hac : Acts w u acts) (hai : InAct acts) (hli : I64s w lv l) (_ : In64 l) :
    Calls Tryz.prog 3 #[v, u, lv] w fun e w' => e = .returned (.bool true) ∧ Below w.heap.size w w' := by
  obtain ⟨q, c, rfl⟩ := hac.shape
  obtain ⟨q2, c2, rfl⟩ := hli.shape
  cases hm : smallN n with
  | false => exact costs_no v n q c acts q2 c2 l w hg hv hin hac hai hli hm
  | true =>
    by_cases hl : acts.length ≤ 12
    · by_cases hl2 : l.length ≤ 60
      · exact costs_main v n q c acts q2 c2 l w hg hv hin hac hai hli hm hl hl2
      · exact costs_long2 v n q c acts q2 c2 l w hg hv hin hac hai hli hm hl (by omega)
    · exact costs_long v n q c acts q2 c2 l w hg hv hin hac hai hli hm (by omega)

set_option maxRecDepth 100000 in
theorem walkCosts_walks : Walks laidAll 3 Tryz.f3 := by
  intro H enc W args ds g
  obtain ⟨ps, hA⟩ := g.reads
  obtain ⟨base, hval⟩ := g.okay
  rw [Tryz.params3] at hA hval
  obtain ⟨v0, vs0, d0, ds0, p0, q0, hargs, rfl, rfl, h0, r0⟩ := trodAll_cons hA
  obtain ⟨v1, vs1, d1, ds1, p1, q1, rfl, rfl, rfl, h1, r1⟩ := trodAll_cons r0
  obtain ⟨v2, vs2, d2, ds2, p2, q2, rfl, rfl, rfl, h2, r2⟩ := trodAll_cons r1
  obtain ⟨rfl, rfl, rfl⟩ := trodAll_nil r2
  obtain rfl : args = #[v0, v1, v2] := Array.toList_inj.1 hargs
  obtain ⟨n0, w0, u0⟩ := open_net (hval 0 26 v0 rfl rfl) h0
  obtain ⟨x1, w1, u1⟩ := open_acts6 (hval 1 27 v1 rfl rfl) h1
  obtain ⟨x2, w2, u2⟩ := open_intsIn (hval 2 28 v2 rfl rfl) h2
  exact costs_walk v0 n0 v1 x1 v2 x2 W (errT_of_laid g.laid) w0 u0 w1 u1 w2 u2

theorem walkCosts_row : Rows.WalkCostsSaid :=
  OpenClaim.holds_of_wide 3 Tryz.f3 rfl rfl rfl rfl rfl rfl rfl ⟨rfl, rfl, rfl, rfl, rfl⟩ rfl rfl rfl rfl rfl (by kernel_rfl) Tryz.func3 (by kernel_rfl)
    (of_decide_eq_true (by kernel_rfl)) (by unfold Func.isWrapper; rw [if_neg (of_decide_eq_false (by kernel_rfl))]; exact ⟨rfl, rfl⟩)
    (fun os started H enc _ => law_lifted (s := Rows.walkCostsSpec) (L := laidAll) Tryz.func3 (by kernel_rfl) rfl (by kernel_rfl)
      (fun H ds hl => by
        rw [Tryz.params3] at hl
        match ds, hl with
        | [_, _, _], _ => exact ⟨rfl, rfl, rfl⟩)
      (by kernel_rfl) os started H enc
      (ChangeSpec.witness_at (enc := enc) (C := Tryz.checked) (os := os) (X := fun w _ => laidMetH Tryz.prog laidAll w) false (laidWorld os) #[.agg #[.slice none 0 0, .slice none 0 0, .slice none 0 0], .slice none 0 0, .slice none 0 0] 8 rfl (by kernel_rfl) (by kernel_rfl) (by kernel_rfl) (by kernel_rfl) (by kernel_rfl) (laidWorld_met os _))
      walkCosts_walks)

theorem walkCosts_card : Rows.WalkCostsCardSaid :=
  Claim7.holds_tied_plain_at .later [] laidKindsAll true (Rows.walkCostsCard.stood.harness) true
    walkCosts_row (fun _ h => by cases h) (by kernel_rfl) (fun _ h => by cases h) walkCosts_row_tie rfl ⟨rfl, rfl⟩ (by kernel_rfl) rfl
    (fun f fn hf hfn => by
      obtain rfl : f = 3 := Option.some.inj ((show Tryz.prog.funcNamed "roundsman/roundsmanlaw8.WalkCosts" = some 3 by kernel_rfl).symm.trans hf) |>.symm
      obtain rfl : fn = Tryz.f3 := (Option.some.inj (Tryz.func3.symm.trans hfn)).symm
      exact ⟨by kernel_rfl, fun j t ht => by
        rw [Tryz.params3] at ht
        exact stand_all #[26, 27, 28] (by kernel_rfl) j t ht⟩)
    (by kernel_rfl)
#print axioms walkCosts_card

end Go.Proofs.YtlfihaajnjeaeaaGreatDoor
