/-
  PROVED: with all vertices marked, to go through from one arc to another one, and the other's weight, is the least walk of two arcs or more; with none a turn alone. For every net and every two numbers.
-/
import Derived.Test.YtlfihaajnjeaeaaK8
import Derived.Test.YtlfihaajnjeaeaaLawP
import Derived.BigQuiet
import Derived.RegionTactic
import Derived.IntWalk
import Derived.Test.YtlfihaajnjeaeaaL8Base
import Derived.Test.YtlfihaajnjeaeaaGrow
namespace Go.Proofs.Ytlfihaajnjeaeaa
open HP Go.ChangeShapes Go.WideShapes Go.ChangeAt Go.RowKit

section
variable {n : NetD} {s b t : Nat} {x : Int}
theorem att_on (hs : wN n s ≠ 1152921504606846976) (h : Att (fun a b => addC (n.turn a b) (wN n b)) n.a.length s b x) : x < 1152921504606846976 → Att (hN n) n.a.length s b x ∧ wN n b ≠ 1152921504606846976 := by
  induction h with
  | start => exact fun _ => ⟨.start, hs⟩
  | @step a b x h hb ih =>
    intro hx
    obtain ⟨k1, k2⟩ := ih (addC_ltL hx h.held.2)
    have he : hN n a b = addC (n.turn a b) (wN n b) := by unfold hN; rw [if_neg k2]; rfl
    refine ⟨by rw [← he]; exact .step k1 hb, fun e => ?_⟩
    have h4 := addC_ltR hx
    rw [e, addC_inf] at h4
    exact h4 rfl
theorem att_hn (h : Att (hN n) n.a.length s b x) : x < 1152921504606846976 → Att (fun a b => addC (n.turn a b) (wN n b)) n.a.length s b x := by
  induction h with
  | start => exact fun _ => .start
  | @step a b x h hb ih =>
    intro hx
    have k1 := ih (addC_ltL hx h.held.2)
    have h4 := addC_ltR hx
    have he : hN n a b = addC (n.turn a b) (wN n b) := by
      unfold hN at h4 ⊢
      split
      · next e => rw [if_pos e] at h4; exact absurd rfl h4
      · rfl
    rw [he]
    exact .step k1 hb
theorem FromP.least {C : List Int} (h : FromP n s C) (hs : s < n.a.length) (ho : wN n s ≠ 1152921504606846976) (ht : t < n.a.length) : LeastOf (Att (fun a b => addC (n.turn a b) (wN n b)) n.a.length s t) (ctL C t) := by
  rcases h with ⟨h0, ⟨k', e, h1, h2, h3⟩ | ⟨h1, -⟩⟩
  · obtain rfl : s = k' := by omega
    have hl := h3.least h1 ht
    refine ⟨hl.hi, fun hlt => att_hn (hl.att hlt) hlt, fun y hy => ?_⟩
    by_cases hlt : y < 1152921504606846976
    · exact hl.le y (att_on ho hy hlt).1
    · have := hl.hi
      omega
  · exact absurd (h1 s rfl hs) ho
theorem insB_none (n : NetD) (m b : Nat) : insB n (List.replicate m false) b = false := by
  unfold insB
  have : ∀ j, (List.replicate m false).getD j false = false := fun j => by
    rw [List.getD_eq_getElem?_getD, List.getElem?_replicate]
    split <;> rfl
  rw [this]; rfl
theorem insB_all (hg : NetGood n) {b : Nat} (hb : b < n.a.length) : insB n (List.replicate n.v.length true) b = true := by
  obtain ⟨f0, f1, t0, t1, -⟩ := hg.arcs b hb
  unfold insB
  rw [NetGood.arc_at b hb]
  have : ∀ j : Int, 0 ≤ j → j < n.v.length → (List.replicate n.v.length true).getD j.toNat false = true := fun j h0 h1 => by
    rw [List.getD_eq_getElem?_getD, List.getElem?_replicate, if_pos (by omega)]; rfl
  rw [this _ f0 f1, this _ t0 t1]; rfl
end
/-- The marks: the first k are set. -/
def mkC (k m : Nat) : Array Value := ((List.range m).map fun i => Value.bool (decide (i < k))).toArray
theorem mkC_zero (m : Nat) : mkC 0 m = (List.replicate m (Value.bool false)).toArray := by
  unfold mkC
  congr 1
  refine List.ext_getElem (by simp) (fun i h1 h2 => by simp)
theorem mkC_set (k m : Nat) : (mkC k m).setIfInBounds k (.bool true) = mkC (k + 1) m := by
  unfold mkC
  rw [List.setIfInBounds_toArray]
  congr 1
  refine List.ext_getElem (by simp) (fun i h1 h2 => ?_)
  rw [List.getElem_set]
  simp only [List.getElem_map, List.getElem_range]
  by_cases e : k = i
  · subst e
    simp
  · rw [if_neg e]
    have : decide (i < k) = decide (i < k + 1) := decide_eq_decide.2 (by omega)
    rw [this]
theorem mkC_at {i k m : Nat} (hi : i < m) : (mkC k m)[i]? = some (Value.bool (decide (i < k))) := by
  unfold mkC
  simp [hi]
theorem bools_mk {w : World} {b k m : Nat} {t : TypeId} {x : Bool} (h : Blk w b (mkC k m) t) (hx : ∀ i, i < m → decide (i < k) = x) (hm : m ≤ 16384) : Bools w (.slice (some ⟨b, 0, none⟩) m m) (List.replicate m x) := by
  refine Or.inr ⟨by simp; omega, b, 0, m, by simp, by simp, fun i hi => ?_⟩
  have hi' : i < m := by simpa using hi
  rw [Nat.zero_add, h.cell i (mkC_at hi'), hx i hi']
  simp
def MkRel (w0 : World) (rb m : Nat) (iv : Value) (wr : World) : Prop := ∃ k : Nat, k ≤ m ∧ iv = .int .i64 k ∧ Blk wr rb (mkC k m) 4 ∧ Below w0.heap.size w0 wr
set_option maxHeartbeats 8000000 in
set_option maxRecDepth 100000 in
theorem whole_no (v : Value) (n : NetD) (a b : Int) (w : World) (hv : NetV w v n) (hin : InNet n) (hs : smallN n = false) :
    Calls Try.prog 5 #[v, .int .u16 a, .int .u16 b] w fun e w' => e = .returned (.bool true) ∧ Below w.heap.size w w' := by
  obtain ⟨vq, aq, tq, vc, ac, tc, rfl, -⟩ := hv.shape
  have HS := Lib.hid hs
  have HIN := Lib.hid hin
  clear hs hin
  obtain ⟨W0, hW0⟩ := named (w.alloc (.cells #[.slice vq n.v.length vc, .slice aq n.a.length ac, .slice tq n.t.length tc] 26))
  have hb0 : Below w.heap.size w W0 := by rw [hW0]; exact below_alloc1 _
  have k0 : Blk W0 w.heap.size #[.slice vq n.v.length vc, .slice aq n.a.length ac, .slice tq n.t.length tc] 26 := by rw [hW0]; exact Blk.new _ _ _ _ rfl
  have KA := Lib.hid (k0)
  have B0 := Lib.hid (hb0)
  have VA := Lib.hid (hv.below hb0)
  have e0 := hW0.symm
  clear hb0 k0 hW0 hv
  go_enter Try.func5, Try.ntmps5
  go_wp2_with fail
  clear e0
  refine (known8_any W0).mono ?_
  rintro e w1 ⟨rfl, hb⟩
  have KA_ := Lib.hid (KA.out.keep hb)
  have B0_ := Lib.hid (bOn6 B0.out hb)
  have VA_ := Lib.hid (VA.out.below hb)
  clear KA B0 VA
  have KA := KA_
  have B0 := B0_
  have VA := VA_
  clear KA_ B0_ VA_
  clear hb 
  obtain ⟨p0, p1, p2, -, -, -⟩ := KA.out.o3
  have pl := KA.out.lt
  go_wp2_with fail
  clear p0 p1 p2 pl
  refine (vSmall VA.out HIN.out HS.out).mono ?_
  rintro e w2 ⟨rfl, hb⟩
  have KA_ := Lib.hid (KA.out.keep hb)
  have B0_ := Lib.hid (bOn6 B0.out hb)
  have VA_ := Lib.hid (VA.out.below hb)
  clear KA B0 VA
  have KA := KA_
  have B0 := B0_
  have VA := VA_
  clear KA_ B0_ VA_
  clear hb 
  obtain ⟨p0, p1, p2, -, -, -⟩ := KA.out.o3
  have pl := KA.out.lt
  go_wp2_with fail
  clear p0 p1 p2 pl
  go_ret
  exact ⟨rfl, B0.out⟩

set_option maxHeartbeats 8000000 in
set_option maxRecDepth 100000 in
theorem whole_zero (v : Value) (n : NetD) (a b : Int) (w : World) (hv : NetV w v n) (hin : InNet n) (hs : smallN n = true) (h0 : n.a.length = 0) :
    Calls Try.prog 5 #[v, .int .u16 a, .int .u16 b] w fun e w' => e = .returned (.bool true) ∧ Below w.heap.size w w' := by
  obtain ⟨vq, aq, tq, vc, ac, tc, rfl, -⟩ := hv.shape
  have HS := Lib.hid hs
  have HIN := Lib.hid hin
  have hz : ((n.a.length : Int) == 0) = true := by simpa using h0
  clear h0
  clear hs hin
  obtain ⟨W0, hW0⟩ := named (w.alloc (.cells #[.slice vq n.v.length vc, .slice aq n.a.length ac, .slice tq n.t.length tc] 26))
  have hb0 : Below w.heap.size w W0 := by rw [hW0]; exact below_alloc1 _
  have k0 : Blk W0 w.heap.size #[.slice vq n.v.length vc, .slice aq n.a.length ac, .slice tq n.t.length tc] 26 := by rw [hW0]; exact Blk.new _ _ _ _ rfl
  have KA := Lib.hid (k0)
  have B0 := Lib.hid (hb0)
  have VA := Lib.hid (hv.below hb0)
  have e0 := hW0.symm
  clear hb0 k0 hW0 hv
  go_enter Try.func5, Try.ntmps5
  go_wp2_with fail
  clear e0
  refine (known8_any W0).mono ?_
  rintro e w1 ⟨rfl, hb⟩
  have KA_ := Lib.hid (KA.out.keep hb)
  have B0_ := Lib.hid (bOn6 B0.out hb)
  have VA_ := Lib.hid (VA.out.below hb)
  clear KA B0 VA
  have KA := KA_
  have B0 := B0_
  have VA := VA_
  clear KA_ B0_ VA_
  clear hb 
  obtain ⟨p0, p1, p2, -, -, -⟩ := KA.out.o3
  have pl := KA.out.lt
  go_wp2_with fail
  clear p0 p1 p2 pl
  refine (vSmall VA.out HIN.out HS.out).mono ?_
  rintro e w2 ⟨rfl, hb⟩
  have KA_ := Lib.hid (KA.out.keep hb)
  have B0_ := Lib.hid (bOn6 B0.out hb)
  have VA_ := Lib.hid (VA.out.below hb)
  clear KA B0 VA
  have KA := KA_
  have B0 := B0_
  have VA := VA_
  clear KA_ B0_ VA_
  clear hb 
  obtain ⟨p0, p1, p2, -, -, -⟩ := KA.out.o3
  have pl := KA.out.lt
  go_wp2_with fail
  clear p0 p1 p2 pl
  go_ret
  exact ⟨rfl, B0.out⟩

set_option maxHeartbeats 8000000 in
set_option maxRecDepth 100000 in
theorem whole_main (v : Value) (n : NetD) (a b : Int) (w : World) (hv : NetV w v n) (hin : InNet n) (hs : smallN n = true) (h0 : 0 < n.a.length) (a0 : 0 ≤ a) (a1 : a ≤ 65535) (b0 : 0 ≤ b) (b1 : b ≤ 65535) :
    Calls Try.prog 5 #[v, .int .u16 a, .int .u16 b] w fun e w' => e = .returned (.bool true) ∧ Below w.heap.size w w' := by
  obtain ⟨vq, aq, tq, vc, ac, tc, rfl, -⟩ := hv.shape
  obtain ⟨hgr, hfew, hok, h90⟩ := small_gr hs hin
  obtain ⟨s, es, hs9⟩ := rem8 a0 h0
  obtain ⟨t, et9, ht9⟩ := rem8 b0 h0
  have hvl : n.v.length ≤ 16384 := by have := hfew.v; omega
  have HS := Lib.hid hs
  have HIN := Lib.hid hin
  have HGR := Lib.hid hgr
  have HOK := Lib.hid hok
  have ES := Lib.hid es
  have ET := Lib.hid et9
  have hz : ((n.a.length : Int) == 0) = false := beq_eq_false_iff_ne.2 (by omega)
  have hnl : (n.a.length : Int) ≤ 90 := by omega
  have hnp : (0 : Int) < (n.a.length : Int) := by omega
  clear hs hin hgr hfew hok es et9
  obtain ⟨W0, hW0⟩ := named (w.alloc (.cells #[.slice vq n.v.length vc, .slice aq n.a.length ac, .slice tq n.t.length tc] 26))
  have hb0 : Below w.heap.size w W0 := by rw [hW0]; exact below_alloc1 _
  have k0 : Blk W0 w.heap.size #[.slice vq n.v.length vc, .slice aq n.a.length ac, .slice tq n.t.length tc] 26 := by rw [hW0]; exact Blk.new _ _ _ _ rfl
  have KA := Lib.hid (k0)
  have B0 := Lib.hid (hb0)
  have VA := Lib.hid (hv.below hb0)
  have e0 := hW0.symm
  clear hb0 k0 hW0 hv
  go_enter Try.func5, Try.ntmps5
  go_wp2_with fail
  clear e0
  refine (known8_any W0).mono ?_
  rintro e w1 ⟨rfl, hb⟩
  have KA_ := Lib.hid (KA.out.keep hb)
  have B0_ := Lib.hid (bOn6 B0.out hb)
  have VA_ := Lib.hid (VA.out.below hb)
  clear KA B0 VA
  have KA := KA_
  have B0 := B0_
  have VA := VA_
  clear KA_ B0_ VA_
  clear hb 
  obtain ⟨p0, p1, p2, -, -, -⟩ := KA.out.o3
  have pl := KA.out.lt
  go_wp2_with fail
  clear p0 p1 p2 pl
  refine (vSmall VA.out HIN.out HS.out).mono ?_
  rintro e w2 ⟨rfl, hb⟩
  have KA_ := Lib.hid (KA.out.keep hb)
  have B0_ := Lib.hid (bOn6 B0.out hb)
  have VA_ := Lib.hid (VA.out.below hb)
  clear KA B0 VA
  have KA := KA_
  have B0 := B0_
  have VA := VA_
  clear KA_ B0_ VA_
  clear hb 
  obtain ⟨p0, p1, p2, -, -, -⟩ := KA.out.o3
  have pl := KA.out.lt
  go_wp2_with fail
  clear p0 p1 p2 pl
  refine (vMade B0.out VA.out HGR.out HOK.out).mono ?_
  rintro e w3 ⟨p, va, vt, rfl, hG, hb⟩
  have KA_ := Lib.hid (KA.out.keep hb)
  have B0_ := Lib.hid (bOn6 B0.out hb)
  have VA_ := Lib.hid (VA.out.below hb)
  clear KA B0 VA
  have KA := KA_
  have B0 := B0_
  have VA := VA_
  clear KA_ B0_ VA_
  have G := Lib.hid (hG)
  clear B0
  clear hb hG
  obtain ⟨p0, p1, p2, -, -, -⟩ := KA.out.o3
  have pl := KA.out.lt
  go_wp2_with fail
  have wa : IntKind.i64.wrap a = a := IntWalk.i64_in _ (by omega)
  have wb : IntKind.i64.wrap b = b := IntWalk.i64_in _ (by omega)
  have es := ES.out
  have et9 := ET.out
  have ws : IntKind.i64.wrap (s : Int) = s := IntWalk.i64_in _ (by omega)
  have wt9 : IntKind.i64.wrap (t : Int) = t := IntWalk.i64_in _ (by omega)
  go_quiet (fail)
  clear p0 p1 p2 pl wa wb es et9 ws wt9
  obtain ⟨w4, hw4⟩ := named (w3.drewN nq)
  have hb : Below w3.heap.size w3 w4 := by rw [hw4]; exact below_drewN (Below.refl _ _) nq
  rw [← hw4]
  have KA_ := Lib.hid (KA.out.keep hb)
  have VA_ := Lib.hid (VA.out.below hb)
  have G_ := Lib.hid (G.out.old hb)
  clear KA VA G
  have KA := KA_
  have VA := VA_
  have G := G_
  clear KA_ VA_ G_
  clear hb hw4
  have hmk := HP.make1 w4 44 4 (.bool false) 1 rfl Try.underlying44 infoBool n.v.length hvl (by decide)
  obtain ⟨rb, hrb⟩ : ∃ rb, w4.heap.size = rb := ⟨_, rfl⟩
  obtain ⟨w5, hw5⟩ := named (w4.alloc (.cells (List.replicate n.v.length (.bool false)).toArray 4))
  have hb : Below w4.heap.size w4 w5 := by rw [hw5]; exact below_alloc1 _
  have k5 : Blk w5 rb (mkC 0 n.v.length) 4 := by rw [hw5, mkC_zero]; exact Blk.new _ _ _ _ hrb
  rw [← hw5, hrb] at hmk
  have HRB := Lib.hid hrb
  obtain ⟨p0, p1, p2, -, -, -⟩ := KA.out.o3
  have pl := KA.out.lt
  clear hrb hw5
  have hcv : (0 : Int) ≤ (n.v.length : Int) := by omega
  go_wp2_with fail
  clear p0 p1 p2 pl hmk
  have BR := Lib.hid hb
  have KA5 := Lib.hid (KA.out.keep hb)
  have VA5 := Lib.hid (VA.out.below hb)
  have G5 := Lib.hid (G.out.old hb)
  have KB := Lib.hid k5
  clear hb k5
  have HFL : Hid (Bools w5 (.slice (some ⟨rb, 0, none⟩) n.v.length n.v.length) (List.replicate n.v.length false)) := Lib.hid (bools_mk KB.out (fun i hi => by simp) hvl)
  obtain ⟨T, hT⟩ : ∃ T, n.turn s t = T := ⟨_, rfl⟩
  have HT := Lib.hid hT
  have HT2 : Hid (hld (n.turn s t) = T) := Lib.hid (by rw [← hT]; exact hld_in _ (turn_bd HGR.out.good s t).1 (turn_bd HGR.out.good s t).2)
  clear hT
  have hGS : Grows (fun w' => Below w5.heap.size w5 w') := Grows.below w5
  refine' wp_growL _ (fun w' => Below w5.heap.size w5 w') [[], [], [], [], [0, 1, 2, 3], [], [], [], [5, 6, 7], [4, 8]] (Fact.lit _ :: Fact.lit _ :: Fact.lit _ :: Fact.lit _ :: Fact.lit _ :: Fact.lit _ :: Fact.lit _ :: Fact.lit _ :: Fact.lit _ :: Fact.lit _ :: []) (by kernel_rfl) rfl (by kernel_rfl) (Below.refl _ _).drew ?seqwh10
  case' seqwh10 => skip
  iterate 4 ((first | (apply grow_skip; (case hf => rfl); (case hw => rfl)) | (apply grow_lit; (case hf => rfl); (case hw => rfl); (case hrun => (intro w' hS H; clear H; (obtain ⟨p0, p1, p2, -, -, -⟩ := (KA5.out.keep hS).o3); clear hS; go_simp; first | done | exact rfl)))); (case hc => (simp only [Act.put, List.setIfInBounds_toArray, List.set_cons_zero, List.set_cons_succ]; first | done | exact rfl)); (try (case hj => rfl)))
  (refine' grow_call (u := .int .i64 T) rfl Try.func14 (by kernel_rfl) rfl hGS rfl ?wt34 ?run34 ?put34 ?next34; (case wt34 => rfl); (case run34 => (intro w' hS H; exact (winside_is ((G5.out.old hS).g) G5.out.n (HFL.out.below hS) hs9 ht9).mono (fun e w2 h => by obtain ⟨x, rfl, hx, hb⟩ := h; obtain rfl : x = T := (insI_none (fun b => insB_none n _ b) hx).trans HT2.out; exact ⟨rfl, hb⟩))); (case put34 => (simp only [Act.put, List.setIfInBounds_toArray, List.set_cons_zero, List.set_cons_succ]; first | done | exact rfl)); (case' next34 => skip))
  iterate 3 ((first | (apply grow_skip; (case hf => rfl); (case hw => rfl)) | (apply grow_lit; (case hf => rfl); (case hw => rfl); (case hrun => (intro w' hS H; clear H; (obtain ⟨p0, p1, p2, -, -, -⟩ := (KA5.out.keep hS).o3); clear hS; go_simp; first | done | exact rfl)))); (case hc => (simp only [Act.put, List.setIfInBounds_toArray, List.set_cons_zero, List.set_cons_succ]; first | done | exact rfl)); (try (case hj => rfl)))
  (refine' grow_call (u := .int .i64 T) rfl Try.func15 (by kernel_rfl) rfl hGS rfl ?wt35 ?run35 ?put35 ?next35; (case wt35 => rfl); (case run35 => (intro w' hS H; exact (rvturn (VA5.out.below hS) G5.out.n.good HT.out).mono (fun e w2 h => ⟨h.1, h.2⟩))); (case put35 => (simp only [Act.put, List.setIfInBounds_toArray, List.set_cons_zero, List.set_cons_succ]; first | done | exact rfl)); (case' next35 => skip))
  iterate 1 ((first | (apply grow_skip; (case hf => rfl); (case hw => rfl)) | (apply grow_lit; (case hf => rfl); (case hw => rfl); (case hrun => (intro w' hS H; clear H; (obtain ⟨p0, p1, p2, -, -, -⟩ := (KA5.out.keep hS).o3); clear hS; go_simp; first | done | exact rfl)))); (case hc => (simp only [Act.put, List.setIfInBounds_toArray, List.set_cons_zero, List.set_cons_succ]; first | done | exact rfl)); (try (case hj => rfl)))
  intro w6 hb _
  have HBR : Hid (Below w4.heap.size w4 w6) := Lib.hid (bOn6 BR.out hb)
  have KB6 := Lib.hid (KB.out.keep hb)
  clear hb hGS HFL BR KA5 VA5 G5
  go_wp2_with fail
  go_loopw [11] (fun iv wr => MkRel w4 rb n.v.length iv wr) (fun iv _ => n.v.length - (intOf iv).toNat)
  case atStart => exact ⟨0, Nat.zero_le _, rfl, KB6.out, HBR.out⟩
  case round =>
    obtain ⟨k, hk, rfl, hkb, hbr⟩ := hrel
    have HK := Lib.hid hkb
    have HB := Lib.hid hbr
    clear hkb hbr
    by_cases hlt : k < n.v.length
    · have hset := HK.out.set k (.bool true)
      rw [mkC_set] at hset
      have HR : Hid (MkRel w4 rb n.v.length (.int .i64 ((k + 1 : Nat) : Int)) (wr.setCell ⟨rb, k, none⟩ (.bool true))) := Lib.hid ⟨k + 1, hlt, rfl, hset, HB.out.setCell (by rw [HRB.out]; exact Nat.le_refl _) _⟩
      obtain ⟨ov, hov⟩ : ∃ v, wr.cell? ⟨rb, k, none⟩ = some v := ⟨_, HK.out.cell k (mkC_at hlt)⟩
      have hof := HK.out.free k
      have hbl := HK.out.lt
      have hli : (k : Int) < (n.v.length : Int) := by omega
      clear hset
      go_wp2_with fail
      go_roundw
      case rel => exact HR.out
      case measure => simp [intOf]; omega
    · have hkm : k = n.v.length := by omega
      have HALL : Hid (Bools wr (.slice (some ⟨rb, 0, none⟩) n.v.length n.v.length) (List.replicate n.v.length true)) := Lib.hid (bools_mk HK.out (fun i hi => by rw [hkm]; simpa using hi) hvl)
      have hnlt : decide (k < n.v.length) = false := by simpa using hlt
      have hb := HB.out
      clear hkm KB6 HBR HK HB
      have KA_ := Lib.hid (KA.out.keep hb)
      have VA_ := Lib.hid (VA.out.below hb)
      have G_ := Lib.hid (G.out.old hb)
      clear KA VA G
      have KA := KA_
      have VA := VA_
      have G := G_
      clear KA_ VA_ G_
      clear hb
      go_wp2_with fail
      refine (winside_is G.out.g G.out.n HALL.out hs9 ht9).mono ?_
      rintro e w7 ⟨x, rfl, hx, hb⟩
      have HX := Lib.hid hx
      have KA_ := Lib.hid (KA.out.keep hb)
      have VA_ := Lib.hid (VA.out.below hb)
      have G_ := Lib.hid (G.out.old hb)
      clear KA VA G
      have KA := KA_
      have VA := VA_
      have G := G_
      clear KA_ VA_ G_
      clear hb hx HALL
      go_wp2_with fail
      refine (wFrom_is G.out.g G.out.n s (by omega) (by omega)).mono ?_
      rintro e xw ⟨xv, xl, rfl, xh, xF, hb⟩
      have xn := xF.1
      obtain ⟨xq, xc, rfl⟩ := xh.shape
      rw [xn]
      rw [xn] at xh
      have KA_ := Lib.hid (KA.out.keep hb)
      have VA_ := Lib.hid (VA.out.below hb)
      have G_ := Lib.hid (G.out.old hb)
      clear KA VA G
      have KA := KA_
      have VA := VA_
      have G := G_
      clear KA_ VA_ G_
      have XR := Lib.hid (xh)
      have XF := Lib.hid xF
      clear hb xh xF xn
      obtain ⟨ab, ao, rfl, -, -, ha2⟩ := (show NetV _ (netVal n vq aq tq vc ac tc) n from VA.out).s.a.at hs9
      obtain ⟨ab', ao', eb, -, -, ha3⟩ := (show NetV _ (netVal n vq (some ⟨ab, ao, none⟩) tq vc ac tc) n from VA.out).s.a.at ht9
      injection eb with eb
      injection eb with eb eb2
      subst eb
      subst eb2
      obtain ⟨V, hV⟩ : ∃ V, n.a[s].2.2 = V := ⟨_, rfl⟩
      obtain ⟨U, hU⟩ : ∃ U, n.a[t].2.2 = U := ⟨_, rfl⟩
      rw [hV] at ha2
      rw [hU] at ha3
      have hwV : wN n s = V := by unfold wN; rw [NetGood.arc_at s hs9]; exact hV
      have hwU : wN n t = U := by unfold wN; rw [NetGood.arc_at t ht9]; exact hU
      have hUb := wN_bd G.out.n.good ht9
      rw [hwU] at hUb
      have hal := World.block_lt_of_cell? xw _ ha2
      obtain ⟨xb, xo, rfl, hxl, hxc⟩ := XR.out.cellsAt (by rw [XF.out.1]; exact h0)
      have cxt := hxc t (by rw [XF.out.1]; exact ht9)
      have hsi : (s : Int) < (n.a.length : Int) := by omega
      have hti : (t : Int) < (n.a.length : Int) := by omega
      have hx0 : 0 ≤ x := HX.out.lo (fun y hy => hy.held.1)
      have hx1 : x ≤ 1152921504606846976 := HX.out.hi
      have hd0 : decide (0 ≤ x) = true := decide_eq_true hx0
      have hd1 : decide (x ≤ 1152921504606846976) = true := decide_eq_true hx1
      obtain ⟨p0, p1, p2, -, -, -⟩ := KA.out.o3
      have pl := KA.out.lt
      clear hV hU hxc
      by_cases hst : s = t
      · subst hst
        have hse : ((s : Int) == (s : Int)) = true := by simp
        go_wp2_with fail
        go_ret
        exact ⟨rfl, G.out.b⟩
      · have hse : ((s : Int) == (t : Int)) = false := beq_eq_false_iff_ne.2 (by omega)
        by_cases hI : V = 1152921504606846976
        · have hI1 : (V == 1152921504606846976) = true := by simpa using hI
          clear hI
          go_wp2_with fail
          go_ret
          exact ⟨rfl, G.out.b⟩
        · have hI1 : (V == 1152921504606846976) = false := by simpa using hI
          have hwh := ins_whole (fun b hb => insB_all HGR.out.good hb) hst ht9 HX.out (XF.out.least hs9 (by rw [hwV]; exact hI) ht9)
          rw [hwU] at hwh
          rw [hwh] at cxt
          obtain ⟨D, hD⟩ : ∃ D, addC x U = D := ⟨_, rfl⟩
          rw [hD] at cxt
          have HD := Lib.hid hD
          clear hI hwh hD hwV hwU
          go_wp2_with fail
          go_quiet ((go_at_call 11; exact Calls.quiet_of_same (quiet_add8 x U D _ (by omega) (by omega) (by omega) (by omega) HD.out)))
          clear p0 p1 p2 pl cxt ha2 ha3
          go_wp2_with fail
          go_ret
          exact ⟨rfl, below_drewN G.out.b _⟩
theorem whole_law (v : Value) (n : NetD) (a b : Int) (w : World) (hv : NetV w v n) (hin : InNet n) (a0 : 0 ≤ a) (a1 : a ≤ 65535) (b0 : 0 ≤ b) (b1 : b ≤ 65535) :
    Calls Try.prog 5 #[v, .int .u16 a, .int .u16 b] w fun e w' => e = .returned (.bool true) ∧ Below w.heap.size w w' := by
  cases hs : smallN n with
  | false => exact whole_no v n a b w hv hin hs
  | true =>
    by_cases h0 : n.a.length = 0
    · exact whole_zero v n a b w hv hin hs h0
    · exact whole_main v n a b w hv hin hs (by omega) a0 a1 b0 b1

set_option maxRecDepth 100000 in
theorem walkWhole_walks : WalksP 5 Try.f5 := by
  intro H enc W args ds g
  obtain ⟨ps, hA⟩ := g.reads
  obtain ⟨base, hval⟩ := g.okay
  rw [Try.params5] at hA hval
  obtain ⟨v0, vs0, d0, ds0, p0, q0, hargs, rfl, rfl, h0, r0⟩ := trodAll_cons hA
  obtain ⟨v1, vs1, d1, ds1, p1, q1, rfl, rfl, rfl, h1, r1⟩ := trodAll_cons r0
  obtain ⟨v2, vs2, d2, ds2, p2, q2, rfl, rfl, rfl, h2, r2⟩ := trodAll_cons r1
  obtain ⟨rfl, rfl, rfl⟩ := trodAll_nil r2
  obtain rfl : args = #[v0, v1, v2] := Array.toList_inj.1 hargs
  obtain ⟨n0, w0, u0⟩ := open_net (hval 0 26 v0 rfl rfl) h0
  obtain ⟨x1, rfl, rfl, rfl, w1⟩ := open_int Try.underlying27 (hval 1 27 v1 rfl rfl) h1
  obtain ⟨x2, rfl, rfl, rfl, w2⟩ := open_int Try.underlying27 (hval 2 27 v2 rfl rfl) h2
  exact whole_law v0 n0 x1 x2 W w0 u0 (wfu16 w1).1 (wfu16 w1).2 (wfu16 w2).1 (wfu16 w2).2

theorem walkWhole_row : Rows.WalkWholeSaid :=
  OpenClaim.holds_of_wide 5 Try.f5 rfl rfl rfl rfl rfl rfl rfl ⟨rfl, rfl, rfl, rfl, rfl⟩ rfl rfl rfl rfl rfl (by kernel_rfl) Try.func5 (by kernel_rfl)
    (of_decide_eq_true (by kernel_rfl)) (by unfold Func.isWrapper; rw [if_neg (of_decide_eq_false (by kernel_rfl))]; exact ⟨rfl, rfl⟩)
    (fun os started H enc _ => law_plain (s := Rows.walkWholeSpec) Try.func5 (by kernel_rfl) rfl (by kernel_rfl)
      (fun H ds hl => by
        rw [Try.params5] at hl
        match ds, hl with
        | [_, _, _], _ => exact ⟨rfl, rfl, rfl⟩)
      (by kernel_rfl) os started H enc
      (ChangeSpec.witness6 (enc := enc) (C := Try.checked) false ⟨#[], #[.agg #[.slice none 0 0, .slice none 0 0, .slice none 0 0], .int .u16 0, .int .u16 0], []⟩ 8 (by kernel_rfl) (by kernel_rfl) (by kernel_rfl) (by kernel_rfl))
      walkWhole_walks)
#print axioms walkWhole_row

end Go.Proofs.Ytlfihaajnjeaeaa
