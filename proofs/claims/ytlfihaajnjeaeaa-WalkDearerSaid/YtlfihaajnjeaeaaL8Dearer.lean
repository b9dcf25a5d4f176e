/-
  PROVED: where one arc costs more, no walk costs less; where it costs Inf, none goes by it; back at its cost all is as it was. For every net and every three numbers.
-/
import Derived.Test.YtlfihaajnjeaeaaK8
import Derived.Test.YtlfihaajnjeaeaaLawP
import Derived.BigQuiet
import Derived.RegionTactic
import Derived.IntWalk
import Derived.Test.YtlfihaajnjeaeaaL8Base
namespace Go.Proofs.Ytlfihaajnjeaeaa
open HP Go.ChangeShapes Go.WideShapes Go.ChangeAt Go.RowKit

/-- The net in which arc k costs c. -/
def setA (n : NetD) (k : Nat) (h : k < n.a.length) (c : Int) : NetD := ⟨n.v, n.a.set k (n.a[k].1, n.a[k].2.1, c), n.t⟩
section
variable {n m : NetD} {k s i : Nat} {c d : Int} {C D : List Int}
theorem setA_len (h : k < n.a.length) : (setA n k h c).a.length = n.a.length := by simp [setA]
theorem setA_arc (h : k < n.a.length) (j : Int) : ((setA n k h c).arc j).1 = (n.arc j).1 ∧ ((setA n k h c).arc j).2.1 = (n.arc j).2.1 := by
  unfold NetD.arc setA
  simp only [List.getD_eq_getElem?_getD, List.getElem?_set]
  split
  · next e =>
    rw [← e]
    simp [h]
  · exact ⟨rfl, rfl⟩
theorem setA_w (h : k < n.a.length) (j : Nat) : wN (setA n k h c) j = if j = k then c else wN n j := by
  unfold wN NetD.arc setA
  simp only [List.getD_eq_getElem?_getD, Int.toNat_natCast]
  by_cases e : j = k
  · subst e
    rw [if_pos rfl]
    simp [h]
  · rw [if_neg e, List.getElem?_set_ne (Ne.symm e)]
theorem setA_turn (h : k < n.a.length) (x y : Int) : (setA n k h c).turn x y = n.turn x y := by
  have ht : ∀ j, (setA n k h c).there j = n.there j := fun j => by unfold NetD.there; rw [setA_len]
  have hi : ∀ v, insL (setA n k h c).a v = insL n.a v := fun v => ins_setW h v
  have ho : ∀ v, outsL (setA n k h c).a v = outsL n.a v := fun v => outs_setW h v
  unfold NetD.turn
  rw [ht, ht, (setA_arc h x).2, (setA_arc h y).1, hi, ho]
  rfl
theorem setA_back (h : k < n.a.length) (h1 : k < (setA n k h c).a.length) (h2 : k < (setA (setA n k h c) k h1 d).a.length) : setA (setA (setA n k h c) k h1 d) k h2 (wN n k) = n := by
  have hw : wN n k = n.a[k].2.2 := by unfold wN; rw [NetGood.arc_at k h]
  rw [hw]
  obtain ⟨v, a, t⟩ := n
  simp only [setA]
  congr 1
  simp only [List.set_set, List.getElem_set_self]
  show a.set k a[k] = a
  exact List.set_getElem_self _
/-- Where arcs cost more. -/
structure Dear (n m : NetD) : Prop where
  len : m.a.length = n.a.length
  turn : ∀ x y, m.turn x y = n.turn x y
  w : ∀ b, wN n b ≤ wN m b
theorem FromP.dearer (hg : NetGood m) (h : FromP n s C) (g : FromP m s D) (hd : Dear n m) (hi : i < n.a.length) : ctL C i ≤ ctL D i := by
  have hin : i < m.a.length := by rw [hd.len]; exact hi
  rcases g with ⟨g0, ⟨k', e, g1, g2, g3⟩ | ⟨g1, rfl⟩⟩
  · obtain rfl : s = k' := by omega
    have hb := wN_bd hg g1
    rcases h with ⟨h0, ⟨k', e, h1, h2, h3⟩ | ⟨h1, -⟩⟩
    · obtain rfl : s = k' := by omega
      rw [hd.len] at g3
      refine h3.dearer g3 h1 hi (fun a b => ?_)
      unfold hN oN
      have ha := hd.w a
      by_cases e1 : wN m a = 1152921504606846976
      · rw [if_pos e1]
        split
        · exact Int.le_refl _
        · exact (addC_held _ _).2
      · rw [if_neg e1]
        by_cases e2 : wN n a = 1152921504606846976
        · exfalso
          by_cases hal : a < m.a.length
          · have := wN_bd hg hal
            omega
          · have : wN n a = 0 := by unfold wN NetD.arc; rw [Int.toNat_natCast, List.getD_eq_getElem?_getD, List.getElem?_eq_none (by have := hd.len; omega)]; rfl
            omega
        · rw [if_neg e2, hd.turn]
          exact addC_mono (Int.le_refl _) (hd.w b)
    · exfalso
      have := h1 s rfl (by rw [← hd.len]; exact g1)
      have h9 := hd.w s
      omega
  · rw [ctL_rep]
    exact (h.bd i hi).2
theorem FromP.shut (h : FromP n s C) (hk : k < n.a.length) (hw : wN n k = 1152921504606846976) : ctL C k = 1152921504606846976 := by
  rcases h with ⟨h0, ⟨k', e, h1, h2, h3⟩ | ⟨h1, rfl⟩⟩
  · have hi := h3.hi k hk
    by_cases hl : ctL C k < 1152921504606846976
    · exfalso
      generalize hx : ctL C k = x at hl
      have h4 := h3.att k hk (by omega)
      rw [hx] at h4
      cases h4 with
      | start => exact h2 hw
      | step k2 hb =>
        have : ∀ j, hN n j k = 1152921504606846976 := fun j => by unfold hN oN; rw [hw, addC_inf]; split <;> rfl
        rw [this, addC_inf] at hl
        omega
    · omega
  · exact ctL_rep _ _
theorem setA_dear (h : k < n.a.length) (hc : wN n k ≤ c) : Dear n (setA n k h c) := by
  refine ⟨setA_len h, setA_turn h, fun b => ?_⟩
  rw [setA_w]
  split
  · next e => subst e; exact hc
  · exact Int.le_refl _
end
def CostsB (w : World) (N : Nat) (Q : List Int → Prop) (e : Ending) (w' : World) : Prop := ∃ cb C, e = .returned (.slice (some ⟨cb, 0, none⟩) N N) ∧ Blk w' cb (numC C) 2 ∧ Q C ∧ Below w.heap.size w w'

set_option maxHeartbeats 4000000 in
set_option maxRecDepth 100000 in
theorem wFromB_is {P : Nat → Prop} {w : World} {p : Nat} {n : NetD} {va vt : Value} (h : GraphAt P w p n va vt) (hn : GrN n) {N : Nat} (hN : n.a.length = N) (s : Int) (s0 : -9223372036854775808 ≤ s) (s1 : s ≤ 9223372036854775807) :
    Calls Try.prog 9 #[gp p, .int .i64 s] w (CostsB w N (FromP n s)) := by
  have HC := Lib.hid (walks_onward h hn hN s s0 s1)
  have HN := Lib.hid hN
  clear h hn hN
  go_enter Try.func9, Try.ntmps9
  go_wp2_with fail
  refine HC.out.mono ?_
  rintro e w2 ⟨cb, bb, C, B, rfl, kc, -, -, -, hcl, -, hq, hb2⟩
  have HP : Hid (CostsB w N (FromP n s) (.returned (.slice (some ⟨cb, 0, none⟩) N N)) w2) := Lib.hid ⟨cb, C, rfl, kc, by
    have hN := HN.out
    subst hN
    exact WalkQ.from hq hcl, hb2⟩
  have hf := agg_field0 (.slice (some ⟨cb, 0, none⟩) N N) (.slice (some ⟨bb, 0, none⟩) N N) w2
  clear kc hcl hq hb2 HC
  go_wp2_with fail
  go_ret
  exact HP.out
theorem vSetA {w0 w : World} {p : Nat} {n : NetD} {va vt : Value} (h : Gr1 w0 w p n va vt) {k : Nat} (hk : k < n.a.length) {c : Int} (hc : wgt c = true) :
    Calls Try.prog 12 #[gp p, .int .i64 k, .int .i64 c] w fun e w' => e = .returned .nilIface ∧ Gr1 w0 w' p (setA n k hk c) va vt ∧ Keep (Off [va, vt]) w w' :=
  vSetG h hk hc rfl
theorem Gr1.keepB2 {w0 w w' : World} {p : Nat} {n : NetD} {va vt : Value} (h : Gr1 w0 w p n va vt) (hk : Keep (Off [va, vt]) w w') {b : Nat} {cs : Array Value} (hb : Blk w b cs 2) : Blk w' b cs 2 := h.blk hk hb (by decide) (by decide)
theorem cell_of {w : World} {b i : Nat} {C : List Int} {t : TypeId} (h : Blk w b (numC C) t) (hi : i < C.length) : w.cell? ⟨b, i, none⟩ = some (.int .i64 (ctL C i)) := by rw [ctL_at hi]; exact h.cell i (numC_at hi)
set_option maxHeartbeats 8000000 in
set_option maxRecDepth 100000 in
theorem dearer_no (v : Value) (n : NetD) (a b c : Int) (w : World) (hv : NetV w v n) (hin : InNet n) (hs : smallN n = false) :
    Calls Try.prog 4 #[v, .int .u16 a, .int .u16 b, .int .u32 c] w fun e w' => e = .returned (.bool true) ∧ Below w.heap.size w w' := by
  obtain ⟨vq, aq, tq, vc, ac, tc, rfl, -⟩ := hv.shape
  have HS := Lib.hid hs
  have HIN := Lib.hid hin
  clear hs hin
  obtain ⟨W0, hW0⟩ := named (w.alloc (.cells #[.slice vq n.v.length vc, .slice aq n.a.length ac, .slice tq n.t.length tc] 26))
  have hb0 : Below w.heap.size w W0 := by rw [hW0]; exact below_alloc1 _
  have k0 : Blk W0 w.heap.size #[.slice vq n.v.length vc, .slice aq n.a.length ac, .slice tq n.t.length tc] 26 := by rw [hW0]; exact Blk.new _ _ _ _ rfl
  have KA := Lib.hid (k0)
  have B0 := Lib.hid (hb0)
  have VA := Lib.hid (hv.below hb0)
  have e0 := hW0.symm
  clear hb0 k0 hW0 hv
  go_enter Try.func4, Try.ntmps4
  go_wp2_with fail
  clear e0
  refine (known8_any W0).mono ?_
  rintro e w1 ⟨rfl, hb⟩
  have KA_ := Lib.hid (KA.out.keep hb)
  have B0_ := Lib.hid (bOn6 B0.out hb)
  have VA_ := Lib.hid (VA.out.below hb)
  clear KA B0 VA
  have KA := KA_
  have B0 := B0_
  have VA := VA_
  clear KA_ B0_ VA_
  clear hb 
  obtain ⟨p0, p1, p2, -, -, -⟩ := KA.out.o3
  have pl := KA.out.lt
  go_wp2_with fail
  clear p0 p1 p2 pl
  refine (vSmall VA.out HIN.out HS.out).mono ?_
  rintro e w2 ⟨rfl, hb⟩
  have KA_ := Lib.hid (KA.out.keep hb)
  have B0_ := Lib.hid (bOn6 B0.out hb)
  have VA_ := Lib.hid (VA.out.below hb)
  clear KA B0 VA
  have KA := KA_
  have B0 := B0_
  have VA := VA_
  clear KA_ B0_ VA_
  clear hb 
  obtain ⟨p0, p1, p2, -, -, -⟩ := KA.out.o3
  have pl := KA.out.lt
  go_wp2_with fail
  clear p0 p1 p2 pl
  go_ret
  exact ⟨rfl, B0.out⟩

set_option maxHeartbeats 8000000 in
set_option maxRecDepth 100000 in
theorem dearer_zero (v : Value) (n : NetD) (a b c : Int) (w : World) (hv : NetV w v n) (hin : InNet n) (hs : smallN n = true) (h0 : n.a.length = 0) :
    Calls Try.prog 4 #[v, .int .u16 a, .int .u16 b, .int .u32 c] w fun e w' => e = .returned (.bool true) ∧ Below w.heap.size w w' := by
  obtain ⟨vq, aq, tq, vc, ac, tc, rfl, -⟩ := hv.shape
  have HS := Lib.hid hs
  have HIN := Lib.hid hin
  have hz : ((n.a.length : Int) == 0) = true := by simpa using h0
  clear h0
  clear hs hin
  obtain ⟨W0, hW0⟩ := named (w.alloc (.cells #[.slice vq n.v.length vc, .slice aq n.a.length ac, .slice tq n.t.length tc] 26))
  have hb0 : Below w.heap.size w W0 := by rw [hW0]; exact below_alloc1 _
  have k0 : Blk W0 w.heap.size #[.slice vq n.v.length vc, .slice aq n.a.length ac, .slice tq n.t.length tc] 26 := by rw [hW0]; exact Blk.new _ _ _ _ rfl
  have KA := Lib.hid (k0)
  have B0 := Lib.hid (hb0)
  have VA := Lib.hid (hv.below hb0)
  have e0 := hW0.symm
  clear hb0 k0 hW0 hv
  go_enter Try.func4, Try.ntmps4
  go_wp2_with fail
  clear e0
  refine (known8_any W0).mono ?_
  rintro e w1 ⟨rfl, hb⟩
  have KA_ := Lib.hid (KA.out.keep hb)
  have B0_ := Lib.hid (bOn6 B0.out hb)
  have VA_ := Lib.hid (VA.out.below hb)
  clear KA B0 VA
  have KA := KA_
  have B0 := B0_
  have VA := VA_
  clear KA_ B0_ VA_
  clear hb 
  obtain ⟨p0, p1, p2, -, -, -⟩ := KA.out.o3
  have pl := KA.out.lt
  go_wp2_with fail
  clear p0 p1 p2 pl
  refine (vSmall VA.out HIN.out HS.out).mono ?_
  rintro e w2 ⟨rfl, hb⟩
  have KA_ := Lib.hid (KA.out.keep hb)
  have B0_ := Lib.hid (bOn6 B0.out hb)
  have VA_ := Lib.hid (VA.out.below hb)
  clear KA B0 VA
  have KA := KA_
  have B0 := B0_
  have VA := VA_
  clear KA_ B0_ VA_
  clear hb 
  obtain ⟨p0, p1, p2, -, -, -⟩ := KA.out.o3
  have pl := KA.out.lt
  go_wp2_with fail
  clear p0 p1 p2 pl
  go_ret
  exact ⟨rfl, B0.out⟩

set_option maxHeartbeats 8000000 in
set_option maxRecDepth 100000 in
theorem dearer_main (v : Value) (n : NetD) (a b c : Int) (w : World) (hv : NetV w v n) (hin : InNet n) (hs : smallN n = true) (h0 : 0 < n.a.length) (a0 : 0 ≤ a) (a1 : a ≤ 65535) (b0 : 0 ≤ b) (b1 : b ≤ 65535) (c0 : 0 ≤ c) (c1 : c ≤ 4294967295) :
    Calls Try.prog 4 #[v, .int .u16 a, .int .u16 b, .int .u32 c] w fun e w' => e = .returned (.bool true) ∧ Below w.heap.size w w' := by
  obtain ⟨vq, aq, tq, vc, ac, tc, rfl, -⟩ := hv.shape
  obtain ⟨hgr, hfew, hok, h90⟩ := small_gr hs hin
  obtain ⟨k, ek, hk9⟩ := rem8 a0 h0
  obtain ⟨s, es, hs9⟩ := rem8 b0 h0
  have hwg := (hgr.good.arcs k hk9).2.2.2.2
  obtain ⟨V, hV⟩ : ∃ V, n.a[k].2.2 = V := ⟨_, rfl⟩
  rw [hV] at hwg
  have hwV : wN n k = V := by unfold wN; rw [NetGood.arc_at k hk9]; exact hV
  have HWV := Lib.hid hwV
  have HV := Lib.hid hV
  have HWG := Lib.hid hwg
  have hVb := wgt_in hwg
  have HVV := Lib.hid hv
  have HS := Lib.hid hs
  have HIN := Lib.hid hin
  have HGR := Lib.hid hgr
  have HOK := Lib.hid hok
  have EK := Lib.hid ek
  have ES := Lib.hid es
  have hz : ((n.a.length : Int) == 0) = false := beq_eq_false_iff_ne.2 (by omega)
  have hnl : (n.a.length : Int) ≤ 90 := by omega
  have hnp : (0 : Int) < (n.a.length : Int) := by omega
  clear hs hin hgr hfew hok ek es hwg hV hwV
  obtain ⟨W0, hW0⟩ := named (w.alloc (.cells #[.slice vq n.v.length vc, .slice aq n.a.length ac, .slice tq n.t.length tc] 26))
  have hb0 : Below w.heap.size w W0 := by rw [hW0]; exact below_alloc1 _
  have k0 : Blk W0 w.heap.size #[.slice vq n.v.length vc, .slice aq n.a.length ac, .slice tq n.t.length tc] 26 := by rw [hW0]; exact Blk.new _ _ _ _ rfl
  have KA := Lib.hid (k0)
  have B0 := Lib.hid (hb0)
  have VA := Lib.hid (hv.below hb0)
  have e0 := hW0.symm
  clear hb0 k0 hW0 hv
  go_enter Try.func4, Try.ntmps4
  go_wp2_with fail
  clear e0
  refine (known8_any W0).mono ?_
  rintro e w1 ⟨rfl, hb⟩
  have KA_ := Lib.hid (KA.out.keep hb)
  have B0_ := Lib.hid (bOn6 B0.out hb)
  have VA_ := Lib.hid (VA.out.below hb)
  clear KA B0 VA
  have KA := KA_
  have B0 := B0_
  have VA := VA_
  clear KA_ B0_ VA_
  clear hb 
  obtain ⟨p0, p1, p2, -, -, -⟩ := KA.out.o3
  have pl := KA.out.lt
  go_wp2_with fail
  clear p0 p1 p2 pl
  refine (vSmall VA.out HIN.out HS.out).mono ?_
  rintro e w2 ⟨rfl, hb⟩
  have KA_ := Lib.hid (KA.out.keep hb)
  have B0_ := Lib.hid (bOn6 B0.out hb)
  have VA_ := Lib.hid (VA.out.below hb)
  clear KA B0 VA
  have KA := KA_
  have B0 := B0_
  have VA := VA_
  clear KA_ B0_ VA_
  clear hb 
  obtain ⟨p0, p1, p2, -, -, -⟩ := KA.out.o3
  have pl := KA.out.lt
  go_wp2_with fail
  clear p0 p1 p2 pl
  refine (vMade B0.out VA.out HGR.out HOK.out).mono ?_
  rintro e w3 ⟨p, va, vt, rfl, hG, hb⟩
  have KA_ := Lib.hid (KA.out.keep hb)
  have B0_ := Lib.hid (bOn6 B0.out hb)
  have VA_ := Lib.hid (VA.out.below hb)
  clear KA B0 VA
  have KA := KA_
  have B0 := B0_
  have VA := VA_
  clear KA_ B0_ VA_
  have G := Lib.hid (hG)
  clear B0 VA
  clear hb hG
  obtain ⟨p0, p1, p2, -, -, -⟩ := KA.out.o3
  have pl := KA.out.lt
  go_wp2_with fail
  have wa : IntKind.i64.wrap a = a := IntWalk.i64_in _ (by omega)
  have wb : IntKind.i64.wrap b = b := IntWalk.i64_in _ (by omega)
  have ek := EK.out
  have es := ES.out
  have ws : IntKind.i64.wrap (s : Int) = s := IntWalk.i64_in _ (by omega)
  have wk9 : IntKind.i64.wrap (k : Int) = k := IntWalk.i64_in _ (by omega)
  go_quiet (fail)
  clear p0 p1 p2 pl wa wb ek es ws wk9
  obtain ⟨w4, hw4⟩ := named (w3.drewN nq)
  have hb : Below w3.heap.size w3 w4 := by rw [hw4]; exact below_drewN (Below.refl _ _) nq
  rw [← hw4]
  have KA_ := Lib.hid (KA.out.keep hb)
  have G_ := Lib.hid (G.out.old hb)
  clear KA G
  have KA := KA_
  have G := G_
  clear KA_ G_
  clear hb hw4
  obtain ⟨ab, ao, rfl, -, -, ha2⟩ := (show NetV _ (netVal n vq aq tq vc ac tc) n from HVV.out.below G.out.b).s.a.at hk9
  rw [HV.out] at ha2
  have hal := World.block_lt_of_cell? w4 _ ha2
  have hki : (k : Int) < (n.a.length : Int) := by omega
  obtain ⟨p0, p1, p2, -, -, -⟩ := KA.out.o3
  have pl := KA.out.lt
  go_wp2_with fail
  clear p0 p1 p2 pl ha2
  refine (wFromB_is G.out.g G.out.n rfl s (by omega) (by omega)).mono ?_
  rintro e w5 ⟨xb, X, rfl, kx, hX, hb⟩
  have KA_ := Lib.hid (KA.out.keep hb)
  have G_ := Lib.hid (G.out.old hb)
  clear KA G
  have KA := KA_
  have G := G_
  clear KA_ G_
  have KX := Lib.hid (kx)
  have FX := Lib.hid hX
  clear hb kx hX
  have HUP : Hid (∃ U, U = (if V < 2147483648 then min (V + c % 1000) 2147483648 else 1152921504606846976)) := Lib.hid ⟨_, rfl⟩
  obtain ⟨U, hU⟩ := HUP.out
  have hUg : wgt U = true := by
    rw [hU]
    split
    · unfold wgt
      have h1 : 0 ≤ min (V + c % 1000) 2147483648 := by omega
      have h2 : min (V + c % 1000) 2147483648 ≤ 2147483648 := by omega
      simp [h1, h2]
    · exact wgt_inf
  have hVU : V ≤ U := by
    rw [hU]
    split
    · omega
    · omega
  have HUG := Lib.hid hUg
  have HVU := Lib.hid hVU
  have hUb := wgt_in hUg
  clear hUg hVU HUP
  by_cases hlt : V < 2147483648
  · rw [if_pos hlt] at hU
    have HUE := Lib.hid hU.symm
    have hlt2 : decide (V < 2147483648) = true := decide_eq_true hlt
    clear hU
    go_wp2_with fail
    rw [HUE.out]
    clear HUE
    refine (vSetA G.out hk9 HUG.out).mono ?_
    rintro e w6 ⟨rfl, hG, hkp⟩
    have KA_ := Lib.hid (G.out.blk hkp KA.out (by decide) (by decide))
    have KX_ := Lib.hid (G.out.blk hkp KX.out (by decide) (by decide))
    clear KA KX G
    have KA := KA_
    have KX := KX_
    have G := Lib.hid hG
    clear KA_ KX_ hG hkp
    go_wp2_with fail
    have hk1 : k < (setA n k hk9 U).a.length := by rw [setA_len]; exact hk9
    refine (wFromB_is G.out.g G.out.n (setA_len hk9) s (by omega) (by omega)).mono ?_
    rintro e w7 ⟨yb, Y, rfl, ky, hY, hb⟩
    have KA_ := Lib.hid (KA.out.keep hb)
    have KX_ := Lib.hid (KX.out.keep hb)
    have G_ := Lib.hid (G.out.old hb)
    clear KA KX G
    have KA := KA_
    have KX := KX_
    have G := G_
    have KY := Lib.hid ky
    have FY := Lib.hid hY
    clear KA_ KX_ G_ hb ky hY
    go_wp2_with fail
    refine (vSetA G.out hk1 wgt_inf).mono ?_
    rintro e w8 ⟨rfl, hG, hkp⟩
    have KA_ := Lib.hid (G.out.blk hkp KA.out (by decide) (by decide))
    have KX_ := Lib.hid (G.out.blk hkp KX.out (by decide) (by decide))
    have KY_ := Lib.hid (G.out.blk hkp KY.out (by decide) (by decide))
    clear KA KX KY G
    have KA := KA_
    have KX := KX_
    have KY := KY_
    have G := Lib.hid hG
    clear KA_ KX_ KY_ hG hkp
    go_wp2_with fail
    have hk2 : k < (setA (setA n k hk9 U) k hk1 1152921504606846976).a.length := by rw [setA_len]; exact hk1
    refine (wFromB_is G.out.g G.out.n ((setA_len hk1).trans (setA_len hk9)) s (by omega) (by omega)).mono ?_
    rintro e w9 ⟨zb, Z, rfl, kz, hZ, hb⟩
    have KA_ := Lib.hid (KA.out.keep hb)
    have KX_ := Lib.hid (KX.out.keep hb)
    have KY_ := Lib.hid (KY.out.keep hb)
    have G_ := Lib.hid (G.out.old hb)
    clear KA KX KY G
    have KA := KA_
    have KX := KX_
    have KY := KY_
    have G := G_
    have KZ := Lib.hid kz
    have FZ := Lib.hid hZ
    clear KA_ KX_ KY_ G_ hb kz hZ
    go_wp2_with fail
    refine (vSetA G.out hk2 HWG.out).mono ?_
    rintro e w10 ⟨rfl, hG, hkp⟩
    have KA_ := Lib.hid (G.out.blk hkp KA.out (by decide) (by decide))
    have KX_ := Lib.hid (G.out.blk hkp KX.out (by decide) (by decide))
    have KY_ := Lib.hid (G.out.blk hkp KY.out (by decide) (by decide))
    have KZ_ := Lib.hid (G.out.blk hkp KZ.out (by decide) (by decide))
    clear KA KX KY KZ G
    have KA := KA_
    have KX := KX_
    have KY := KY_
    have KZ := KZ_
    have hback : setA (setA (setA n k hk9 U) k hk1 1152921504606846976) k hk2 V = n := by rw [← HWV.out]; exact setA_back hk9 hk1 hk2
    rw [hback] at hG
    have G := Lib.hid hG
    clear KA_ KX_ KY_ KZ_ hG hkp hback
    have hD1 := setA_dear (c := U) hk9 (by rw [HWV.out]; exact HVU.out)
    have hD2 := setA_dear (c := 1152921504606846976) hk1 (by rw [setA_w, if_pos rfl]; omega)
    have hG1 := (grn_setW HGR.out hk9 HUG.out).good
    have hG2 := (grn_setW (grn_setW HGR.out hk9 HUG.out) hk1 wgt_inf).good
    have LX := Lib.hid FX.out.1
    have LY := Lib.hid (FY.out.1.trans (setA_len hk9))
    have LZ := Lib.hid (FZ.out.1.trans ((setA_len hk1).trans (setA_len hk9)))
    have HXY : Hid (∀ i, i < n.a.length → ctL X i ≤ ctL Y i) := Lib.hid (fun i hi => FX.out.dearer hG1 FY.out hD1 hi)
    have HYZ : Hid (∀ i, i < n.a.length → ctL Y i ≤ ctL Z i) := Lib.hid (fun i hi => FY.out.dearer hG2 FZ.out hD2 (by rw [setA_len]; exact hi))
    have hzk : ctL Z k = 1152921504606846976 := FZ.out.shut hk2 (by rw [setA_w, if_pos rfl])
    have hzc := cell_of KZ.out (i := k) (by rw [LZ.out]; exact hk9)
    rw [hzk] at hzc
    have hzl := KZ.out.lt
    obtain ⟨p0, p1, p2, -, -, -⟩ := KA.out.o3
    have pl := KA.out.lt
    clear hD1 hD2 hG1 hG2 hzk
    go_wp2_with fail
    clear p0 p1 p2 pl hzc
    go_loopw [20] (fun iv wr => ∃ i : Nat, i ≤ n.a.length ∧ iv = .int .i64 i ∧ Hid (Below w10.heap.size w10 wr)) (fun iv _ => n.a.length - (intOf iv).toNat)
    case atStart => exact ⟨0, Nat.zero_le _, rfl, Lib.hid (Below.refl _ _)⟩
    case round =>
      obtain ⟨i, hi, rfl, HB⟩ := hrel
      by_cases hil : i < n.a.length
      · have cx := cell_of (KX.out.keep HB.out) (i := i) (by rw [LX.out]; exact hil)
        have cy := cell_of (KY.out.keep HB.out) (i := i) (by rw [LY.out]; exact hil)
        have cz := cell_of (KZ.out.keep HB.out) (i := i) (by rw [LZ.out]; exact hil)
        have o1 := HXY.out i hil
        have o2 := HYZ.out i hil
        have lx := (KX.out.keep HB.out).lt
        have ly := (KY.out.keep HB.out).lt
        have lz := (KZ.out.keep HB.out).lt
        generalize ctL X i = x at cx o1
        generalize ctL Y i = y at cy o1 o2
        generalize ctL Z i = z at cz o2
        have d1 : decide (y < x) = false := decide_eq_false (by omega)
        have d2 : decide (z < y) = false := decide_eq_false (by omega)
        have hii : (i : Int) < (n.a.length : Int) := by omega
        go_wp2_with fail
        go_quiet (fail)
        clear cx cy cz
        go_wp2_with fail
        go_roundw
        case rel => exact ⟨i + 1, hil, by go_num, Lib.hid (below_drewN HB.out _)⟩
        case measure => simp [intOf]; omega
      · have hnil : decide (i < n.a.length) = false := by simpa using hil
        have GE := Lib.hid (G.out.old HB.out)
        have KE := Lib.hid (KX.out.keep HB.out)
        clear KX KY KZ KA G HB
        go_wp2_with fail
        refine (wFromB_is GE.out.g GE.out.n rfl s (by omega) (by omega)).mono ?_
        rintro e w12 ⟨qb, Q, rfl, kq, hQ, hb⟩
        have hQX := hQ.uniq FX.out
        have KE2 := Lib.hid (KE.out.keep hb)
        have GE2 := Lib.hid (GE.out.old hb)
        have KQ := Lib.hid kq
        have HQX := Lib.hid hQX
        have HQL := Lib.hid hQ.1
        clear kq hQ hb hQX
        go_wp2_with fail
        refine (vsameC (B := true) (i64s_of_blk KQ.out HQL.out (by omega)) (i64s_of_blk KE2.out LX.out (by omega)) (by rw [HQX.out]; simp)).mono ?_
        rintro e w13 ⟨rfl, hb⟩
        have GE3 := Lib.hid (GE2.out.old hb)
        clear hb
        go_wp2_with fail
        go_ret
        exact ⟨rfl, GE3.out.b⟩
  · rw [if_neg hlt] at hU
    subst hU
    have hlt2 : decide (V < 2147483648) = false := decide_eq_false hlt
    go_wp2_with fail
    refine (vSetA G.out hk9 HUG.out).mono ?_
    rintro e w6 ⟨rfl, hG, hkp⟩
    have KA_ := Lib.hid (G.out.blk hkp KA.out (by decide) (by decide))
    have KX_ := Lib.hid (G.out.blk hkp KX.out (by decide) (by decide))
    clear KA KX G
    have KA := KA_
    have KX := KX_
    have G := Lib.hid hG
    clear KA_ KX_ hG hkp
    go_wp2_with fail
    have hk1 : k < (setA n k hk9 1152921504606846976).a.length := by rw [setA_len]; exact hk9
    refine (wFromB_is G.out.g G.out.n (setA_len hk9) s (by omega) (by omega)).mono ?_
    rintro e w7 ⟨yb, Y, rfl, ky, hY, hb⟩
    have KA_ := Lib.hid (KA.out.keep hb)
    have KX_ := Lib.hid (KX.out.keep hb)
    have G_ := Lib.hid (G.out.old hb)
    clear KA KX G
    have KA := KA_
    have KX := KX_
    have G := G_
    have KY := Lib.hid ky
    have FY := Lib.hid hY
    clear KA_ KX_ G_ hb ky hY
    go_wp2_with fail
    refine (vSetA G.out hk1 wgt_inf).mono ?_
    rintro e w8 ⟨rfl, hG, hkp⟩
    have KA_ := Lib.hid (G.out.blk hkp KA.out (by decide) (by decide))
    have KX_ := Lib.hid (G.out.blk hkp KX.out (by decide) (by decide))
    have KY_ := Lib.hid (G.out.blk hkp KY.out (by decide) (by decide))
    clear KA KX KY G
    have KA := KA_
    have KX := KX_
    have KY := KY_
    have G := Lib.hid hG
    clear KA_ KX_ KY_ hG hkp
    go_wp2_with fail
    have hk2 : k < (setA (setA n k hk9 1152921504606846976) k hk1 1152921504606846976).a.length := by rw [setA_len]; exact hk1
    refine (wFromB_is G.out.g G.out.n ((setA_len hk1).trans (setA_len hk9)) s (by omega) (by omega)).mono ?_
    rintro e w9 ⟨zb, Z, rfl, kz, hZ, hb⟩
    have KA_ := Lib.hid (KA.out.keep hb)
    have KX_ := Lib.hid (KX.out.keep hb)
    have KY_ := Lib.hid (KY.out.keep hb)
    have G_ := Lib.hid (G.out.old hb)
    clear KA KX KY G
    have KA := KA_
    have KX := KX_
    have KY := KY_
    have G := G_
    have KZ := Lib.hid kz
    have FZ := Lib.hid hZ
    clear KA_ KX_ KY_ G_ hb kz hZ
    go_wp2_with fail
    refine (vSetA G.out hk2 HWG.out).mono ?_
    rintro e w10 ⟨rfl, hG, hkp⟩
    have KA_ := Lib.hid (G.out.blk hkp KA.out (by decide) (by decide))
    have KX_ := Lib.hid (G.out.blk hkp KX.out (by decide) (by decide))
    have KY_ := Lib.hid (G.out.blk hkp KY.out (by decide) (by decide))
    have KZ_ := Lib.hid (G.out.blk hkp KZ.out (by decide) (by decide))
    clear KA KX KY KZ G
    have KA := KA_
    have KX := KX_
    have KY := KY_
    have KZ := KZ_
    have hback : setA (setA (setA n k hk9 1152921504606846976) k hk1 1152921504606846976) k hk2 V = n := by rw [← HWV.out]; exact setA_back hk9 hk1 hk2
    rw [hback] at hG
    have G := Lib.hid hG
    clear KA_ KX_ KY_ KZ_ hG hkp hback
    have hD1 := setA_dear (c := 1152921504606846976) hk9 (by rw [HWV.out]; exact HVU.out)
    have hD2 := setA_dear (c := 1152921504606846976) hk1 (by rw [setA_w, if_pos rfl]; omega)
    have hG1 := (grn_setW HGR.out hk9 HUG.out).good
    have hG2 := (grn_setW (grn_setW HGR.out hk9 HUG.out) hk1 wgt_inf).good
    have LX := Lib.hid FX.out.1
    have LY := Lib.hid (FY.out.1.trans (setA_len hk9))
    have LZ := Lib.hid (FZ.out.1.trans ((setA_len hk1).trans (setA_len hk9)))
    have HXY : Hid (∀ i, i < n.a.length → ctL X i ≤ ctL Y i) := Lib.hid (fun i hi => FX.out.dearer hG1 FY.out hD1 hi)
    have HYZ : Hid (∀ i, i < n.a.length → ctL Y i ≤ ctL Z i) := Lib.hid (fun i hi => FY.out.dearer hG2 FZ.out hD2 (by rw [setA_len]; exact hi))
    have hzk : ctL Z k = 1152921504606846976 := FZ.out.shut hk2 (by rw [setA_w, if_pos rfl])
    have hzc := cell_of KZ.out (i := k) (by rw [LZ.out]; exact hk9)
    rw [hzk] at hzc
    have hzl := KZ.out.lt
    obtain ⟨p0, p1, p2, -, -, -⟩ := KA.out.o3
    have pl := KA.out.lt
    clear hD1 hD2 hG1 hG2 hzk
    go_wp2_with fail
    clear p0 p1 p2 pl hzc
    go_loopw [20] (fun iv wr => ∃ i : Nat, i ≤ n.a.length ∧ iv = .int .i64 i ∧ Hid (Below w10.heap.size w10 wr)) (fun iv _ => n.a.length - (intOf iv).toNat)
    case atStart => exact ⟨0, Nat.zero_le _, rfl, Lib.hid (Below.refl _ _)⟩
    case round =>
      obtain ⟨i, hi, rfl, HB⟩ := hrel
      by_cases hil : i < n.a.length
      · have cx := cell_of (KX.out.keep HB.out) (i := i) (by rw [LX.out]; exact hil)
        have cy := cell_of (KY.out.keep HB.out) (i := i) (by rw [LY.out]; exact hil)
        have cz := cell_of (KZ.out.keep HB.out) (i := i) (by rw [LZ.out]; exact hil)
        have o1 := HXY.out i hil
        have o2 := HYZ.out i hil
        have lx := (KX.out.keep HB.out).lt
        have ly := (KY.out.keep HB.out).lt
        have lz := (KZ.out.keep HB.out).lt
        generalize ctL X i = x at cx o1
        generalize ctL Y i = y at cy o1 o2
        generalize ctL Z i = z at cz o2
        have d1 : decide (y < x) = false := decide_eq_false (by omega)
        have d2 : decide (z < y) = false := decide_eq_false (by omega)
        have hii : (i : Int) < (n.a.length : Int) := by omega
        go_wp2_with fail
        go_quiet (fail)
        clear cx cy cz
        go_wp2_with fail
        go_roundw
        case rel => exact ⟨i + 1, hil, by go_num, Lib.hid (below_drewN HB.out _)⟩
        case measure => simp [intOf]; omega
      · have hnil : decide (i < n.a.length) = false := by simpa using hil
        have GE := Lib.hid (G.out.old HB.out)
        have KE := Lib.hid (KX.out.keep HB.out)
        clear KX KY KZ KA G HB
        go_wp2_with fail
        refine (wFromB_is GE.out.g GE.out.n rfl s (by omega) (by omega)).mono ?_
        rintro e w12 ⟨qb, Q, rfl, kq, hQ, hb⟩
        have hQX := hQ.uniq FX.out
        have KE2 := Lib.hid (KE.out.keep hb)
        have GE2 := Lib.hid (GE.out.old hb)
        have KQ := Lib.hid kq
        have HQX := Lib.hid hQX
        have HQL := Lib.hid hQ.1
        clear kq hQ hb hQX
        go_wp2_with fail
        refine (vsameC (B := true) (i64s_of_blk KQ.out HQL.out (by omega)) (i64s_of_blk KE2.out LX.out (by omega)) (by rw [HQX.out]; simp)).mono ?_
        rintro e w13 ⟨rfl, hb⟩
        have GE3 := Lib.hid (GE2.out.old hb)
        clear hb
        go_wp2_with fail
        go_ret
        exact ⟨rfl, GE3.out.b⟩
theorem dearer_law (v : Value) (n : NetD) (a b c : Int) (w : World) (hv : NetV w v n) (hin : InNet n) (a0 : 0 ≤ a) (a1 : a ≤ 65535) (b0 : 0 ≤ b) (b1 : b ≤ 65535) (c0 : 0 ≤ c) (c1 : c ≤ 4294967295) :
    Calls Try.prog 4 #[v, .int .u16 a, .int .u16 b, .int .u32 c] w fun e w' => e = .returned (.bool true) ∧ Below w.heap.size w w' := by
  cases hs : smallN n with
  | false => exact dearer_no v n a b c w hv hin hs
  | true =>
    by_cases h0 : n.a.length = 0
    · exact dearer_zero v n a b c w hv hin hs h0
    · exact dearer_main v n a b c w hv hin hs (by omega) a0 a1 b0 b1 c0 c1

set_option maxRecDepth 100000 in
theorem walkDearer_walks : WalksP 4 Try.f4 := by
  intro H enc W args ds g
  obtain ⟨ps, hA⟩ := g.reads
  obtain ⟨base, hval⟩ := g.okay
  rw [Try.params4] at hA hval
  obtain ⟨v0, vs0, d0, ds0, p0, q0, hargs, rfl, rfl, h0, r0⟩ := trodAll_cons hA
  obtain ⟨v1, vs1, d1, ds1, p1, q1, rfl, rfl, rfl, h1, r1⟩ := trodAll_cons r0
  obtain ⟨v2, vs2, d2, ds2, p2, q2, rfl, rfl, rfl, h2, r2⟩ := trodAll_cons r1
  obtain ⟨v3, vs3, d3, ds3, p3, q3, rfl, rfl, rfl, h3, r3⟩ := trodAll_cons r2
  obtain ⟨rfl, rfl, rfl⟩ := trodAll_nil r3
  obtain rfl : args = #[v0, v1, v2, v3] := Array.toList_inj.1 hargs
  obtain ⟨n0, w0, u0⟩ := open_net (hval 0 26 v0 rfl rfl) h0
  obtain ⟨x1, rfl, rfl, rfl, w1⟩ := open_int Try.underlying27 (hval 1 27 v1 rfl rfl) h1
  obtain ⟨x2, rfl, rfl, rfl, w2⟩ := open_int Try.underlying27 (hval 2 27 v2 rfl rfl) h2
  obtain ⟨x3, rfl, rfl, rfl, w3⟩ := open_int Try.underlying38 (hval 3 38 v3 rfl rfl) h3
  exact dearer_law v0 n0 x1 x2 x3 W w0 u0 (wfu16 w1).1 (wfu16 w1).2 (wfu16 w2).1 (wfu16 w2).2 (wfu32 w3).1 (wfu32 w3).2

theorem walkDearer_row : Rows.WalkDearerSaid :=
  OpenClaim.holds_of_wide 4 Try.f4 rfl rfl rfl rfl rfl rfl rfl ⟨rfl, rfl, rfl, rfl, rfl⟩ rfl rfl rfl rfl rfl (by kernel_rfl) Try.func4 (by kernel_rfl)
    (of_decide_eq_true (by kernel_rfl)) (by unfold Func.isWrapper; rw [if_neg (of_decide_eq_false (by kernel_rfl))]; exact ⟨rfl, rfl⟩)
    (fun os started H enc _ => law_plain (s := Rows.walkDearerSpec) Try.func4 (by kernel_rfl) rfl (by kernel_rfl)
      (fun H ds hl => by
        rw [Try.params4] at hl
        match ds, hl with
        | [_, _, _, _], _ => exact ⟨rfl, rfl, rfl⟩)
      (by kernel_rfl) os started H enc
      (ChangeSpec.witness6 (enc := enc) (C := Try.checked) false ⟨#[], #[.agg #[.slice none 0 0, .slice none 0 0, .slice none 0 0], .int .u16 0, .int .u16 0, .int .u32 0], []⟩ 8 (by kernel_rfl) (by kernel_rfl) (by kernel_rfl) (by kernel_rfl))
      walkDearer_walks)
#print axioms walkDearer_row

end Go.Proofs.Ytlfihaajnjeaeaa
