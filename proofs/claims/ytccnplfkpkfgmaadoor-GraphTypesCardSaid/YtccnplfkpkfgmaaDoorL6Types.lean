/-
  PROVED: a turn that is bent costs so at each vertex of its Type, and no other turn is another one. For every net, turn and cost. Conditions: the listed library variable holds what the program's own text lays (the card ties it).
-/
import Derived.Test.YtccnplfkpkfgmaaDoorKnown6
import Derived.Test.YtccnplfkpkfgmaaDoorNetIn
import Derived.Test.YtccnplfkpkfgmaaDoorLaid2
import Derived.Test.YtccnplfkpkfgmaaDoorCards
import Derived.Test.YtccnplfkpkfgmaaDoorTie
import Derived.SevenTiedAt
namespace Go.Proofs.YtccnplfkpkfgmaaDoor
open Go.ChangeShapes Go.WideShapes Go.ChangeAt Go.RowKit
/-- What a bent turn, and any other one, costs then. -/
theorem bent_turn {n : NetD} {kv kt : Nat} {c X Y : Int} (hgd : NetGood n) (hkv : kv < n.v.length) (hkt : kt < n.t.length) (hXY : 0 ≤ X ∧ X < n.t[kt].1 ∧ 0 ≤ Y ∧ Y < n.t[kt].2.1) {i j : Nat} (hi : i < (insL n.a kv).length) (hj : j < (outsL n.a kv).length) :
    (⟨n.v, n.a, n.t.set kt (n.t[kt].1, n.t[kt].2.1, n.t[kt].2.2.set (X * n.t[kt].2.1 + Y).toNat c)⟩ : NetD).turn (insL n.a kv)[i] (outsL n.a kv)[j] = if n.v[kv].2.2 = kt ∧ (i : Int) = X ∧ (j : Int) = Y then c else n.turn (insL n.a kv)[i] (outsL n.a kv)[j] := by
  obtain ⟨-, -, g2, g3⟩ := hgd.verts kv hkv
  obtain ⟨ty, ety⟩ : ∃ k : Nat, n.v[kv].2.2 = k := ⟨n.v[kv].2.2.toNat, by omega⟩
  have hty : ty < n.t.length := by omega
  have hdg := hgd.degs kv hkv
  rw [ety, NetGood.tab_at ty hty] at hdg
  have hI : ((insL n.a kv).length : Int) = n.t[ty].1 := by rw [insL_len, hdg.2.2.1]
  have hO : ((outsL n.a kv).length : Int) = n.t[ty].2.1 := by rw [outsL_len, hdg.2.2.2]
  have hck := hgd.tabs ty hty
  obtain ⟨-, -, -, -, hlen, -⟩ := chkT_ok (I := n.t[ty].1) (O := n.t[ty].2.1) (l := n.t[ty].2.2) (by rw [hck])
  rw [turn_grid hkv ety hty hi hj]
  refine (turn_grid (n := ⟨n.v, n.a, n.t.set kt (n.t[kt].1, n.t[kt].2.1, n.t[kt].2.2.set (X * n.t[kt].2.1 + Y).toNat c)⟩) (kv := kv) (kt := ty) hkv ety (by simpa using hty) hi hj).trans ?_
  rw [ety]
  by_cases e : kt = ty
  · subst e
    simp only [List.getElem_set_self]
    rw [turnAt_set hlen hXY ⟨by omega, by omega, by omega, by omega⟩]
    simp
  · simp only [List.getElem_set_ne e]
    rw [if_neg (by omega)]
/-- One turn is bent in a region that draws its order. -/
structure GG.OneS (j : Nat) (w0 W0 : World) (p : Nat) (va vt : Value) (n m : NetD) (dn : Nat → Bool) (_ : Unit) (w : World) : Prop where
  k : Keep (Off [va, vt]) W0 w
  g0 : dn j = false → Gr1 w0 w p n va vt
  g1 : dn j = true → Gr1 w0 w p m va vt
def GG.RlV (_ : Unit) (_ : World) (_ : Unit) (_ : World) : Prop := True
namespace GG.OneS
variable {j : Nat} {w0 W0 w w' : World} {p : Nat} {va vt : Value} {n m : NetD} {dn : Nat → Bool} {s : Unit}
theorem start (h : Gr1 w0 W0 p n va vt) : GG.OneS j w0 W0 p va vt n m (fun _ => false) () W0.drew :=
  ⟨Keep.of (Below.refl _ _).drew, fun _ => h.old (Below.refl _ _).drew, fun h => (by cases h)⟩
theorem still {i : Nat} (hj : j ≠ i) : GG.Still (GG.OneS j w0 W0 p va vt n m) GG.RlV i :=
  ⟨fun dn _ _ h => ⟨h.k, fun h1 => h.g0 (by rw [← show GG.doneG dn i j = dn j from if_neg hj]; exact h1), fun h1 => h.g1 (by rw [← show GG.doneG dn i j = dn j from if_neg hj]; exact h1)⟩, fun _ _ => trivial⟩
theorem put (h : GG.OneS j w0 W0 p va vt n m dn s w) (hg : Gr1 w0 w' p m va vt) (hk : Keep (Off [va, vt]) w w') : GG.OneS j w0 W0 p va vt n m (GG.doneG dn j) s w' :=
  ⟨h.k.trans hk, fun e => (by rw [show GG.doneG dn j j = true from if_pos rfl] at e; cases e), fun _ => hg⟩
end GG.OneS

set_option maxHeartbeats 8000000 in
set_option maxRecDepth 100000 in
theorem gtypes_no (v : Value) (n : NetD) (t_ p_ c : Int) (w : World) (hg : ErrT w) (hv : NetV w v n) (hin : InNet n) (hm : mayN n = false) :
    Calls Tryd.prog 6 #[v, .int .u16 t_, .int .u16 p_, .int .i64 c] w fun e w' => e = .returned (.bool true) ∧ Below w.heap.size w w' := by
  obtain ⟨vq, aq, tq, vc, ac, tc, rfl, -⟩ := hv.shape
  have HG := Lib.hid hg
  have HV := Lib.hid hv
  have HIN := Lib.hid hin
  have HM := Lib.hid hm
  clear hg hv hin hm
  go_enter Tryd.func6, Tryd.ntmps6
  go_wp2_with fail
  obtain ⟨W0, hW0⟩ := named (w.alloc (.cells #[.slice vq n.v.length vc, .slice aq n.a.length ac, .slice tq n.t.length tc] 26))
  rw [← hW0]
  have B0 : Hid (Below w.heap.size w W0) := by rw [hW0]; exact Lib.hid (below_new _)
  have KA : Hid (Blk W0 w.heap.size #[.slice vq n.v.length vc, .slice aq n.a.length ac, .slice tq n.t.length tc] 26) := by rw [hW0]; exact Lib.hid (Blk.new _ _ _ _ rfl)
  clear hW0
  refine (known6_any _ (HG.out.below HG.out.lt B0.out)).mono ?_
  rintro e w' ⟨rfl, hb⟩
  have KA_ := Lib.hid (KA.out.keep hb)
  have B_ := Lib.hid (bOn6 B0.out hb)
  clear KA
  have KA := KA_
  clear KA_
  clear B0
  have B0 := B_
  clear B_ hb 
  obtain ⟨ka0, ka1, ka2, -, -, -⟩ := KA.out.o3
  go_wp2_with fail
  clear ka0 ka1 ka2
  refine (vmay (HV.out.below B0.out) HIN.out HM.out).mono ?_
  rintro e w' ⟨rfl, hb⟩
  have KA_ := Lib.hid (KA.out.keep hb)
  have B_ := Lib.hid (bOn6 B0.out hb)
  clear KA
  have KA := KA_
  clear KA_
  clear B0
  have B0 := B_
  clear B_ hb 
  obtain ⟨ka0, ka1, ka2, -, -, -⟩ := KA.out.o3
  go_wp2_with fail
  clear ka0 ka1 ka2
  go_ret
  exact ⟨rfl, B0.out⟩

set_option maxHeartbeats 8000000 in
set_option maxRecDepth 100000 in
theorem gtypes_empty (v : Value) (n : NetD) (t_ p_ c : Int) (w : World) (hg : ErrT w) (hv : NetV w v n) (hin : InNet n) (hm : mayN n = true) (he : n.t.length = 0) :
    Calls Tryd.prog 6 #[v, .int .u16 t_, .int .u16 p_, .int .i64 c] w fun e w' => e = .returned (.bool true) ∧ Below w.heap.size w w' := by
  obtain ⟨vq, aq, tq, vc, ac, tc, rfl, -⟩ := hv.shape
  have HG := Lib.hid hg
  have HV := Lib.hid hv
  have HIN := Lib.hid hin
  have HM := Lib.hid hm
  clear hg hv hin hm
  have HZ : Hid ((n.t.length : Int) = 0) := Lib.hid (by omega)
  clear he
  go_enter Tryd.func6, Tryd.ntmps6
  go_wp2_with fail
  obtain ⟨W0, hW0⟩ := named (w.alloc (.cells #[.slice vq n.v.length vc, .slice aq n.a.length ac, .slice tq n.t.length tc] 26))
  rw [← hW0]
  have B0 : Hid (Below w.heap.size w W0) := by rw [hW0]; exact Lib.hid (below_new _)
  have KA : Hid (Blk W0 w.heap.size #[.slice vq n.v.length vc, .slice aq n.a.length ac, .slice tq n.t.length tc] 26) := by rw [hW0]; exact Lib.hid (Blk.new _ _ _ _ rfl)
  clear hW0
  refine (known6_any _ (HG.out.below HG.out.lt B0.out)).mono ?_
  rintro e w' ⟨rfl, hb⟩
  have KA_ := Lib.hid (KA.out.keep hb)
  have B_ := Lib.hid (bOn6 B0.out hb)
  clear KA
  have KA := KA_
  clear KA_
  clear B0
  have B0 := B_
  clear B_ hb 
  obtain ⟨ka0, ka1, ka2, -, -, -⟩ := KA.out.o3
  go_wp2_with fail
  clear ka0 ka1 ka2
  refine (vmay (HV.out.below B0.out) HIN.out HM.out).mono ?_
  rintro e w' ⟨rfl, hb⟩
  have KA_ := Lib.hid (KA.out.keep hb)
  have B_ := Lib.hid (bOn6 B0.out hb)
  clear KA
  have KA := KA_
  clear KA_
  clear B0
  have B0 := B_
  clear B_ hb 
  have hz := HZ.out
  obtain ⟨ka0, ka1, ka2, -, -, -⟩ := KA.out.o3
  go_wp2_with fail
  clear ka0 ka1 ka2
  go_ret
  exact ⟨rfl, B0.out⟩

set_option maxHeartbeats 8000000 in
set_option maxRecDepth 100000 in
theorem gtypes_c (v : Value) (n : NetD) (t_ p_ c : Int) (w : World) (hg : ErrT w) (hv : NetV w v n) (hin : InNet n) (hc0 : -9223372036854775808 ≤ c ∧ c ≤ 9223372036854775807) (hm : mayN n = true) (he : ¬ n.t.length = 0) (hc : wgt c = false) :
    Calls Tryd.prog 6 #[v, .int .u16 t_, .int .u16 p_, .int .i64 c] w fun e w' => e = .returned (.bool true) ∧ Below w.heap.size w w' := by
  obtain ⟨vq, aq, tq, vc, ac, tc, rfl, -⟩ := hv.shape
  have HG := Lib.hid hg
  have HV := Lib.hid hv
  have HIN := Lib.hid hin
  have HM := Lib.hid hm
  clear hg hv hin hm
  have hz : ¬ (n.t.length : Int) = 0 := by omega
  have HC0 := Lib.hid hc0
  have HC := Lib.hid hc
  clear hc0 hc
  go_enter Tryd.func6, Tryd.ntmps6
  go_wp2_with fail
  obtain ⟨W0, hW0⟩ := named (w.alloc (.cells #[.slice vq n.v.length vc, .slice aq n.a.length ac, .slice tq n.t.length tc] 26))
  rw [← hW0]
  have B0 : Hid (Below w.heap.size w W0) := by rw [hW0]; exact Lib.hid (below_new _)
  have KA : Hid (Blk W0 w.heap.size #[.slice vq n.v.length vc, .slice aq n.a.length ac, .slice tq n.t.length tc] 26) := by rw [hW0]; exact Lib.hid (Blk.new _ _ _ _ rfl)
  clear hW0
  refine (known6_any _ (HG.out.below HG.out.lt B0.out)).mono ?_
  rintro e w' ⟨rfl, hb⟩
  have KA_ := Lib.hid (KA.out.keep hb)
  have B_ := Lib.hid (bOn6 B0.out hb)
  clear KA
  have KA := KA_
  clear KA_
  clear B0
  have B0 := B_
  clear B_ hb 
  obtain ⟨ka0, ka1, ka2, -, -, -⟩ := KA.out.o3
  go_wp2_with fail
  clear ka0 ka1 ka2
  refine (vmay (HV.out.below B0.out) HIN.out HM.out).mono ?_
  rintro e w' ⟨rfl, hb⟩
  have KA_ := Lib.hid (KA.out.keep hb)
  have B_ := Lib.hid (bOn6 B0.out hb)
  clear KA
  have KA := KA_
  clear KA_
  clear B0
  have B0 := B_
  clear B_ hb 
  obtain ⟨ka0, ka1, ka2, -, -, -⟩ := KA.out.o3
  go_wp2_with fail
  clear ka0 ka1 ka2
  refine (rweight_is c false _ HC0.out.1 HC0.out.2 HC.out).mono ?_
  rintro e w' ⟨rfl, rfl⟩
  have hb := Below.refl w'.heap.size w'
  have KA_ := Lib.hid (KA.out.keep hb)
  have B_ := Lib.hid (bOn6 B0.out hb)
  clear KA
  have KA := KA_
  clear KA_
  clear B0
  have B0 := B_
  clear B_ hb 
  obtain ⟨ka0, ka1, ka2, -, -, -⟩ := KA.out.o3
  go_wp2_with fail
  clear ka0 ka1 ka2
  go_ret
  exact ⟨rfl, B0.out⟩

set_option maxHeartbeats 8000000 in
set_option maxRecDepth 100000 in
theorem gtypes_zero (v : Value) (n : NetD) (t_ p_ c : Int) (w : World) (hg : ErrT w) (hv : NetV w v n) (hin : InNet n) (hc0 : -9223372036854775808 ≤ c ∧ c ≤ 9223372036854775807) (kt : Nat) (hm : mayN n = true) (hkt : kt < n.t.length) (ht0 : 0 ≤ t_) (ht1 : t_ ≤ 65535) (hmt : t_.tmod (n.t.length : Int) = kt) (hc : wgt c = true) (hlz : n.t[kt].2.2.length = 0) :
    Calls Tryd.prog 6 #[v, .int .u16 t_, .int .u16 p_, .int .i64 c] w fun e w' => e = .returned (.bool true) ∧ Below w.heap.size w w' := by
  obtain ⟨vq, aq, tq, vc, ac, tc, rfl, -⟩ := hv.shape
  obtain ⟨hf, hok, hgd⟩ := may_of hm
  have GN : Hid (GrN n) := Lib.hid ⟨hgd, hf, hin⟩
  have HOK := Lib.hid hok
  obtain ⟨tb, tof, tu, rfl, z0, z1, z2, hu⟩ := hv.s.t.at hkt
  obtain ⟨uq, uc, rfl⟩ := hu.shape
  have hck := hgd.tabs kt hkt
  obtain ⟨q0, q1, q2, q3, hlen, hall⟩ := chkT_ok (I := n.t[kt].1) (O := n.t[kt].2.1) (l := n.t[kt].2.2) (by rw [hck])
  obtain ⟨T0, eT0⟩ : ∃ x, n.t[kt].1 = x := ⟨_, rfl⟩
  obtain ⟨T1, eT1⟩ : ∃ x, n.t[kt].2.1 = x := ⟨_, rfl⟩
  obtain ⟨LL, eLL⟩ : ∃ x, n.t[kt].2.2.length = x := ⟨_, rfl⟩
  rw [eT0] at z0
  rw [eT1] at z1
  have HLP : Hid ((LL : Int) = 0) := Lib.hid (by omega)
  clear hlz
  rw [eLL] at z2
  have Z0 := Lib.hid z0
  have Z1 := Lib.hid z1
  have Z2 := Lib.hid z2
  have HC0 := Lib.hid hc0
  have HC := Lib.hid hc
  have hz : ¬ (n.t.length : Int) = 0 := by omega
  have HKTI : Hid ((kt : Int) < (n.t.length : Int)) := Lib.hid (by omega)
  have GD := Lib.hid hgd
  clear z0 z1 z2 hu hck q0 q1 q2 q3 hlen hall eT0 eT1 eLL hf hok hgd hc0 hc
  have HG := Lib.hid hg
  have HV := Lib.hid hv
  have HIN := Lib.hid hin
  have HM := Lib.hid hm
  clear hg hv hin hm
  go_enter Tryd.func6, Tryd.ntmps6
  go_wp2_with fail
  obtain ⟨W0, hW0⟩ := named (w.alloc (.cells #[.slice vq n.v.length vc, .slice aq n.a.length ac, .slice (some ⟨tb, tof, none⟩) n.t.length tc] 26))
  rw [← hW0]
  have B0 : Hid (Below w.heap.size w W0) := by rw [hW0]; exact Lib.hid (below_new _)
  have KA : Hid (Blk W0 w.heap.size #[.slice vq n.v.length vc, .slice aq n.a.length ac, .slice (some ⟨tb, tof, none⟩) n.t.length tc] 26) := by rw [hW0]; exact Lib.hid (Blk.new _ _ _ _ rfl)
  clear hW0
  refine (known6_any _ (HG.out.below HG.out.lt B0.out)).mono ?_
  rintro e w' ⟨rfl, hb⟩
  have KA_ := Lib.hid (KA.out.keep hb)
  have B_ := Lib.hid (bOn6 B0.out hb)
  clear KA
  have KA := KA_
  clear KA_
  clear B0
  have B0 := B_
  clear B_ hb 
  obtain ⟨ka0, ka1, ka2, -, -, -⟩ := KA.out.o3
  go_wp2_with fail
  clear ka0 ka1 ka2
  refine (vmay (HV.out.below B0.out) HIN.out HM.out).mono ?_
  rintro e w' ⟨rfl, hb⟩
  have KA_ := Lib.hid (KA.out.keep hb)
  have B_ := Lib.hid (bOn6 B0.out hb)
  clear KA
  have KA := KA_
  clear KA_
  clear B0
  have B0 := B_
  clear B_ hb 
  obtain ⟨ka0, ka1, ka2, -, -, -⟩ := KA.out.o3
  go_wp2_with fail
  next hnil => exact absurd (by simp [hnil]) hz
  clear ka0 ka1 ka2
  refine (rweight_is c true _ HC0.out.1 HC0.out.2 HC.out).mono ?_
  rintro e w' ⟨rfl, rfl⟩
  have hb := Below.refl w'.heap.size w'
  have KA_ := Lib.hid (KA.out.keep hb)
  have B_ := Lib.hid (bOn6 B0.out hb)
  clear KA
  have KA := KA_
  clear KA_
  clear B0
  have B0 := B_
  clear B_ hb 
  have hkti := HKTI.out
  have z0 := keep B0.out Z0.out
  have z1 := keep B0.out Z1.out
  have z2 := keep B0.out Z2.out
  have htb := World.block_lt_of_cell? w' _ z0
  obtain ⟨kz0, -, -, -, -, -⟩ := KA.out.o3
  have hkz := World.block_lt_of_cell? w' _ kz0
  clear kz0
  obtain ⟨ka0, ka1, ka2, -, -, -⟩ := KA.out.o3
  go_wp2_with fail
  clear ka0 ka1 ka2
  clear z0 z1 z2 htb hkz hkti
  obtain ⟨W_, hW_⟩ := named (w'.alloc (.cells #[.int .i64 T0, .int .i64 T1, .slice uq LL uc] 77))
  rw [← hW_]
  have hb : Below w'.heap.size w' W_ := by rw [hW_]; exact below_new _
  have KA_ := Lib.hid (KA.out.keep hb)
  have B_ := Lib.hid (bOn6 B0.out hb)
  have KX : Hid (Blk W_ w'.heap.size #[.int .i64 T0, .int .i64 T1, .slice uq LL uc] 77) := by rw [hW_]; exact Lib.hid (Blk.new _ _ _ _ rfl)
  clear KA
  have KA := KA_
  clear KA_
  clear B0
  have B0 := B_
  clear B_ hb hW_
  refine (vtoF (HV.out.below B0.out) GN.out.few).mono ?_
  rintro e w' ⟨xv, rfl, hX, hb⟩
  have KA_ := Lib.hid (KA.out.keep hb)
  have KX_ := Lib.hid (KX.out.keep hb)
  have B_ := Lib.hid (bOn6 B0.out hb)
  have VX := Lib.hid hX
  clear KA KX
  have KA := KA_
  have KX := KX_
  clear KA_ KX_
  clear B0
  have B0 := B_
  clear B_ hb hX
  go_wp2_with fail
  have hLz := HLP.out
  refine (vNewG B0.out VX.out GN.out HOK.out).mono ?_
  rintro e w' ⟨p, va, vt, rfl, hG, hb⟩
  have KA_ := Lib.hid (KA.out.keep hb)
  have KX_ := Lib.hid (KX.out.keep hb)
  have G := Lib.hid hG
  clear KA KX
  have KA := KA_
  have KX := KX_
  clear KA_ KX_
  clear hb hG B0
  obtain ⟨kx0, kx1, kx2, -, -, -⟩ := KX.out.o3
  go_wp2_with fail
  clear kx0 kx1 kx2
  go_ret
  exact ⟨rfl, G.out.b⟩

set_option maxHeartbeats 8000000 in
set_option maxRecDepth 100000 in
theorem gtypes_full (v : Value) (n : NetD) (t_ p_ c : Int) (w : World) (hg : ErrT w) (hv : NetV w v n) (hin : InNet n) (hc0 : -9223372036854775808 ≤ c ∧ c ≤ 9223372036854775807) (kt : Nat) (hm : mayN n = true) (hkt : kt < n.t.length) (ht0 : 0 ≤ t_) (ht1 : t_ ≤ 65535) (hmt : t_.tmod (n.t.length : Int) = kt) (hp0 : 0 ≤ p_) (hp1 : p_ ≤ 65535) (hc : wgt c = true) (kp : Nat) (hkp : kp < n.t[kt].2.2.length) (hmp : p_.tmod (n.t[kt].2.2.length : Int) = kp) :
    Calls Tryd.prog 6 #[v, .int .u16 t_, .int .u16 p_, .int .i64 c] w fun e w' => e = .returned (.bool true) ∧ Below w.heap.size w w' := by
  obtain ⟨vq, aq, tq, vc, ac, tc, rfl, -⟩ := hv.shape
  obtain ⟨hf, hok, hgd⟩ := may_of hm
  have GN : Hid (GrN n) := Lib.hid ⟨hgd, hf, hin⟩
  have HOK := Lib.hid hok
  obtain ⟨tb, tof, tu, rfl, z0, z1, z2, hu⟩ := hv.s.t.at hkt
  obtain ⟨uq, uc, rfl⟩ := hu.shape
  have hck := hgd.tabs kt hkt
  obtain ⟨q0, q1, q2, q3, hlen, hall⟩ := chkT_ok (I := n.t[kt].1) (O := n.t[kt].2.1) (l := n.t[kt].2.2) (by rw [hck])
  obtain ⟨T0, eT0⟩ : ∃ x, n.t[kt].1 = x := ⟨_, rfl⟩
  obtain ⟨T1, eT1⟩ : ∃ x, n.t[kt].2.1 = x := ⟨_, rfl⟩
  obtain ⟨LL, eLL⟩ : ∃ x, n.t[kt].2.2.length = x := ⟨_, rfl⟩
  rw [eT0] at z0
  rw [eT1] at z1
  obtain ⟨X, eX⟩ : ∃ x, (kp : Int) / T1 = x := ⟨_, rfl⟩
  obtain ⟨Y, eY⟩ : ∃ x, (kp : Int) % T1 = x := ⟨_, rfl⟩
  have hT1 : 0 < T1 := by
    rcases Int.lt_or_le 0 T1 with h | h
    · exact h
    · exfalso
      rw [eT1] at hlen q2
      have : T1 = 0 := by omega
      rw [this, Int.mul_zero] at hlen
      omega
  have hY0 : 0 ≤ Y := by rw [← eY]; exact Int.emod_nonneg _ (by omega)
  have hY1 : Y < T1 := by rw [← eY]; exact Int.emod_lt_of_pos _ hT1
  have hX0 : 0 ≤ X := by rw [← eX]; exact Int.ediv_nonneg (by omega) (by omega)
  have hX1 : X < T0 := by
    rw [← eX]
    refine Int.ediv_lt_of_lt_mul hT1 ?_
    rw [eT0, eT1] at hlen
    omega
  have hXs : X ≤ 16 := by omega
  have HXY : Hid (0 ≤ X ∧ X < n.t[kt].1 ∧ 0 ≤ Y ∧ Y < n.t[kt].2.1) := Lib.hid ⟨hX0, by omega, hY0, by omega⟩
  obtain ⟨ub, uo, rfl, ucell⟩ := hu.at hkp
  rw [eLL] at hmp hkp
  have hq1 : (kp : Int).tdiv T1 = X := by rw [Int.tdiv_eq_ediv_of_nonneg (by omega)]; exact eX
  have hq2 : (kp : Int).tmod T1 = Y := by rw [Int.tmod_eq_emod_of_nonneg (by omega)]; exact eY
  have hq5 : IntKind.i64.wrap X = X := IntWalk.i64_in _ ⟨by omega, by omega⟩
  have hT1z : ¬ T1 = 0 := by omega
  have HLP : Hid (¬ (LL : Int) = 0 ∧ (0 : Int) < (LL : Int) ∧ (kp : Int) < (LL : Int)) := Lib.hid ⟨by omega, by omega, by omega⟩
  clear ucell hY0 hY1 hX0 hX1 hXs eX eY hT1
  rw [eLL] at z2
  have Z0 := Lib.hid z0
  have Z1 := Lib.hid z1
  have Z2 := Lib.hid z2
  have HC0 := Lib.hid hc0
  have HC := Lib.hid hc
  have hz : ¬ (n.t.length : Int) = 0 := by omega
  have HKTI : Hid ((kt : Int) < (n.t.length : Int)) := Lib.hid (by omega)
  have GD := Lib.hid hgd
  clear z0 z1 z2 hu hck q0 q1 q2 q3 hlen hall eT0 eT1 eLL hf hok hgd hc0 hc
  have HG := Lib.hid hg
  have HV := Lib.hid hv
  have HIN := Lib.hid hin
  have HM := Lib.hid hm
  clear hg hv hin hm
  go_enter Tryd.func6, Tryd.ntmps6
  go_wp2_with fail
  obtain ⟨W0, hW0⟩ := named (w.alloc (.cells #[.slice vq n.v.length vc, .slice aq n.a.length ac, .slice (some ⟨tb, tof, none⟩) n.t.length tc] 26))
  rw [← hW0]
  have B0 : Hid (Below w.heap.size w W0) := by rw [hW0]; exact Lib.hid (below_new _)
  have KA : Hid (Blk W0 w.heap.size #[.slice vq n.v.length vc, .slice aq n.a.length ac, .slice (some ⟨tb, tof, none⟩) n.t.length tc] 26) := by rw [hW0]; exact Lib.hid (Blk.new _ _ _ _ rfl)
  clear hW0
  refine (known6_any _ (HG.out.below HG.out.lt B0.out)).mono ?_
  rintro e w' ⟨rfl, hb⟩
  have KA_ := Lib.hid (KA.out.keep hb)
  have B_ := Lib.hid (bOn6 B0.out hb)
  clear KA
  have KA := KA_
  clear KA_
  clear B0
  have B0 := B_
  clear B_ hb 
  obtain ⟨ka0, ka1, ka2, -, -, -⟩ := KA.out.o3
  go_wp2_with fail
  clear ka0 ka1 ka2
  refine (vmay (HV.out.below B0.out) HIN.out HM.out).mono ?_
  rintro e w' ⟨rfl, hb⟩
  have KA_ := Lib.hid (KA.out.keep hb)
  have B_ := Lib.hid (bOn6 B0.out hb)
  clear KA
  have KA := KA_
  clear KA_
  clear B0
  have B0 := B_
  clear B_ hb 
  obtain ⟨ka0, ka1, ka2, -, -, -⟩ := KA.out.o3
  go_wp2_with fail
  next hnil => exact absurd (by simp [hnil]) hz
  clear ka0 ka1 ka2
  refine (rweight_is c true _ HC0.out.1 HC0.out.2 HC.out).mono ?_
  rintro e w' ⟨rfl, rfl⟩
  have hb := Below.refl w'.heap.size w'
  have KA_ := Lib.hid (KA.out.keep hb)
  have B_ := Lib.hid (bOn6 B0.out hb)
  clear KA
  have KA := KA_
  clear KA_
  clear B0
  have B0 := B_
  clear B_ hb 
  have hkti := HKTI.out
  have z0 := keep B0.out Z0.out
  have z1 := keep B0.out Z1.out
  have z2 := keep B0.out Z2.out
  have htb := World.block_lt_of_cell? w' _ z0
  obtain ⟨kz0, -, -, -, -, -⟩ := KA.out.o3
  have hkz := World.block_lt_of_cell? w' _ kz0
  clear kz0
  obtain ⟨ka0, ka1, ka2, -, -, -⟩ := KA.out.o3
  go_wp2_with fail
  clear ka0 ka1 ka2
  clear z0 z1 z2 htb hkz hkti
  obtain ⟨W_, hW_⟩ := named (w'.alloc (.cells #[.int .i64 T0, .int .i64 T1, .slice (some ⟨ub, uo, none⟩) LL uc] 77))
  rw [← hW_]
  have hb : Below w'.heap.size w' W_ := by rw [hW_]; exact below_new _
  have KA_ := Lib.hid (KA.out.keep hb)
  have B_ := Lib.hid (bOn6 B0.out hb)
  have KX : Hid (Blk W_ w'.heap.size #[.int .i64 T0, .int .i64 T1, .slice (some ⟨ub, uo, none⟩) LL uc] 77) := by rw [hW_]; exact Lib.hid (Blk.new _ _ _ _ rfl)
  clear KA
  have KA := KA_
  clear KA_
  clear B0
  have B0 := B_
  clear B_ hb hW_
  refine (vtoF (HV.out.below B0.out) GN.out.few).mono ?_
  rintro e w' ⟨xv, rfl, hX, hb⟩
  have KA_ := Lib.hid (KA.out.keep hb)
  have KX_ := Lib.hid (KX.out.keep hb)
  have B_ := Lib.hid (bOn6 B0.out hb)
  have VX := Lib.hid hX
  clear KA KX
  have KA := KA_
  have KX := KX_
  clear KA_ KX_
  clear B0
  have B0 := B_
  clear B_ hb hX
  go_wp2_with fail
  obtain ⟨hLz, hLp, hkpi⟩ := HLP.out
  have hLb : ((LL : Int) == 0) = false := beq_eq_false_iff_ne.2 hLz
  refine (vNewG B0.out VX.out GN.out HOK.out).mono ?_
  rintro e w' ⟨p, va, vt, rfl, hG, hb⟩
  have KA_ := Lib.hid (KA.out.keep hb)
  have KX_ := Lib.hid (KX.out.keep hb)
  have G := Lib.hid hG
  clear KA KX
  have KA := KA_
  have KX := KX_
  clear KA_ KX_
  clear hb hG B0
  obtain ⟨kx0, kx1, kx2, -, -, -⟩ := KX.out.o3
  go_wp2_with fail
  clear kx0 kx1 kx2
  have DS0 := Lib.hid (GG.OneS.start (j := 11) (m := ⟨n.v, n.a, n.t.set kt (n.t[kt].1, n.t[kt].2.1, n.t[kt].2.2.set (X * n.t[kt].2.1 + Y).toNat c)⟩) G.out)
  refine' GG.wp_growL _ (GG.OneS 11 w w' p va vt n ⟨n.v, n.a, n.t.set kt (n.t[kt].1, n.t[kt].2.1, n.t[kt].2.2.set (X * n.t[kt].2.1 + Y).toNat c)⟩) [[], [], [], [], [3], [2, 3, 4], [], [], [7], [6, 7, 8], [], [0, 1, 2, 3, 4, 5, 6, 7, 8, 9, 10], [0, 1, 2, 3, 4, 5, 6, 7, 8, 9, 10, 11]] (GG.Fact.lit (Rl := GG.RlV) _ :: GG.Fact.lit (Rl := GG.RlV) _ :: GG.Fact.lit (Rl := GG.RlV) _ :: GG.Fact.lit (Rl := GG.RlV) _ :: GG.Fact.lit (Rl := GG.RlV) _ :: GG.Fact.lit (Rl := GG.RlV) _ :: GG.Fact.lit (Rl := GG.RlV) _ :: GG.Fact.lit (Rl := GG.RlV) _ :: GG.Fact.lit (Rl := GG.RlV) _ :: GG.Fact.lit (Rl := GG.RlV) _ :: GG.Fact.lit (Rl := GG.RlV) _ :: GG.Fact.lit (Rl := GG.RlV) _ :: GG.Fact.lit (Rl := GG.RlV) _ :: []) (by kernel_rfl) rfl (by kernel_rfl) (()) (DS0.out) ?seqbd
  case' seqbd => skip
  (refine' GG.grow_lit (GG.OneS.still (by decide)) rfl ?wtbd0 ?runbd0 ?putbd0 ?nextbd0; (case wtbd0 => rfl); (case runbd0 => (intro w' hS; (obtain ⟨dn, s, hS⟩ := hS); (obtain ⟨x0, x1, x2, -, -, -⟩ := (G.out.blk hS.k KX.out (by decide) (by decide)).o3); clear hS; go_simp; first | done | exact rfl)); (case putbd0 => (first | (simp only [Act.put, List.setIfInBounds_toArray, List.set_cons_zero, List.set_cons_succ]; first | done | exact rfl) | rfl)); (case' nextbd0 => skip))
  (refine' GG.grow_lit (GG.OneS.still (by decide)) rfl ?wtbd1 ?runbd1 ?putbd1 ?nextbd1; (case wtbd1 => rfl); (case runbd1 => (intro w' hS; (obtain ⟨dn, s, hS⟩ := hS); (obtain ⟨x0, x1, x2, -, -, -⟩ := (G.out.blk hS.k KX.out (by decide) (by decide)).o3); clear hS; go_simp; first | done | exact rfl)); (case putbd1 => (first | (simp only [Act.put, List.setIfInBounds_toArray, List.set_cons_zero, List.set_cons_succ]; first | done | exact rfl) | rfl)); (case' nextbd1 => skip))
  (refine' GG.grow_lit (GG.OneS.still (by decide)) rfl ?wtbd2 ?runbd2 ?putbd2 ?nextbd2; (case wtbd2 => rfl); (case runbd2 => (intro w' hS; (obtain ⟨dn, s, hS⟩ := hS); (obtain ⟨x0, x1, x2, -, -, -⟩ := (G.out.blk hS.k KX.out (by decide) (by decide)).o3); clear hS; go_simp; first | done | exact rfl)); (case putbd2 => (first | (simp only [Act.put, List.setIfInBounds_toArray, List.set_cons_zero, List.set_cons_succ]; first | done | exact rfl) | rfl)); (case' nextbd2 => skip))
  (refine' GG.grow_lit (GG.OneS.still (by decide)) rfl ?wtbd3 ?runbd3 ?putbd3 ?nextbd3; (case wtbd3 => rfl); (case runbd3 => (intro w' hS; (obtain ⟨dn, s, hS⟩ := hS); (obtain ⟨x0, x1, x2, -, -, -⟩ := (G.out.blk hS.k KX.out (by decide) (by decide)).o3); clear hS; go_simp; first | done | exact rfl)); (case putbd3 => (first | (simp only [Act.put, List.setIfInBounds_toArray, List.set_cons_zero, List.set_cons_succ]; first | done | exact rfl) | rfl)); (case' nextbd3 => skip))
  (refine' GG.grow_lit (GG.OneS.still (by decide)) rfl ?wtbd4 ?runbd4 ?putbd4 ?nextbd4; (case wtbd4 => rfl); (case runbd4 => (intro w' hS; (obtain ⟨dn, s, hS⟩ := hS); (obtain ⟨x0, x1, x2, -, -, -⟩ := (G.out.blk hS.k KX.out (by decide) (by decide)).o3); clear hS; go_simp; first | done | exact rfl)); (case putbd4 => (first | (simp only [Act.put, List.setIfInBounds_toArray, List.set_cons_zero, List.set_cons_succ]; first | done | exact rfl) | rfl)); (case' nextbd4 => skip))
  (refine' GG.grow_lit (GG.OneS.still (by decide)) rfl ?wtbd5 ?runbd5 ?putbd5 ?nextbd5; (case wtbd5 => rfl); (case runbd5 => (intro w' hS; (obtain ⟨dn, s, hS⟩ := hS); (obtain ⟨x0, x1, x2, -, -, -⟩ := (G.out.blk hS.k KX.out (by decide) (by decide)).o3); clear hS; go_simp; first | done | exact rfl)); (case putbd5 => (first | (simp only [Act.put, List.setIfInBounds_toArray, List.set_cons_zero, List.set_cons_succ]; first | done | exact rfl) | rfl)); (case' nextbd5 => skip))
  (refine' GG.grow_lit (GG.OneS.still (by decide)) rfl ?wtbd6 ?runbd6 ?putbd6 ?nextbd6; (case wtbd6 => rfl); (case runbd6 => (intro w' hS; (obtain ⟨dn, s, hS⟩ := hS); (obtain ⟨x0, x1, x2, -, -, -⟩ := (G.out.blk hS.k KX.out (by decide) (by decide)).o3); clear hS; go_simp; first | done | exact rfl)); (case putbd6 => (first | (simp only [Act.put, List.setIfInBounds_toArray, List.set_cons_zero, List.set_cons_succ]; first | done | exact rfl) | rfl)); (case' nextbd6 => skip))
  (refine' GG.grow_lit (GG.OneS.still (by decide)) rfl ?wtbd7 ?runbd7 ?putbd7 ?nextbd7; (case wtbd7 => rfl); (case runbd7 => (intro w' hS; (obtain ⟨dn, s, hS⟩ := hS); (obtain ⟨x0, x1, x2, -, -, -⟩ := (G.out.blk hS.k KX.out (by decide) (by decide)).o3); clear hS; go_simp; first | done | exact rfl)); (case putbd7 => (first | (simp only [Act.put, List.setIfInBounds_toArray, List.set_cons_zero, List.set_cons_succ]; first | done | exact rfl) | rfl)); (case' nextbd7 => skip))
  (refine' GG.grow_lit (GG.OneS.still (by decide)) rfl ?wtbd8 ?runbd8 ?putbd8 ?nextbd8; (case wtbd8 => rfl); (case runbd8 => (intro w' hS; (obtain ⟨dn, s, hS⟩ := hS); (obtain ⟨x0, x1, x2, -, -, -⟩ := (G.out.blk hS.k KX.out (by decide) (by decide)).o3); clear hS; go_simp; first | done | exact rfl)); (case putbd8 => (first | (simp only [Act.put, List.setIfInBounds_toArray, List.set_cons_zero, List.set_cons_succ]; first | done | exact rfl) | rfl)); (case' nextbd8 => skip))
  (refine' GG.grow_lit (GG.OneS.still (by decide)) rfl ?wtbd9 ?runbd9 ?putbd9 ?nextbd9; (case wtbd9 => rfl); (case runbd9 => (intro w' hS; (obtain ⟨dn, s, hS⟩ := hS); (obtain ⟨x0, x1, x2, -, -, -⟩ := (G.out.blk hS.k KX.out (by decide) (by decide)).o3); clear hS; go_simp; first | done | exact rfl)); (case putbd9 => (first | (simp only [Act.put, List.setIfInBounds_toArray, List.set_cons_zero, List.set_cons_succ]; first | done | exact rfl) | rfl)); (case' nextbd9 => skip))
  (refine' GG.grow_lit (GG.OneS.still (by decide)) rfl ?wtbd10 ?runbd10 ?putbd10 ?nextbd10; (case wtbd10 => rfl); (case runbd10 => (intro w' hS; (obtain ⟨dn, s, hS⟩ := hS); (obtain ⟨x0, x1, x2, -, -, -⟩ := (G.out.blk hS.k KX.out (by decide) (by decide)).o3); clear hS; go_simp; first | done | exact rfl)); (case putbd10 => (first | (simp only [Act.put, List.setIfInBounds_toArray, List.set_cons_zero, List.set_cons_succ]; first | done | exact rfl) | rfl)); (case' nextbd10 => skip))
  (refine' GG.grow_lit_call (u := .nilIface) rfl Tryd.func35 (by kernel_rfl) rfl rfl ?wtbd11 ?runbd11 ?putbd11 ?nextbd11; (case wtbd11 => rfl); (case runbd11 => (intro dn s w' hS hd H; exact (vBendG (k := kt) (x := X) (y := Y) (c := c) (hS.g0 hd) hkt HXY.out HC.out rfl).mono (fun e w2 ⟨h1, h2, h3⟩ => ⟨(), h1, hS.put h2 h3, trivial, h3.size⟩))); (case putbd11 => (first | (simp only [Act.put, List.setIfInBounds_toArray, List.set_cons_zero, List.set_cons_succ]; first | done | exact rfl) | rfl)); (case' nextbd11 => skip))
  (refine' GG.grow_lit (GG.OneS.still (by decide)) rfl ?wtbd12 ?runbd12 ?putbd12 ?nextbd12; (case wtbd12 => rfl); (case runbd12 => (intro w' hS; (obtain ⟨dn, s, hS⟩ := hS); (obtain ⟨x0, x1, x2, -, -, -⟩ := (G.out.blk hS.k KX.out (by decide) (by decide)).o3); clear hS; go_simp; first | done | exact rfl)); (case putbd12 => (first | (simp only [Act.put, List.setIfInBounds_toArray, List.set_cons_zero, List.set_cons_succ]; first | done | exact rfl) | rfl)); (case' nextbd12 => skip))
  intro dn s W1 hS hdn _
  have hk := hS.k
  have G_ := Lib.hid (hS.g1 (hdn 11 (by decide)))
  have KA_ := Lib.hid (G.out.blk hk KA.out (by decide) (by decide))
  have KX_ := Lib.hid (G.out.blk hk KX.out (by decide) (by decide))
  clear G
  have G := G_
  clear KA KX
  have KA := KA_
  have KX := KX_
  clear KA_ KX_
  clear G_ hk hS hdn DS0
  obtain ⟨ka0, ka1, ka2, -, -, -⟩ := KA.out.o3
  go_wp2_with fail
  clear ka0 ka1 ka2
  go_loopw [14, 15, 16, 17, 18, 19] (fun v _ _ _ _ _ wr => ∃ k : Nat, k ≤ n.v.length ∧ v = .int .i64 k ∧ Hid (Below W1.heap.size W1 wr)) (fun v _ _ _ _ _ _ => n.v.length - (intOf v).toNat)
  case atStart => exact ⟨0, Nat.zero_le _, rfl, Lib.hid (Below.refl _ _)⟩
  case round =>
    obtain ⟨k, hk, rfl, HBr⟩ := hrel
    have KAr := Lib.hid (KA.out.keep HBr.out)
    have Gr := Lib.hid (G.out.old HBr.out)
    have hsv := GD.out.sv
    obtain ⟨a0, a1, a2, -, -, -⟩ := KAr.out.o3
    by_cases hlt : k < n.v.length
    · have hli : (k : Int) < (n.v.length : Int) := by omega
      go_wp2_with fail
      clear a0 a1 a2
      refine (vInsG Gr.out.g Gr.out.n k (l := insL n.a k) rfl).mono ?_
      rintro e wi ⟨iv, rfl, hI, hb⟩
      obtain ⟨iq, ic, rfl⟩ := hI.shape
      have RI := Lib.hid hI
      have HBi := Lib.hid (HBr.out.trans (hb.mono HBr.out.size))
      clear hI hb Gr KAr
      have Gi := Lib.hid (G.out.old HBi.out)
      go_wp2_with fail
      refine (vOutsG Gi.out.g Gi.out.n k (l := outsL n.a k) rfl).mono ?_
      rintro e wo ⟨ov, rfl, hO, hb⟩
      obtain ⟨oq, oc, rfl⟩ := hO.shape
      have RO := Lib.hid hO
      have RIo := Lib.hid (RI.out.below hb)
      have HBo := Lib.hid (HBi.out.trans (hb.mono HBi.out.size))
      clear hO hb Gi RI HBi HBr
      have Go_ := Lib.hid (G.out.old HBo.out)
      obtain ⟨-, -, g2, g3⟩ := GD.out.verts k hlt
      obtain ⟨vb, vo, rfl, -, -, xv⟩ := (HV.out.below Go_.out.b).s.v.at hlt
      have hdg := GD.out.degs k hlt
      have hi16 : (insL n.a k).length ≤ 16 := by have := insL_len n.a k; omega
      have ho16 : (outsL n.a k).length ≤ 16 := by have := outsL_len n.a k; omega
      have HBT := Lib.hid (fun (i j : Nat) (hi : i < (insL n.a k).length) (hj : j < (outsL n.a k).length) => bent_turn (c := c) GD.out hlt hkt HXY.out hi hj)
      obtain ⟨TY, eTY⟩ : ∃ x, n.v[k].2.2 = x := ⟨_, rfl⟩
      rw [eTY] at xv
      have ETY := Lib.hid eTY
      have XV := Lib.hid xv
      clear g2 g3 xv eTY hdg
      go_wp2_with fail
      go_loopw [17, 18, 19] (fun i _ _ wr2 => ∃ i2 : Nat, i2 ≤ (insL n.a k).length ∧ i = .int .i64 i2 ∧ Hid (Below wo.heap.size wo wr2)) (fun i _ _ _ => (insL n.a k).length - (intOf i).toNat)
      case atStart => exact ⟨0, Nat.zero_le _, rfl, Lib.hid (Below.refl _ _)⟩
      case round =>
        obtain ⟨i, hi, rfl, HB2⟩ := hrel
        by_cases hi2 : i < (insL n.a k).length
        · have hii : (i : Int) < ((insL n.a k).length : Int) := by omega
          go_wp2_with fail
          go_loopw [18, 19] (fun q _ wr3 => ∃ j2 : Nat, j2 ≤ (outsL n.a k).length ∧ q = .int .i64 j2 ∧ Hid (Below wo.heap.size wo wr3)) (fun q _ _ => (outsL n.a k).length - (intOf q).toNat)
          case atStart => exact ⟨0, Nat.zero_le _, rfl, HB2⟩
          case round =>
            obtain ⟨j, hj, rfl, HB3⟩ := hrel
            obtain ⟨wr3, rfl⟩ : ∃ W, W = wr := ⟨_, rfl⟩
            by_cases hj2 : j < (outsL n.a k).length
            · have hjj : (j : Int) < ((outsL n.a k).length : Int) := by omega
              obtain ⟨ib, io, rfl, xi⟩ := (RIo.out.below HB3.out).at hi2
              obtain ⟨ob, oo, rfl, xo⟩ := (RO.out.below HB3.out).at hj2
              have eg := HBT.out i j hi2 hj2
              obtain ⟨IA, eIA⟩ : ∃ A, (insL n.a k)[i] = A := ⟨_, rfl⟩
              obtain ⟨OB, eOB⟩ : ∃ A, (outsL n.a k)[j] = A := ⟨_, rfl⟩
              rw [eIA, eOB, ETY.out] at eg
              rw [eIA] at xi
              rw [eOB] at xo
              obtain ⟨TT, eTT⟩ : ∃ T, n.turn IA OB = T := ⟨_, rfl⟩
              rw [eTT] at eg
              have EG := Lib.hid eg
              have ETT := Lib.hid eTT
              have XI := Lib.hid xi
              have XO := Lib.hid xo
              have G3 := Lib.hid (Go_.out.old HB3.out)
              have KAs := Lib.hid (KA.out.keep (HBo.out.trans (HB3.out.mono HBo.out.size)))
              have VAs := Lib.hid (HV.out.below G3.out.b)
              clear eg eTT eIA eOB xi xo
              go_wp2_with fail
              have hGS : Grows (fun w' => Below wr3.heap.size wr3 w') := Grows.below wr3
              refine' wp_growL _ (fun w' => Below wr3.heap.size wr3 w') [[], [], [], [1, 2], [3], [], [], [5, 6], [7], [0, 4, 8], [9]] (Fact.lit _ :: Fact.lit _ :: Fact.lit _ :: Fact.lit _ :: Fact.lit _ :: Fact.lit _ :: Fact.lit _ :: Fact.lit _ :: Fact.lit _ :: Fact.lit _ :: Fact.lit _ :: []) (by kernel_rfl) rfl (by kernel_rfl) (Below.refl _ _).drew ?seqta
              case' seqta => skip
              iterate 9 ((first | (apply grow_skip; (case hf => rfl); (case hw => rfl)) | (apply grow_lit; (case hf => rfl); (case hw => rfl); (case hrun => (intro w' hS H; clear H; (obtain ⟨a0, a1, a2, -, -, -⟩ := (KAs.out.keep hS).o3); (have xi := keep hS XI.out); (have xo := keep hS XO.out); clear hS; go_simp; first | done | exact rfl)))); (case hc => (simp only [Act.put, List.setIfInBounds_toArray, List.set_cons_zero, List.set_cons_succ]; first | done | exact rfl)); (try (case hj => rfl)))
              (refine' grow_call (u := .int .i64 TT) rfl Tryd.func20 (by kernel_rfl) rfl hGS rfl ?wt1 ?run1 ?put1 ?next1; (case wt1 => rfl); (case run1 => (intro w' hS H; exact rvturn (VAs.out.below hS) GD.out ETT.out)); (case put1 => (simp only [Act.put, List.setIfInBounds_toArray, List.set_cons_zero, List.set_cons_succ]; first | done | exact rfl)); (case' next1 => skip))
              iterate 1 ((first | (apply grow_skip; (case hf => rfl); (case hw => rfl)) | (apply grow_lit; (case hf => rfl); (case hw => rfl); (case hrun => (intro w' hS H; clear H; (obtain ⟨a0, a1, a2, -, -, -⟩ := (KAs.out.keep hS).o3); (have xi := keep hS XI.out); (have xo := keep hS XO.out); clear hS; go_simp; first | done | exact rfl)))); (case hc => (simp only [Act.put, List.setIfInBounds_toArray, List.set_cons_zero, List.set_cons_succ]; first | done | exact rfl)); (try (case hj => rfl)))
              intro w23 hb _
              have HB6 := Lib.hid hb
              have KA6 := Lib.hid (KAs.out.keep hb)
              have G6 := Lib.hid (G3.out.old hb)
              have xv := keep (HB3.out.trans (hb.mono HB3.out.size)) XV.out
              obtain ⟨a0, a1, a2, -, -, -⟩ := KA6.out.o3
              obtain ⟨x0, x1, x2, -, -, -⟩ := (KX.out.keep (HBo.out.trans ((HB3.out.trans (hb.mono HB3.out.size)).mono HBo.out.size))).o3
              clear hb hGS
              by_cases hA : TY = (kt : Int)
              · subst hA
                by_cases hB : (i : Int) = X
                · by_cases hC : (j : Int) = Y
                  · have EWT := Lib.hid (EG.out.trans (if_pos ⟨rfl, hB, hC⟩))
                    have hB1 : ((i : Int) == X) = true := by simpa using hB
                    have hC1 : ((j : Int) == Y) = true := by simpa using hC
                    clear hB hC
                    go_wp2_with fail
                    clear a0 a1 a2 x0 x1 x2 xv
                    have hGS : Grows (fun w' => Below w23.heap.size w23 w') := Grows.below w23
                    refine' wp_growL _ (fun w' => Below w23.heap.size w23 w') [[], [], [], [1, 2], [3], [], [], [5, 6], [7], [0, 4, 8], [], [9, 10]] (Fact.lit _ :: Fact.lit _ :: Fact.lit _ :: Fact.lit _ :: Fact.lit _ :: Fact.lit _ :: Fact.lit _ :: Fact.lit _ :: Fact.lit _ :: Fact.lit _ :: Fact.lit _ :: Fact.lit _ :: []) (by kernel_rfl) rfl (by kernel_rfl) (Below.refl _ _).drew ?seqyta
                    case' seqyta => skip
                    iterate 9 ((first | (apply grow_skip; (case hf => rfl); (case hw => rfl)) | (apply grow_lit; (case hf => rfl); (case hw => rfl); (case hrun => (intro w' hS H; clear H; (have xi := keep (HB6.out.trans (hS.mono HB6.out.size)) XI.out); (have xo := keep (HB6.out.trans (hS.mono HB6.out.size)) XO.out); clear hS; go_simp; first | done | exact rfl)))); (case hc => (simp only [Act.put, List.setIfInBounds_toArray, List.set_cons_zero, List.set_cons_succ]; first | done | exact rfl)); (try (case hj => rfl)))
                    (refine' grow_call (u := .int .i64 c) rfl Tryd.func19 (by kernel_rfl) rfl hGS rfl ?wt2 ?run2 ?put2 ?next2; (case wt2 => rfl); (case run2 => (intro w' hS H; exact vTurnG (G6.out.old hS).g G6.out.n EWT.out)); (case put2 => (simp only [Act.put, List.setIfInBounds_toArray, List.set_cons_zero, List.set_cons_succ]; first | done | exact rfl)); (case' next2 => skip))
                    iterate 2 ((first | (apply grow_skip; (case hf => rfl); (case hw => rfl)) | (apply grow_lit; (case hf => rfl); (case hw => rfl); (case hrun => (intro w' hS H; clear H; (have xi := keep (HB6.out.trans (hS.mono HB6.out.size)) XI.out); (have xo := keep (HB6.out.trans (hS.mono HB6.out.size)) XO.out); clear hS; go_simp; first | done | exact rfl)))); (case hc => (simp only [Act.put, List.setIfInBounds_toArray, List.set_cons_zero, List.set_cons_succ]; first | done | exact rfl)); (try (case hj => rfl)))
                    intro w26 hb _
                    have HB7 := Lib.hid (HB3.out.trans ((HB6.out.trans (hb.mono HB6.out.size)).mono HB3.out.size))
                    clear hb hGS
                    go_wp2_with fail
                    go_roundw
                    case rel => exact ⟨j + 1, by omega, by go_num, HB7⟩
                    case measure => simp [intOf]; omega
                  · have EWT := Lib.hid (EG.out.trans (if_neg (fun h => hC h.2.2)))
                    have hB1 : ((i : Int) == X) = true := by simpa using hB
                    have hC1 : ((j : Int) == Y) = false := by simpa using hC
                    clear hB hC
                    go_wp2_with fail
                    clear a0 a1 a2 x0 x1 x2 xv
                    have hGS : Grows (fun w' => Below w23.heap.size w23 w') := Grows.below w23
                    refine' wp_growL _ (fun w' => Below w23.heap.size w23 w') [[], [], [], [1, 2], [3], [], [], [5, 6], [7], [0, 4, 8], [], [9, 10]] (Fact.lit _ :: Fact.lit _ :: Fact.lit _ :: Fact.lit _ :: Fact.lit _ :: Fact.lit _ :: Fact.lit _ :: Fact.lit _ :: Fact.lit _ :: Fact.lit _ :: Fact.lit _ :: Fact.lit _ :: []) (by kernel_rfl) rfl (by kernel_rfl) (Below.refl _ _).drew ?seqytb
                    case' seqytb => skip
                    iterate 9 ((first | (apply grow_skip; (case hf => rfl); (case hw => rfl)) | (apply grow_lit; (case hf => rfl); (case hw => rfl); (case hrun => (intro w' hS H; clear H; (have xi := keep (HB6.out.trans (hS.mono HB6.out.size)) XI.out); (have xo := keep (HB6.out.trans (hS.mono HB6.out.size)) XO.out); clear hS; go_simp; first | done | exact rfl)))); (case hc => (simp only [Act.put, List.setIfInBounds_toArray, List.set_cons_zero, List.set_cons_succ]; first | done | exact rfl)); (try (case hj => rfl)))
                    (refine' grow_call (u := .int .i64 TT) rfl Tryd.func19 (by kernel_rfl) rfl hGS rfl ?wt3 ?run3 ?put3 ?next3; (case wt3 => rfl); (case run3 => (intro w' hS H; exact vTurnG (G6.out.old hS).g G6.out.n EWT.out)); (case put3 => (simp only [Act.put, List.setIfInBounds_toArray, List.set_cons_zero, List.set_cons_succ]; first | done | exact rfl)); (case' next3 => skip))
                    iterate 2 ((first | (apply grow_skip; (case hf => rfl); (case hw => rfl)) | (apply grow_lit; (case hf => rfl); (case hw => rfl); (case hrun => (intro w' hS H; clear H; (have xi := keep (HB6.out.trans (hS.mono HB6.out.size)) XI.out); (have xo := keep (HB6.out.trans (hS.mono HB6.out.size)) XO.out); clear hS; go_simp; first | done | exact rfl)))); (case hc => (simp only [Act.put, List.setIfInBounds_toArray, List.set_cons_zero, List.set_cons_succ]; first | done | exact rfl)); (try (case hj => rfl)))
                    intro w26 hb _
                    have HB7 := Lib.hid (HB3.out.trans ((HB6.out.trans (hb.mono HB6.out.size)).mono HB3.out.size))
                    clear hb hGS
                    go_wp2_with fail
                    go_roundw
                    case rel => exact ⟨j + 1, by omega, by go_num, HB7⟩
                    case measure => simp [intOf]; omega
                · have EWT := Lib.hid (EG.out.trans (if_neg (fun h => hB h.2.1)))
                  have hB1 : ((i : Int) == X) = false := by simpa using hB
                  clear hB
                  go_wp2_with fail
                  clear a0 a1 a2 x0 x1 x2 xv
                  have hGS : Grows (fun w' => Below w23.heap.size w23 w') := Grows.below w23
                  refine' wp_growL _ (fun w' => Below w23.heap.size w23 w') [[], [], [], [1, 2], [3], [], [], [5, 6], [7], [0, 4, 8], [], [9, 10]] (Fact.lit _ :: Fact.lit _ :: Fact.lit _ :: Fact.lit _ :: Fact.lit _ :: Fact.lit _ :: Fact.lit _ :: Fact.lit _ :: Fact.lit _ :: Fact.lit _ :: Fact.lit _ :: Fact.lit _ :: []) (by kernel_rfl) rfl (by kernel_rfl) (Below.refl _ _).drew ?seqytc
                  case' seqytc => skip
                  iterate 9 ((first | (apply grow_skip; (case hf => rfl); (case hw => rfl)) | (apply grow_lit; (case hf => rfl); (case hw => rfl); (case hrun => (intro w' hS H; clear H; (have xi := keep (HB6.out.trans (hS.mono HB6.out.size)) XI.out); (have xo := keep (HB6.out.trans (hS.mono HB6.out.size)) XO.out); clear hS; go_simp; first | done | exact rfl)))); (case hc => (simp only [Act.put, List.setIfInBounds_toArray, List.set_cons_zero, List.set_cons_succ]; first | done | exact rfl)); (try (case hj => rfl)))
                  (refine' grow_call (u := .int .i64 TT) rfl Tryd.func19 (by kernel_rfl) rfl hGS rfl ?wt4 ?run4 ?put4 ?next4; (case wt4 => rfl); (case run4 => (intro w' hS H; exact vTurnG (G6.out.old hS).g G6.out.n EWT.out)); (case put4 => (simp only [Act.put, List.setIfInBounds_toArray, List.set_cons_zero, List.set_cons_succ]; first | done | exact rfl)); (case' next4 => skip))
                  iterate 2 ((first | (apply grow_skip; (case hf => rfl); (case hw => rfl)) | (apply grow_lit; (case hf => rfl); (case hw => rfl); (case hrun => (intro w' hS H; clear H; (have xi := keep (HB6.out.trans (hS.mono HB6.out.size)) XI.out); (have xo := keep (HB6.out.trans (hS.mono HB6.out.size)) XO.out); clear hS; go_simp; first | done | exact rfl)))); (case hc => (simp only [Act.put, List.setIfInBounds_toArray, List.set_cons_zero, List.set_cons_succ]; first | done | exact rfl)); (try (case hj => rfl)))
                  intro w26 hb _
                  have HB7 := Lib.hid (HB3.out.trans ((HB6.out.trans (hb.mono HB6.out.size)).mono HB3.out.size))
                  clear hb hGS
                  go_wp2_with fail
                  go_roundw
                  case rel => exact ⟨j + 1, by omega, by go_num, HB7⟩
                  case measure => simp [intOf]; omega
              · have EWT := Lib.hid (EG.out.trans (if_neg (fun h => hA h.1)))
                have hA1 : (TY == (kt : Int)) = false := by simpa using hA
                clear hA
                go_wp2_with fail
                clear a0 a1 a2 x0 x1 x2 xv
                have hGS : Grows (fun w' => Below w23.heap.size w23 w') := Grows.below w23
                refine' wp_growL _ (fun w' => Below w23.heap.size w23 w') [[], [], [], [1, 2], [3], [], [], [5, 6], [7], [0, 4, 8], [], [9, 10]] (Fact.lit _ :: Fact.lit _ :: Fact.lit _ :: Fact.lit _ :: Fact.lit _ :: Fact.lit _ :: Fact.lit _ :: Fact.lit _ :: Fact.lit _ :: Fact.lit _ :: Fact.lit _ :: Fact.lit _ :: []) (by kernel_rfl) rfl (by kernel_rfl) (Below.refl _ _).drew ?seqytd
                case' seqytd => skip
                iterate 9 ((first | (apply grow_skip; (case hf => rfl); (case hw => rfl)) | (apply grow_lit; (case hf => rfl); (case hw => rfl); (case hrun => (intro w' hS H; clear H; (have xi := keep (HB6.out.trans (hS.mono HB6.out.size)) XI.out); (have xo := keep (HB6.out.trans (hS.mono HB6.out.size)) XO.out); clear hS; go_simp; first | done | exact rfl)))); (case hc => (simp only [Act.put, List.setIfInBounds_toArray, List.set_cons_zero, List.set_cons_succ]; first | done | exact rfl)); (try (case hj => rfl)))
                (refine' grow_call (u := .int .i64 TT) rfl Tryd.func19 (by kernel_rfl) rfl hGS rfl ?wt5 ?run5 ?put5 ?next5; (case wt5 => rfl); (case run5 => (intro w' hS H; exact vTurnG (G6.out.old hS).g G6.out.n EWT.out)); (case put5 => (simp only [Act.put, List.setIfInBounds_toArray, List.set_cons_zero, List.set_cons_succ]; first | done | exact rfl)); (case' next5 => skip))
                iterate 2 ((first | (apply grow_skip; (case hf => rfl); (case hw => rfl)) | (apply grow_lit; (case hf => rfl); (case hw => rfl); (case hrun => (intro w' hS H; clear H; (have xi := keep (HB6.out.trans (hS.mono HB6.out.size)) XI.out); (have xo := keep (HB6.out.trans (hS.mono HB6.out.size)) XO.out); clear hS; go_simp; first | done | exact rfl)))); (case hc => (simp only [Act.put, List.setIfInBounds_toArray, List.set_cons_zero, List.set_cons_succ]; first | done | exact rfl)); (try (case hj => rfl)))
                intro w26 hb _
                have HB7 := Lib.hid (HB3.out.trans ((HB6.out.trans (hb.mono HB6.out.size)).mono HB3.out.size))
                clear hb hGS
                go_wp2_with fail
                go_roundw
                case rel => exact ⟨j + 1, by omega, by go_num, HB7⟩
                case measure => simp [intOf]; omega
            · have hjj : ¬ (j : Int) < ((outsL n.a k).length : Int) := by omega
              go_wp2_with fail
              go_roundw
              case rel => exact ⟨i + 1, by omega, by go_num, HB3⟩
              case measure => simp [intOf]; omega
        · have hii : ¬ (i : Int) < ((insL n.a k).length : Int) := by omega
          go_wp2_with fail
          go_roundw
          case rel => exact ⟨k + 1, by omega, by go_num, Lib.hid (HBo.out.trans (HB2.out.mono HBo.out.size))⟩
          case measure => simp [intOf]; omega
    · have hli : ¬ (k : Int) < (n.v.length : Int) := by omega
      go_wp2_with fail
      go_ret
      exact ⟨rfl, Gr.out.b⟩

theorem gtypes_walk (v : Value) (n : NetD) (t_ p_ c : Int) (w : World) (hg : ErrT w) (hv : NetV w v n) (hin : InNet n) (ht0 : 0 ≤ t_) (ht1 : t_ ≤ 65535) (hp0 : 0 ≤ p_) (hp1 : p_ ≤ 65535) (c0 : -9223372036854775808 ≤ c) (c1 : c ≤ 9223372036854775807) :
    Calls Tryd.prog 6 #[v, .int .u16 t_, .int .u16 p_, .int .i64 c] w fun e w' => e = .returned (.bool true) ∧ Below w.heap.size w w' := by
  cases hm : mayN n with
  | false => exact gtypes_no v n t_ p_ c w hg hv hin hm
  | true =>
    by_cases he : n.t.length = 0
    · exact gtypes_empty v n t_ p_ c w hg hv hin hm he
    · cases hc : wgt c with
      | false => exact gtypes_c v n t_ p_ c w hg hv hin ⟨c0, c1⟩ hm he hc
      | true =>
        have kt0 : 0 ≤ t_.tmod (n.t.length : Int) := Int.tmod_nonneg _ ht0
        have kt1 : t_.tmod (n.t.length : Int) < (n.t.length : Int) := Int.tmod_lt_of_pos _ (by omega)
        obtain ⟨kt, hmt⟩ : ∃ k : Nat, t_.tmod (n.t.length : Int) = k := ⟨(t_.tmod (n.t.length : Int)).toNat, by omega⟩
        have hkt : kt < n.t.length := by omega
        by_cases hl : n.t[kt].2.2.length = 0
        · exact gtypes_zero v n t_ p_ c w hg hv hin ⟨c0, c1⟩ kt hm hkt ht0 ht1 hmt hc hl
        · have kp0 : 0 ≤ p_.tmod (n.t[kt].2.2.length : Int) := Int.tmod_nonneg _ hp0
          have kp1 : p_.tmod (n.t[kt].2.2.length : Int) < (n.t[kt].2.2.length : Int) := Int.tmod_lt_of_pos _ (by omega)
          obtain ⟨kp, hmp⟩ : ∃ k : Nat, p_.tmod (n.t[kt].2.2.length : Int) = k := ⟨(p_.tmod (n.t[kt].2.2.length : Int)).toNat, by omega⟩
          exact gtypes_full v n t_ p_ c w hg hv hin ⟨c0, c1⟩ kt hm hkt ht0 ht1 hmt hp0 hp1 hc kp (by omega) hmp

set_option maxRecDepth 100000 in
theorem graphTypes_walks : Walks laidAll 6 Tryd.f6 := by
  intro H enc W args ds g
  obtain ⟨ps, hA⟩ := g.reads
  obtain ⟨base, hval⟩ := g.okay
  rw [Tryd.params6] at hA hval
  obtain ⟨v0, vs0, d0, ds0, p0, q0, hargs, rfl, rfl, h0, r0⟩ := trodAll_cons hA
  obtain ⟨v1, vs1, d1, ds1, p1, q1, rfl, rfl, rfl, h1, r1⟩ := trodAll_cons r0
  obtain ⟨v2, vs2, d2, ds2, p2, q2, rfl, rfl, rfl, h2, r2⟩ := trodAll_cons r1
  obtain ⟨v3, vs3, d3, ds3, p3, q3, rfl, rfl, rfl, h3, r3⟩ := trodAll_cons r2
  obtain ⟨rfl, rfl, rfl⟩ := trodAll_nil r3
  obtain rfl : args = #[v0, v1, v2, v3] := Array.toList_inj.1 hargs
  obtain ⟨n0, w0, u0⟩ := open_net (hval 0 26 v0 rfl rfl) h0
  obtain ⟨x1, rfl, rfl, rfl, w1⟩ := open_int Tryd.underlying72 (hval 1 72 v1 rfl rfl) h1
  obtain ⟨x2, rfl, rfl, rfl, w2⟩ := open_int Tryd.underlying72 (hval 2 72 v2 rfl rfl) h2
  obtain ⟨x3, rfl, rfl, rfl, w3⟩ := open_int Tryd.underlying2 (hval 3 2 v3 rfl rfl) h3
  exact gtypes_walk v0 n0 x1 x2 x3 W (errT_of_laid g.laid) w0 u0 (wfu16 w1).1 (wfu16 w1).2 (wfu16 w2).1 (wfu16 w2).2 (wf64 w3).1 (wf64 w3).2

theorem graphTypes_row : Rows.GraphTypesSaid :=
  OpenClaim.holds_of_wide 6 Tryd.f6 rfl rfl rfl rfl rfl rfl rfl ⟨rfl, rfl, rfl, rfl, rfl⟩ rfl rfl rfl rfl rfl (by kernel_rfl) Tryd.func6 (by kernel_rfl)
    (of_decide_eq_true (by kernel_rfl)) (by unfold Func.isWrapper; rw [if_neg (of_decide_eq_false (by kernel_rfl))]; exact ⟨rfl, rfl⟩)
    (fun os started H enc _ => law_lifted (s := Rows.graphTypesSpec) (L := laidAll) Tryd.func6 (by kernel_rfl) rfl (by kernel_rfl)
      (fun H ds hl => by
        rw [Tryd.params6] at hl
        match ds, hl with
        | [_, _, _, _], _ => exact ⟨rfl, rfl, rfl⟩)
      (by kernel_rfl) os started H enc
      (ChangeSpec.witness_at (enc := enc) (C := Tryd.checked) (os := os) (X := fun w _ => laidMetH Tryd.prog laidAll w) false (laidWorld os) #[.agg #[.slice none 0 0, .slice none 0 0, .slice none 0 0], .int .u16 0, .int .u16 0, .int .i64 0] 8 rfl (by kernel_rfl) (by kernel_rfl) (by kernel_rfl) (by kernel_rfl) (by kernel_rfl) (laidWorld_met os _))
      graphTypes_walks)

theorem graphTypes_card : Rows.GraphTypesCardSaid :=
  Claim7.holds_tied_plain_at .later [] laidKindsAll true (Rows.graphTypesCard.stood.harness) true
    graphTypes_row (fun _ h => by cases h) (by kernel_rfl) (fun _ h => by cases h) graphTypes_row_tie rfl ⟨rfl, rfl⟩ (by kernel_rfl) rfl
    (fun f fn hf hfn => by
      obtain rfl : f = 6 := Option.some.inj ((show Tryd.prog.funcNamed "roundsman/roundsmanlaw6.GraphTypes" = some 6 by kernel_rfl).symm.trans hf) |>.symm
      obtain rfl : fn = Tryd.f6 := (Option.some.inj (Tryd.func6.symm.trans hfn)).symm
      exact ⟨by kernel_rfl, fun j t ht => by
        rw [Tryd.params6] at ht
        exact stand_all #[26, 72, 72, 2] (by kernel_rfl) j t ht⟩)
    (by kernel_rfl)
#print axioms graphTypes_card

end Go.Proofs.YtccnplfkpkfgmaaDoor
