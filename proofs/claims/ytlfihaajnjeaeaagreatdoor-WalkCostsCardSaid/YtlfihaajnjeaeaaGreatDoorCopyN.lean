/-
  The document's CopyNet: another net, whose rows are its own.
-/
import Derived.Test.YtlfihaajnjeaeaaGreatDoorLaw3R
namespace Go.Proofs.YtlfihaajnjeaeaaGreatDoor
open Go.RowKit

/-- A net's rows are a call's own. -/
structure OwnN (w : World) (base : Nat) (n : NetD) (uv ua ut : Value) (us : List Value) : Prop where
  v : w.ownsRow base 79 3 uv n.v.length (flatT n.v)
  a : w.ownsRow base 75 3 ua n.a.length (flatT n.a)
  t : w.ownsRow base 77 3 ut n.t.length (flatB n.t us)
  r : RowsI w n.t us
def Emp3 (base : Nat) (e : TypeId) (s : Nat) (v : Value) (w : World) : Prop := ∃ g, v = .slice (some ⟨g, 0, none⟩) 0 0 ∧ w.ownsRow base e s v 0 []
theorem Emp3.below {base : Nat} {e : TypeId} {s : Nat} {v : Value} {w w' : World} (h : Emp3 base e s v w) (hb : Below w.heap.size w w') : Emp3 base e s v w' := by
  obtain ⟨g, h1, h2⟩ := h
  exact ⟨g, h1, owns_below h2 hb⟩
theorem Emp3.new {base : Nat} {e : TypeId} {s : Nat} {w : World} (hb : base ≤ w.heap.size) : Emp3 base e s (.slice (some ⟨w.heap.size, 0, none⟩) 0 0) (w.alloc (.cells #[] e)) :=
  ⟨w.heap.size, rfl, World.ownsRow_lit w #[] 0 hb (by simp [maxLen]) (by simp)⟩
def CopyAgg (base : Nat) (n : NetD) (v : Value) (w : World) : Prop := ∃ q0 c0 q1 c1, v = .agg #[.slice q0 n.v.length c0, .slice q1 n.a.length c1, .slice none 0 0] ∧ w.ownsRow base 79 3 (.slice q0 n.v.length c0) n.v.length (flatT n.v) ∧ w.ownsRow base 75 3 (.slice q1 n.a.length c1) n.a.length (flatT n.a)
theorem CopyAgg.below {base : Nat} {n : NetD} {v : Value} {w w' : World} (h : CopyAgg base n v w) (hb : Below w.heap.size w w') : CopyAgg base n v w' := by
  obtain ⟨q0, c0, q1, c1, e, h1, h2⟩ := h
  exact ⟨q0, c0, q1, c1, e, owns_below h1 hb, owns_below h2 hb⟩
def PtrRNet (W : World) (v : Value) (w : World) : Prop := ∃ b, v = .pointer (some ⟨b, 0, none⟩) ∧ W.heap.size ≤ b ∧ Blk w b #[.slice none 0 0, .slice none 0 0, .slice none 0 0] 26
theorem PtrRNet.below {W w w' : World} {v : Value} (h : PtrRNet W v w) (hb : Below w.heap.size w w') : PtrRNet W v w' := by
  obtain ⟨b, e, h1, h2⟩ := h
  exact ⟨b, e, h1, h2.keep hb⟩

set_option maxHeartbeats 8000000 in
set_option maxRecDepth 100000 in
theorem copynet_any (n : NetD) (vq aq tq : Option Addr) (vc ac tc : Nat) (w : World) (h : NetS w n vq aq tq vc ac tc) (hv : n.v.length ≤ 10000) (ha : n.a.length ≤ 100000) (ht : n.t.length ≤ 1000) (hc : ∀ t ∈ n.t, t.2.2.length ≤ 1000) :
    Calls Tryz.prog 55 #[netVal n vq aq tq vc ac tc] w fun e w' => ∃ q0 c0 q1 c1 q2 c2 us, e = .returned (.agg #[.slice q0 n.v.length c0, .slice q1 n.a.length c1, .slice q2 n.t.length c2]) ∧ OwnN w' w.heap.size n (.slice q0 n.v.length c0) (.slice q1 n.a.length c1) (.slice q2 n.t.length c2) us ∧ Below w.heap.size w w' := by
  have HC := Lib.hid hc
  clear hc
  go_enter Tryz.func55, Tryz.ntmps55
  go_wp2_with fail
  obtain ⟨W0, hW0⟩ := named ((w.alloc (.cells #[.slice vq n.v.length vc, .slice aq n.a.length ac, .slice tq n.t.length tc] 26)).alloc (.cells #[.slice none 0 0, .slice none 0 0, .slice none 0 0] 26))
  rw [← hW0]
  have hb0 : Below w.heap.size w W0 := by rw [hW0]; exact below_alloc2 _ _
  have z0 : W0.heap.size = w.heap.size + 2 := by rw [hW0]; simp
  have B0 := Lib.hid hb0
  have K0 : Hid (Blk W0 w.heap.size #[.slice vq n.v.length vc, .slice aq n.a.length ac, .slice tq n.t.length tc] 26) := by rw [hW0]; exact Lib.hid ((Blk.new _ _ _ _ rfl).old _)
  have KR : Hid (Blk W0 (w.heap.size + 1) #[.slice none 0 0, .slice none 0 0, .slice none 0 0] 26) := by rw [hW0]; exact Lib.hid (Blk.new _ _ _ _ (by simp))
  have HS := Lib.hid (h.below hb0)
  clear h hW0 hb0
  have hGS : Grows (fun w' => Below W0.heap.size W0 w') := Grows.below W0
  refine' wp_thenL _ 10 (fun w' => Below W0.heap.size W0 w') [[], [], [1], [0, 1, 2], [], [], [5], [4, 5, 6], [0, 1, 2, 3, 4, 5, 6, 7], []] (Fact.prop _ _ :: Fact.lit _ :: Fact.lit _ :: Fact.prop _ _ :: Fact.prop _ _ :: Fact.lit _ :: Fact.lit _ :: Fact.prop _ _ :: Fact.prop _ _ :: Fact.fresh _ _ :: []) (by kernel_rfl) rfl (by kernel_rfl) (Below.refl _ _).drew ?seqone
  case' seqone => skip
  (refine' grow_make (p := Emp3 (W0.heap.size) 79 3) (hp := fun v w w' h hb => h.below hb) hGS rfl ?wtcn0 ?runcn0 ?putcn0 ?nextcn0; (case wtcn0 => rfl); (case runcn0 => (intro w' hS H; clear H; refine ⟨.slice (some ⟨w'.heap.size, 0, none⟩) 0 0, w'.alloc (.cells #[] 79), ?_, Emp3.new hS.size, below_new _⟩; (clear hS; go_simp))); (case putcn0 => (intro v; simp only [Act.put, List.setIfInBounds_toArray, List.set_cons_zero, List.set_cons_succ]; first | done | exact rfl)); (case' nextcn0 => intro v0))
  iterate 2 (apply grow_lit; (case hf => rfl); (case hw => rfl); (case hrun => (intro w' hS H; clear H; (obtain ⟨c0, c1, c2, -, -, -⟩ := (K0.out.keep hS).o3); clear hS; go_simp; first | done | exact rfl)); (case hc => (simp only [Act.put, List.setIfInBounds_toArray, List.set_cons_zero, List.set_cons_succ]; first | done | exact rfl)))
  (refine' grow_append (p := fun v w => w.ownsRow (W0.heap.size) 79 3 v n.v.length (flatT n.v)) (hp := fun v w w' h hb => owns_below h hb) _ _ 22 rfl hGS rfl ?wtcn3 ?runcn3 ?putcn3 ?nextcn3; (case wtcn3 => rfl); (case runcn3 => (intro w' hS H; (have h1 : Emp3 (W0.heap.size) 79 3 v0 w' := H 0 (by decide)); clear H; (obtain ⟨g, rfl, hE⟩ := h1); exact copy3 Tryz.underlying22 infoRVert (HS.out.v.below hS) (by omega) hE hS.size)); (case putcn3 => (intro v; simp only [Act.put, List.setIfInBounds_toArray, List.set_cons_zero, List.set_cons_succ]; first | done | exact rfl)); (case' nextcn3 => intro v3))
  (refine' grow_make (p := Emp3 (W0.heap.size) 75 3) (hp := fun v w w' h hb => h.below hb) hGS rfl ?wtcn4 ?runcn4 ?putcn4 ?nextcn4; (case wtcn4 => rfl); (case runcn4 => (intro w' hS H; clear H; refine ⟨.slice (some ⟨w'.heap.size, 0, none⟩) 0 0, w'.alloc (.cells #[] 75), ?_, Emp3.new hS.size, below_new _⟩; (clear hS; go_simp))); (case putcn4 => (intro v; simp only [Act.put, List.setIfInBounds_toArray, List.set_cons_zero, List.set_cons_succ]; first | done | exact rfl)); (case' nextcn4 => intro v4))
  iterate 2 (apply grow_lit; (case hf => rfl); (case hw => rfl); (case hrun => (intro w' hS H; clear H; (obtain ⟨c0, c1, c2, -, -, -⟩ := (K0.out.keep hS).o3); clear hS; go_simp; first | done | exact rfl)); (case hc => (simp only [Act.put, List.setIfInBounds_toArray, List.set_cons_zero, List.set_cons_succ]; first | done | exact rfl)))
  (refine' grow_append (p := fun v w => w.ownsRow (W0.heap.size) 75 3 v n.a.length (flatT n.a)) (hp := fun v w w' h hb => owns_below h hb) _ _ 23 rfl hGS rfl ?wtcn7 ?runcn7 ?putcn7 ?nextcn7; (case wtcn7 => rfl); (case runcn7 => (intro w' hS H; (have h1 : Emp3 (W0.heap.size) 75 3 v4 w' := H 4 (by decide)); clear H; (obtain ⟨g, rfl, hE⟩ := h1); exact copy3 Tryz.underlying23 infoRArc (HS.out.a.below hS) (by omega) hE hS.size)); (case putcn7 => (intro v; simp only [Act.put, List.setIfInBounds_toArray, List.set_cons_zero, List.set_cons_succ]; first | done | exact rfl)); (case' nextcn7 => intro v7))
  (refine' grow_prop (p := CopyAgg (W0.heap.size) n) (hp := fun v w w' h hb => h.below hb) rfl ?wtcn8 ?runcn8 ?putcn8 ?nextcn8; (case wtcn8 => rfl); (case runcn8 => (intro w' hS H; (have q3 : w'.ownsRow (W0.heap.size) 79 3 v3 n.v.length (flatT n.v) := H 3 (by decide)); (have q7 : w'.ownsRow (W0.heap.size) 75 3 v7 n.a.length (flatT n.a) := H 7 (by decide)); clear H hS; (obtain ⟨a3, b3, rfl⟩ := own_shape q3); (obtain ⟨a7, b7, rfl⟩ := own_shape q7); refine ⟨_, ?_, ⟨a3, b3, a7, b7, rfl, q3, q7⟩⟩; clear q3 q7; go_simp; first | done | exact rfl)); (case putcn8 => (intro v; simp only [Act.put, List.setIfInBounds_toArray, List.set_cons_zero, List.set_cons_succ]; first | done | exact rfl)); (case' nextcn8 => intro v8))
  (refine' grow_fresh (p := PtrRNet W0) (hp := fun v w w' h hb => h.below hb) hGS rfl ?wtcn9 ?runcn9 ?putcn9 ?nextcn9; (case wtcn9 => rfl); (case runcn9 => (intro w' hS H; clear H; refine ⟨.pointer (some ⟨w'.heap.size, 0, none⟩), w'.alloc (.cells #[.slice none 0 0, .slice none 0 0, .slice none 0 0] 26), ?_, ⟨w'.heap.size, rfl, hS.size, Blk.new _ _ _ _ rfl⟩, ⟨w'.heap.size, rfl, Nat.le_refl _, by simp⟩, below_new _⟩; (clear hS; go_simp))); (case putcn9 => (intro v; simp only [Act.put, List.setIfInBounds_toArray, List.set_cons_zero, List.set_cons_succ]; first | done | exact rfl)); (case' nextcn9 => intro v9))
  intro w9 hb hk
  have q8 : CopyAgg W0.heap.size n v8 w9 := hk 8 (by decide)
  have q9 : PtrRNet W0 v9 w9 := hk 9 (by decide)
  obtain ⟨q0, c0, q1, c1, rfl, ov, oa⟩ := q8
  obtain ⟨bm, rfl, hbm, km⟩ := q9
  have lm := km.lt
  have z9 := hb.size
  obtain ⟨s0, s1, s2, f0, f1, f2⟩ := km.o3
  clear hk hGS
  refine wpAny_ready (rs := [10]) (by kernel_rfl) (by simp) (AllReady.cons rfl (fun K hK => ?_) AllReady.nil)
  go_simp
  refine hK _ _ ?_
  clear hK K
  refine wpAny_done (by kernel_rfl) ?_ _
  clear s0 s1 s2 f0 f1 f2
  have ov1 := owns_set (owns_set (owns_set ov km (by decide) 0 (.slice q0 n.v.length c0)) (km.set 0 _) (by decide) 1 (.slice q1 n.a.length c1)) ((km.set 0 _).set 1 _) (by decide) 2 (.slice none 0 0)
  have oa1 := owns_set (owns_set (owns_set oa km (by decide) 0 (.slice q0 n.v.length c0)) (km.set 0 _) (by decide) 1 (.slice q1 n.a.length c1)) ((km.set 0 _).set 1 _) (by decide) 2 (.slice none 0 0)
  have km1 := ((km.set 0 (.slice q0 n.v.length c0)).set 1 (.slice q1 n.a.length c1)).set 2 (.slice none 0 0)
  have hb1 : Below W0.heap.size W0 (((w9.setCell ⟨bm, 0, none⟩ (.slice q0 n.v.length c0)).setCell ⟨bm, 1, none⟩ (.slice q1 n.a.length c1)).setCell ⟨bm, 2, none⟩ (.slice none 0 0)) := by
    iterate 3 (refine Below.setCell ?_ (by simp only []; omega) _)
    exact hb
  obtain ⟨W1, hW1⟩ := named (((w9.setCell ⟨bm, 0, none⟩ (.slice q0 n.v.length c0)).setCell ⟨bm, 1, none⟩ (.slice q1 n.a.length c1)).setCell ⟨bm, 2, none⟩ (.slice none 0 0))
  rw [← hW1] at ov1 oa1 km1 hb1 ⊢
  have HV := Lib.hid ov1
  have HA := Lib.hid oa1
  have KM : Hid (Blk W1 bm #[.slice q0 n.v.length c0, .slice q1 n.a.length c1, .slice none 0 0] 26) := Lib.hid (by simpa using km1)
  have HB := Lib.hid hb1
  clear ov oa km hb ov1 oa1 km1 hb1 hW1 lm z9
  go_wp2_with fail
  go_loopw [4, 5] (fun i _ wr => ∃ (k : Nat) (q : Option Addr) (c : Nat) (us : List Value), k ≤ n.t.length ∧ i = .int .i64 k ∧ Hid (wr.ownsRow W0.heap.size 77 3 (.slice q k c) (n.t.take k).length (flatB (n.t.take k) us)) ∧ Hid (RowsI wr (n.t.take k) us) ∧ Hid (Blk wr bm #[.slice q0 n.v.length c0, .slice q1 n.a.length c1, .slice q k c] 26) ∧ Hid (Below W0.heap.size W0 wr) ∧ Hid (wr.ownsRow W0.heap.size 79 3 (.slice q0 n.v.length c0) n.v.length (flatT n.v)) ∧ Hid (wr.ownsRow W0.heap.size 75 3 (.slice q1 n.a.length c1) n.a.length (flatT n.a))) (fun i _ _ => n.t.length - (intOf i).toNat)
  case atStart => exact ⟨0, none, 0, [], Nat.zero_le _, rfl, Lib.hid (World.ownsRow_nil _ _ _ _), Lib.hid ⟨rfl, fun i t u h => by simp at h⟩, KM, HB, HV, HA⟩
  case round =>
    obtain ⟨k, q, c, us, hk, rfl, HO, HRS, KMr, HBr, HVt, HAt⟩ := hrel
    have KNr := Lib.hid (K0.out.keep HBr.out)
    obtain ⟨c0', c1', c2', -, -, -⟩ := KNr.out.o3
    by_cases hlt : k < n.t.length
    · have hli : (k : Int) < (n.t.length : Int) := by omega
      obtain ⟨ab, ao, au, rfl, x0, x1, x2, xt⟩ := (HS.out.below HBr.out).t.at hlt
      have hal := HC.out n.t[k] (List.getElem_mem _)
      have HT : Hid (n.t.take (k + 1) = n.t.take k ++ [n.t[k]'hlt]) := Lib.hid (take_snoc n.t k hlt)
      obtain ⟨⟨I, O, l⟩, eA⟩ : ∃ A, n.t[k]'hlt = A := ⟨_, rfl⟩
      rw [eA] at x0 x1 xt hal HT
      simp only [] at x0 x1 xt hal
      obtain ⟨aq, ac', rfl⟩ := xt.shape
      have hbb := World.block_lt_of_cell? wr _ x0
      obtain ⟨WT, hWT⟩ := named (wr.alloc (.cells #[.int .i64 I, .int .i64 O, .slice aq l.length ac'] 77))
      have hbt : Below wr.heap.size wr WT := by rw [hWT]; exact below_new _
      have KT : Hid (Blk WT wr.heap.size #[.int .i64 I, .int .i64 O, .slice aq l.length ac'] 77) := by rw [hWT]; exact Lib.hid (Blk.new _ _ _ _ rfl)
      have XT := Lib.hid (xt.below hbt)
      have HBT := Lib.hid hbt
      have HWT := Lib.hid hWT
      have HOt := Lib.hid (owns_below HO.out hbt)
      have HRSt := Lib.hid (HRS.out.map fun u m h => h.below hbt)
      have KMt := Lib.hid (KMr.out.keep hbt)
      have HVt' := Lib.hid (owns_below HVt.out hbt)
      have HAt' := Lib.hid (owns_below HAt.out hbt)
      have HBr' := Lib.hid (HBr.out.trans (hbt.mono HBr.out.size))
      clear xt eA hbt hWT HO HRS HVt HAt
      go_wp2_with fail
      rw [← HWT.out]
      clear x0 x1 x2 c0' c1' c2' hbb KMr HBr HBT HWT
      have KMr := KMt
      have HO := HOt
      have HRS := HRSt
      have HVt := HVt'
      have HAt := HAt'
      have HBr := HBr'
      clear KMt HOt HRSt HVt' HAt' HBr'
      have hGS : Grows (fun w' => Below WT.heap.size WT w') := Grows.below WT
      have hzt : W0.heap.size ≤ WT.heap.size := HBr.out.size
      refine' wp_thenL _ 12 (fun w' => Below WT.heap.size WT w') [[], [0], [], [2], [], [4], [], [], [7], [6, 7, 8], [2, 3, 4, 5, 6, 7, 8, 9], [2, 3, 4, 5, 6, 7, 8, 9, 10]] (Fact.lit _ :: Fact.lit _ :: Fact.lit _ :: Fact.lit _ :: Fact.lit _ :: Fact.lit _ :: Fact.prop _ _ :: Fact.lit _ :: Fact.lit _ :: Fact.prop _ _ :: Fact.prop _ _ :: Fact.prop _ _ :: []) (by kernel_rfl) rfl (by kernel_rfl) (Below.refl _ _).drew ?seqt
      case' seqt => skip
      iterate 6 (apply grow_lit; (case hf => rfl); (case hw => rfl); (case hrun => (intro w' hS H; clear H; (obtain ⟨d0, d1, d2, -, -, -⟩ := (KMr.out.keep hS).o3); (obtain ⟨t0, t1, t2, -, -, -⟩ := (KT.out.keep hS).o3); clear hS; go_simp; first | done | exact rfl)); (case hc => (simp only [Act.put, List.setIfInBounds_toArray, List.set_cons_zero, List.set_cons_succ]; first | done | exact rfl)))
      (refine' grow_make (p := Emp3 (W0.heap.size) 2 1) (hp := fun v w w' h hb => h.below hb) hGS rfl ?wtct6 ?runct6 ?putct6 ?nextct6; (case wtct6 => rfl); (case runct6 => (intro w' hS H; clear H; refine ⟨.slice (some ⟨w'.heap.size, 0, none⟩) 0 0, w'.alloc (.cells #[] 2), ?_, Emp3.new (by have := hS.size; omega), below_new _⟩; (clear hS; go_simp))); (case putct6 => (intro v; simp only [Act.put, List.setIfInBounds_toArray, List.set_cons_zero, List.set_cons_succ]; first | done | exact rfl)); (case' nextct6 => intro v6))
      iterate 2 (apply grow_lit; (case hf => rfl); (case hw => rfl); (case hrun => (intro w' hS H; clear H; (obtain ⟨d0, d1, d2, -, -, -⟩ := (KMr.out.keep hS).o3); (obtain ⟨t0, t1, t2, -, -, -⟩ := (KT.out.keep hS).o3); clear hS; go_simp; first | done | exact rfl)); (case hc => (simp only [Act.put, List.setIfInBounds_toArray, List.set_cons_zero, List.set_cons_succ]; first | done | exact rfl)))
      (refine' grow_append (p := fun v w => RowI w v l) (hp := fun v w w' h hb => h.below hb) _ _ 41 rfl hGS rfl ?wtct9 ?runct9 ?putct9 ?nextct9; (case wtct9 => rfl); (case runct9 => (intro w' hS H; (have h1 : Emp3 (W0.heap.size) 2 1 v6 w' := H 6 (by decide)); clear H; (obtain ⟨g, rfl, hE⟩ := h1); exact copy64 (XT.out.below hS) (by omega) hE)); (case putct9 => (intro v; simp only [Act.put, List.setIfInBounds_toArray, List.set_cons_zero, List.set_cons_succ]; first | done | exact rfl)); (case' nextct9 => intro v9))
      (refine' grow_prop (p := TabI I O l) (hp := fun v w w' h hb => h.below hb) rfl ?wtct10 ?runct10 ?putct10 ?nextct10; (case wtct10 => rfl); (case runct10 => (intro w' hS H; (have q9 : RowI w' v9 l := H 9 (by decide)); clear H hS; (obtain ⟨a9, b9, rfl⟩ : ∃ q c, v9 = .slice q l.length c := by obtain ⟨_, h⟩ := q9; exact own_shape h); refine ⟨_, ?_, ⟨_, rfl, q9⟩⟩; clear q9; go_simp; first | done | exact rfl)); (case putct10 => (intro v; simp only [Act.put, List.setIfInBounds_toArray, List.set_cons_zero, List.set_cons_succ]; first | done | exact rfl)); (case' nextct10 => intro v10))
      (refine' grow_make (p := LitR I O l) (hp := fun v w w' h hb => h.below hb) hGS rfl ?wtct11 ?runct11 ?putct11 ?nextct11; (case wtct11 => rfl); (case runct11 => (intro w' hS H; (have h7 : TabI I O l v10 w' := H 10 (by decide)); (obtain ⟨u7, rfl, hu7⟩ := h7); (obtain ⟨uq, uc, rfl⟩ : ∃ q c, u7 = .slice q l.length c := by obtain ⟨_, h⟩ := hu7; exact own_shape h); clear H; refine ⟨.slice (some ⟨w'.heap.size, 0, none⟩) 1 1, w'.alloc (.cells #[.int .i64 I, .int .i64 O, .slice uq l.length uc] 77), ?_, ⟨w'.heap.size, _, rfl, Blk.new _ _ _ _ rfl, hu7.below (below_new _)⟩, below_new _⟩; (clear hS hu7; go_simp))); (case putct11 => (intro v; simp only [Act.put, List.setIfInBounds_toArray, List.set_cons_zero, List.set_cons_succ]; first | done | exact rfl)); (case' nextct11 => intro v11))
      intro w9 hb hk9
      have h8 : LitR I O l v11 w9 := hk9 11 (by decide)
      have HO9 := Lib.hid (owns_below HO.out hb)
      have hlen : (n.t.take k).length = k := by rw [List.length_take]; omega
      obtain ⟨q2, c2, w', y, hr, hown', hgrow, hy⟩ := appR (t := (I, O, l)) HO9.out HRS.out.1 h8 (by omega) (by have := hb.size; omega)
      have hkm := (KMr.out.keep hb).grownO hgrow (own_ne_blk HO9.out (KMr.out.keep hb) (by decide))
      have hbel : Below W0.heap.size W0 w' := (HBr.out.trans (hb.mono (by omega))).grown hgrow (by have := hb.size; omega) (fun g hg => by have := own_ge HO9.out g (by simpa using hg); omega)
      rw [hlen] at hr hown'
      have HRR := Lib.hid hr
      have HOWN := Lib.hid hown'
      have HKM := Lib.hid hkm
      have HBEL := Lib.hid hbel
      have HY := Lib.hid (hy.grown HO9.out (by decide) hgrow)
      have HRS2 := Lib.hid ((HRS.out.map fun u m h => (h.below hb).grown HO9.out (by decide) hgrow))
      obtain ⟨d0, d1, d2, f0, f1, f2⟩ := hkm.o3
      clear hk9 h8 hr hown' hkm hbel hy
      refine wpAny_ready (rs := [12]) (by kernel_rfl) (by simp) (AllReady.cons rfl (fun K hK => ?_) AllReady.nil)
      refine step_append_run rfl _ _ 24 rfl _ _ _ rfl rfl HRR.out ?_
      refine hK _ _ ?_
      clear hK K
      refine wpAny_ready (rs := [13]) (by kernel_rfl) (by simp) (AllReady.cons rfl (fun K hK => ?_) AllReady.nil)
      go_simp
      refine hK _ _ ?_
      clear hK K
      refine wpAny_ready (rs := [14]) (by kernel_rfl) (by simp) (AllReady.cons rfl (fun K hK => ?_) AllReady.nil)
      go_simp
      refine hK _ _ ?_
      clear hK K
      refine wpAny_done (by kernel_rfl) ?_ _
      clear d0 d1 d2 f0 f1 f2
      have HREL : Hid ((w'.setCell ⟨bm, 2, none⟩ (.slice q2 (k + 1) c2)).ownsRow W0.heap.size 77 3 (.slice q2 (k + 1) c2) (n.t.take (k + 1)).length (flatB (n.t.take (k + 1)) (us ++ [y]))) := Lib.hid (by
        rw [HT.out, List.length_append, hlen]
        exact owns_set HOWN.out HKM.out (by decide) 2 _)
      have HRS3 : Hid (RowsI (w'.setCell ⟨bm, 2, none⟩ (.slice q2 (k + 1) c2)) (n.t.take (k + 1)) (us ++ [y])) := Lib.hid (by
        rw [HT.out]
        exact (HRS2.out.snoc HY.out).map fun u m h => h.set HKM.out (by decide) _ _)
      clear hlen
      go_wp2_with fail
      go_roundw
      case rel => exact ⟨k + 1, q2, c2, us ++ [y], by omega, by go_num, HREL, HRS3, Lib.hid (HKM.out.set 2 (.slice q2 (k + 1) c2)), Lib.hid (HBEL.out.setCell hbm _), Lib.hid (owns_set (owns_grown (owns_below HVt.out hb) HO9.out (by decide) hgrow) HKM.out (by decide) 2 _), Lib.hid (owns_set (owns_grown (owns_below HAt.out hb) HO9.out (by decide) hgrow) HKM.out (by decide) 2 _)⟩
      case measure => simp [intOf]; omega
    · obtain rfl : k = n.t.length := by omega
      have HO' : Hid (wr.ownsRow W0.heap.size 77 3 (.slice q n.t.length c) n.t.length (flatB n.t us)) := Lib.hid (by have := HO.out; rwa [List.take_length] at this)
      have HRS' : Hid (RowsI wr n.t us) := Lib.hid (by have := HRS.out; rwa [List.take_length] at this)
      have hli : ¬ (n.t.length : Int) < (n.t.length : Int) := by omega
      have hkr : Blk wr (w.heap.size + 1) #[.slice none 0 0, .slice none 0 0, .slice none 0 0] 26 := KR.out.keep HBr.out
      obtain ⟨r0, r1, r2, f0, f1, f2⟩ := hkr.o3
      obtain ⟨d0, d1, d2, -, -, -⟩ := KMr.out.o3
      have lb : ∀ {b : TypeId} {s : Nat} {v : Value} {m : Nat} {xs : List Value} {W : World}, W.ownsRow W0.heap.size b s v m xs → W.ownsRow w.heap.size b s v m xs := fun h => ⟨h.1, h.2.imp id fun ⟨g, cap, cur, e1, hg, r⟩ => ⟨g, cap, cur, e1, by omega, r⟩⟩
      have st : ∀ {b : TypeId} {s : Nat} {v : Value} {m : Nat} {xs : List Value}, b ≠ 26 → wr.ownsRow W0.heap.size b s v m xs → (((wr.setCell ⟨w.heap.size + 1, 0, none⟩ (.slice q0 n.v.length c0)).setCell ⟨w.heap.size + 1, 1, none⟩ (.slice q1 n.a.length c1)).setCell ⟨w.heap.size + 1, 2, none⟩ (.slice q n.t.length c)).ownsRow w.heap.size b s v m xs :=
        fun hne h => lb (owns_set (owns_set (owns_set h hkr hne 0 _) (hkr.set 0 _) hne 1 _) ((hkr.set 0 _).set 1 _) hne 2 _)
      have HNV : Hid (OwnN (((wr.setCell ⟨w.heap.size + 1, 0, none⟩ (.slice q0 n.v.length c0)).setCell ⟨w.heap.size + 1, 1, none⟩ (.slice q1 n.a.length c1)).setCell ⟨w.heap.size + 1, 2, none⟩ (.slice q n.t.length c)) w.heap.size n (.slice q0 n.v.length c0) (.slice q1 n.a.length c1) (.slice q n.t.length c) us) := Lib.hid
        ⟨st (by decide) HVt.out, st (by decide) HAt.out, st (by decide) HO'.out, ((HRS'.out.map fun u m h => h.set hkr (by decide) 0 _).map fun u m h => h.set (hkr.set 0 _) (by decide) 1 _).map fun u m h => h.set ((hkr.set 0 _).set 1 _) (by decide) 2 _⟩
      have hlr := hkr.lt
      have HBZ : Hid (Below w.heap.size w (((wr.setCell ⟨w.heap.size + 1, 0, none⟩ (.slice q0 n.v.length c0)).setCell ⟨w.heap.size + 1, 1, none⟩ (.slice q1 n.a.length c1)).setCell ⟨w.heap.size + 1, 2, none⟩ (.slice q n.t.length c))) := Lib.hid (by
        iterate 3 (refine Below.setCell ?_ (by simp only []; omega) _)
        exact B0.out.trans (HBr.out.mono (by omega)))
      clear HO HRS st hkr
      go_wp2_with fail
      exact bodyPost_ret (v := .agg #[.slice q0 n.v.length c0, .slice q1 n.a.length c1, .slice q n.t.length c]) (by simp [results, Tryz.results55, go_sem]; go_simp) rfl ⟨q0, c0, q1, c1, q, c, rfl, ⟨us, HNV.out⟩, HBZ.out⟩

end Go.Proofs.YtlfihaajnjeaeaaGreatDoor
