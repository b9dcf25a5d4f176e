/-
  The program's own nets: what it costs to turn; walks, and what they cost.
-/
import Derived.Test.YtbdompngabokgaaDoorPNetC
import Derived.Test.YtbdompngabokgaaDoorRNetB
import Derived.Test.YtbdompngabokgaaDoorA2
namespace Go.Proofs.YtbdompngabokgaaDoor
open Go.RowKit

theorem turn_place {n : NetD} {ka kb : Nat} (ha : ka < n.a.length) (hb : kb < n.a.length) (he : n.a[ka].2.1 = n.a[kb].1) {kv kt : Nat} (hkv : kv < n.v.length) (ev : n.a[ka].2.1 = kv) (hkt : kt < n.t.length) (et : n.v[kv].2.2 = kt) :
    n.turn ka kb = turnAt n.t[kt].1 n.t[kt].2.1 n.t[kt].2.2 (placeL (insL n.a kv) ka) (placeL (outsL n.a kv) kb) := by
  unfold NetD.turn
  rw [there_at ha, there_at hb, NetGood.arc_at ka ha, NetGood.arc_at kb hb, if_neg (by simp), if_neg (by simp), if_pos he, ev, NetGood.vert_at kv hkv, et, NetGood.tab_at kt hkt]
theorem nat_of {a : Int} {k : Nat} (h0 : 0 ≤ a) (h1 : a < k) : ∃ j : Nat, a = j ∧ j < k := ⟨a.toNat, by omega, by omega⟩
/-- meet, of any two numbers: not, or of two arcs. -/
theorem nmeet_no (n : NetD) (vq aq tq : Option Addr) (vc ac tc : Nat) (a b : Int) (w : World) (h : NetS w n vq aq tq vc ac tc) (hm : ¬ (n.there a = true ∧ n.there b = true ∧ (n.arc a).2.1 = (n.arc b).1)) :
    Calls Tryd.prog 55 #[netVal n vq aq tq vc ac tc, .int .i64 a, .int .i64 b] w fun e w' => e = .returned (.bool false) ∧ Below w.heap.size w w' := by
  cases ha : n.there a with
  | false => exact nmeet_outa n vq aq tq vc ac tc a b w h ha
  | true =>
    cases hb : n.there b with
    | false => exact nmeet_outb n vq aq tq vc ac tc a b w h ha hb
    | true =>
      obtain ⟨ka, rfl, hka⟩ := there_of ha
      obtain ⟨kb, rfl, hkb⟩ := there_of hb
      refine nmeet_ne n vq aq tq vc ac tc ka kb w h hka hkb (fun he => hm ⟨ha, hb, ?_⟩)
      rw [NetGood.arc_at ka hka, NetGood.arc_at kb hkb]
      exact he

set_option maxHeartbeats 4000000 in
set_option maxRecDepth 100000 in
theorem nturn_no (n : NetD) (vq aq tq : Option Addr) (vc ac tc : Nat) (a b : Int) (w : World) (h : NetS w n vq aq tq vc ac tc) (hm : ¬ (n.there a = true ∧ n.there b = true ∧ (n.arc a).2.1 = (n.arc b).1)) :
    Calls Tryd.prog 24 #[netVal n vq aq tq vc ac tc, .int .i64 a, .int .i64 b] w fun e w' => e = .returned (.int .i64 (n.turn a b)) ∧ Below w.heap.size w w' := by
  rw [turn_apart hm]
  have HM := Lib.hid hm
  clear hm
  go_enter Tryd.func24, Tryd.ntmps24
  go_wp2_with fail
  obtain ⟨W0, hW0⟩ := named (w.alloc (.cells #[.slice vq n.v.length vc, .slice aq n.a.length ac, .slice tq n.t.length tc] 37))
  rw [← hW0]
  have B0 : Hid (Below w.heap.size w W0) := by rw [hW0]; exact Lib.hid (below_new _)
  have K0 : Hid (Blk W0 w.heap.size #[.slice vq n.v.length vc, .slice aq n.a.length ac, .slice tq n.t.length tc] 37) := by rw [hW0]; exact Lib.hid (Blk.new _ _ _ _ rfl)
  have HS := Lib.hid (h.below B0.out)
  clear h hW0
  refine (nmeet_no n vq aq tq vc ac tc a b _ HS.out HM.out).mono ?_
  rintro e w' ⟨rfl, hb⟩
  have HB := Lib.hid hb
  clear hb
  go_wp2_with fail
  go_ret
  exact ⟨rfl, B0.out.trans (HB.out.mono B0.out.size)⟩

set_option maxHeartbeats 4000000 in
set_option maxRecDepth 100000 in
theorem nturn_yes (n : NetD) (vq aq tq : Option Addr) (vc ac tc : Nat) (ka kb : Nat) (w : World) (h : NetS w n vq aq tq vc ac tc) (hg : NetGood n) (hka : ka < n.a.length) (hkb : kb < n.a.length) (heq : n.a[ka].2.1 = n.a[kb].1) (kv : Nat) (ekv : n.a[ka].2.1 = kv) (hkv : kv < n.v.length) (kt : Nat) (ekt : n.v[kv].2.2 = kt) (hkt : kt < n.t.length) :
    Calls Tryd.prog 24 #[netVal n vq aq tq vc ac tc, .int .i64 ka, .int .i64 kb] w fun e w' => e = .returned (.int .i64 (n.turn ka kb)) ∧ Below w.heap.size w w' := by
  obtain ⟨T, eT⟩ : ∃ T, n.turn ka kb = T := ⟨_, rfl⟩
  have HT : Hid (turnAt n.t[kt].1 n.t[kt].2.1 n.t[kt].2.2 (placeL (insL n.a kv) ka) (placeL (outsL n.a kv) kb) = T) := Lib.hid (by rw [← eT, turn_place hka hkb heq hkv ekv hkt ekt])
  rw [eT]
  have HG := Lib.hid hg
  have HE := Lib.hid heq
  have HKT := Lib.hid ekt
  obtain ⟨PI, ePI⟩ : ∃ P, placeL (insL n.a kv) ka = P := ⟨_, rfl⟩
  obtain ⟨PO, ePO⟩ : ∃ P, placeL (outsL n.a kv) kb = P := ⟨_, rfl⟩
  rw [ePI, ePO] at HT
  have EPI := Lib.hid ePI
  have EPO := Lib.hid ePO
  have hai : (ka : Int) < (n.a.length : Int) := by omega
  clear eT hg heq ekt ePI ePO
  go_enter Tryd.func24, Tryd.ntmps24
  go_wp2_with fail
  obtain ⟨W0, hW0⟩ := named (w.alloc (.cells #[.slice vq n.v.length vc, .slice aq n.a.length ac, .slice tq n.t.length tc] 37))
  rw [← hW0]
  have B0 : Hid (Below w.heap.size w W0) := by rw [hW0]; exact Lib.hid (below_new _)
  have K0 : Hid (Blk W0 w.heap.size #[.slice vq n.v.length vc, .slice aq n.a.length ac, .slice tq n.t.length tc] 37) := by rw [hW0]; exact Lib.hid (Blk.new _ _ _ _ rfl)
  have HS := Lib.hid (h.below B0.out)
  clear h hW0
  refine (nmeet_eq n vq aq tq vc ac tc ka kb _ HS.out hka hkb HE.out).mono ?_
  rintro e w1 ⟨rfl, hb⟩
  have K1 := Lib.hid (K0.out.keep hb)
  have HS1 := Lib.hid (HS.out.below hb)
  have B1 := Lib.hid (B0.out.trans (hb.mono B0.out.size))
  clear hb B0 K0 HS
  obtain ⟨c0, c1, c2, -, -, -⟩ := K1.out.o3
  obtain ⟨b, o, rfl, -, xa, -⟩ := HS1.out.a.at hka
  have hbb := World.block_lt_of_cell? w1 _ xa
  rw [ekv] at xa
  go_wp2_with fail
  clear c0 c1 c2 xa hbb
  have hGS : Grows (fun w' => Below w1.heap.size w1 w') := Grows.below w1
  refine' wp_growL _ (fun w' => Below w1.heap.size w1 w') [[], [], [], [], [2, 3], [], [4, 5], [], [], [7, 8], [], [9, 10], [0, 1, 6, 11], [12]] (Fact.lit _ :: Fact.lit _ :: Fact.lit _ :: Fact.lit _ :: Fact.prop _ _ :: Fact.lit _ :: Fact.lit _ :: Fact.lit _ :: Fact.lit _ :: Fact.prop _ _ :: Fact.lit _ :: Fact.lit _ :: Fact.lit _ :: Fact.lit _ :: []) (by kernel_rfl) rfl (by kernel_rfl) (Below.refl _ _).drew ?seqturn
  case' seqturn => skip
  (first | (refine' grow_skip rfl ?wt326 ?put326 ?next326; (case wt326 => rfl)) | (refine' grow_lit rfl ?wt326 ?run326 ?put326 ?next326; (case wt326 => rfl); (case run326 => (intro w' hS H; clear H; (obtain ⟨c0, c1, c2, -, -, -⟩ := (K1.out.keep hS).o3); clear hS; go_simp; first | done | exact rfl)))); (case put326 => (simp only [Act.put, List.setIfInBounds_toArray, List.set_cons_zero, List.set_cons_succ]; first | done | exact rfl)); (case' next326 => skip)
  (first | (refine' grow_skip rfl ?wt327 ?put327 ?next327; (case wt327 => rfl)) | (refine' grow_lit rfl ?wt327 ?run327 ?put327 ?next327; (case wt327 => rfl); (case run327 => (intro w' hS H; clear H; (obtain ⟨c0, c1, c2, -, -, -⟩ := (K1.out.keep hS).o3); clear hS; go_simp; first | done | exact rfl)))); (case put327 => (simp only [Act.put, List.setIfInBounds_toArray, List.set_cons_zero, List.set_cons_succ]; first | done | exact rfl)); (case' next327 => skip)
  (first | (refine' grow_skip rfl ?wt328 ?put328 ?next328; (case wt328 => rfl)) | (refine' grow_lit rfl ?wt328 ?run328 ?put328 ?next328; (case wt328 => rfl); (case run328 => (intro w' hS H; clear H; (obtain ⟨c0, c1, c2, -, -, -⟩ := (K1.out.keep hS).o3); clear hS; go_simp; first | done | exact rfl)))); (case put328 => (simp only [Act.put, List.setIfInBounds_toArray, List.set_cons_zero, List.set_cons_succ]; first | done | exact rfl)); (case' next328 => skip)
  (first | (refine' grow_skip rfl ?wt329 ?put329 ?next329; (case wt329 => rfl)) | (refine' grow_lit rfl ?wt329 ?run329 ?put329 ?next329; (case wt329 => rfl); (case run329 => (intro w' hS H; clear H; (obtain ⟨c0, c1, c2, -, -, -⟩ := (K1.out.keep hS).o3); clear hS; go_simp; first | done | exact rfl)))); (case put329 => (simp only [Act.put, List.setIfInBounds_toArray, List.set_cons_zero, List.set_cons_succ]; first | done | exact rfl)); (case' next329 => skip)
  (refine' grow_callP (p := fun v w => I64s w v (insL n.a kv)) (hp := fun v w w' h hb => h.below hb) rfl Tryd.func20 (by kernel_rfl) rfl hGS rfl ?wt394 ?run394 ?put394 ?next394; (case wt394 => rfl); (case run394 => (intro w' hS H; exact (nins_any n _ _ _ vc ac tc kv w' (HS1.out.below hS) HG.out).mono (fun e w2 ⟨v, h1, h2, h3⟩ => ⟨v, h1, h2, h3⟩))); (case put394 => (intro v; simp only [Act.put, List.setIfInBounds_toArray, List.set_cons_zero, List.set_cons_succ]; first | done | exact rfl)); (case' next394 => intro v4))
  (first | (refine' grow_skip rfl ?wt330 ?put330 ?next330; (case wt330 => rfl)) | (refine' grow_lit rfl ?wt330 ?run330 ?put330 ?next330; (case wt330 => rfl); (case run330 => (intro w' hS H; clear H; (obtain ⟨c0, c1, c2, -, -, -⟩ := (K1.out.keep hS).o3); clear hS; go_simp; first | done | exact rfl)))); (case put330 => (simp only [Act.put, List.setIfInBounds_toArray, List.set_cons_zero, List.set_cons_succ]; first | done | exact rfl)); (case' next330 => skip)
  (refine' grow_call (u := .int .i64 PI) rfl Tryd.func57 (by kernel_rfl) rfl hGS rfl ?wt395 ?run395 ?put395 ?next395; (case wt395 => rfl); (case run395 => (intro w' hS H; exact (nindex_any v4 (insL n.a kv) ka w' (H 4 (by decide))).mono (fun e w2 h => ⟨h.1.trans (by rw [EPI.out]), h.2 ▸ Below.refl _ _⟩))); (case put395 => (simp only [Act.put, List.setIfInBounds_toArray, List.set_cons_zero, List.set_cons_succ]; first | done | exact rfl)); (case' next395 => skip))
  (first | (refine' grow_skip rfl ?wt331 ?put331 ?next331; (case wt331 => rfl)) | (refine' grow_lit rfl ?wt331 ?run331 ?put331 ?next331; (case wt331 => rfl); (case run331 => (intro w' hS H; clear H; (obtain ⟨c0, c1, c2, -, -, -⟩ := (K1.out.keep hS).o3); clear hS; go_simp; first | done | exact rfl)))); (case put331 => (simp only [Act.put, List.setIfInBounds_toArray, List.set_cons_zero, List.set_cons_succ]; first | done | exact rfl)); (case' next331 => skip)
  (first | (refine' grow_skip rfl ?wt332 ?put332 ?next332; (case wt332 => rfl)) | (refine' grow_lit rfl ?wt332 ?run332 ?put332 ?next332; (case wt332 => rfl); (case run332 => (intro w' hS H; clear H; (obtain ⟨c0, c1, c2, -, -, -⟩ := (K1.out.keep hS).o3); clear hS; go_simp; first | done | exact rfl)))); (case put332 => (simp only [Act.put, List.setIfInBounds_toArray, List.set_cons_zero, List.set_cons_succ]; first | done | exact rfl)); (case' next332 => skip)
  (refine' grow_callP (p := fun v w => I64s w v (outsL n.a kv)) (hp := fun v w w' h hb => h.below hb) rfl Tryd.func22 (by kernel_rfl) rfl hGS rfl ?wt396 ?run396 ?put396 ?next396; (case wt396 => rfl); (case run396 => (intro w' hS H; exact (nouts_any n _ _ _ vc ac tc kv w' (HS1.out.below hS) HG.out).mono (fun e w2 ⟨v, h1, h2, h3⟩ => ⟨v, h1, h2, h3⟩))); (case put396 => (intro v; simp only [Act.put, List.setIfInBounds_toArray, List.set_cons_zero, List.set_cons_succ]; first | done | exact rfl)); (case' next396 => intro v9))
  (first | (refine' grow_skip rfl ?wt333 ?put333 ?next333; (case wt333 => rfl)) | (refine' grow_lit rfl ?wt333 ?run333 ?put333 ?next333; (case wt333 => rfl); (case run333 => (intro w' hS H; clear H; (obtain ⟨c0, c1, c2, -, -, -⟩ := (K1.out.keep hS).o3); clear hS; go_simp; first | done | exact rfl)))); (case put333 => (simp only [Act.put, List.setIfInBounds_toArray, List.set_cons_zero, List.set_cons_succ]; first | done | exact rfl)); (case' next333 => skip)
  (refine' grow_call (u := .int .i64 PO) rfl Tryd.func57 (by kernel_rfl) rfl hGS rfl ?wt397 ?run397 ?put397 ?next397; (case wt397 => rfl); (case run397 => (intro w' hS H; exact (nindex_any v9 (outsL n.a kv) kb w' (H 9 (by decide))).mono (fun e w2 h => ⟨h.1.trans (by rw [EPO.out]), h.2 ▸ Below.refl _ _⟩))); (case put397 => (simp only [Act.put, List.setIfInBounds_toArray, List.set_cons_zero, List.set_cons_succ]; first | done | exact rfl)); (case' next397 => skip))
  (refine' grow_call (u := .int .i64 T) rfl Tryd.func56 (by kernel_rfl) rfl hGS rfl ?wt398 ?run398 ?put398 ?next398; (case wt398 => rfl); (case run398 => (intro w' hS H; exact nbend_is n _ _ _ vc ac tc kv kt PI PO T w' (HS1.out.below hS) hkv HKT.out hkt (HG.out.tabs kt hkt) HT.out)); (case put398 => (simp only [Act.put, List.setIfInBounds_toArray, List.set_cons_zero, List.set_cons_succ]; first | done | exact rfl)); (case' next398 => skip))
  (first | (refine' grow_skip rfl ?wt334 ?put334 ?next334; (case wt334 => rfl)) | (refine' grow_lit rfl ?wt334 ?run334 ?put334 ?next334; (case wt334 => rfl); (case run334 => (intro w' hS H; clear H; (obtain ⟨c0, c1, c2, -, -, -⟩ := (K1.out.keep hS).o3); clear hS; go_simp; first | done | exact rfl)))); (case put334 => (simp only [Act.put, List.setIfInBounds_toArray, List.set_cons_zero, List.set_cons_succ]; first | done | exact rfl)); (case' next334 => skip)
  intro w2 hb _
  have HB2 := Lib.hid hb
  clear hb hGS
  go_wp2_with fail
  go_ret
  exact ⟨rfl, B1.out.trans (HB2.out.mono B1.out.size)⟩
/-- The program's own Turn, of a net that may be. -/
theorem nturn_any (n : NetD) (vq aq tq : Option Addr) (vc ac tc : Nat) (a b : Int) (w : World) (h : NetS w n vq aq tq vc ac tc) (hg : NetGood n) :
    Calls Tryd.prog 24 #[netVal n vq aq tq vc ac tc, .int .i64 a, .int .i64 b] w fun e w' => e = .returned (.int .i64 (n.turn a b)) ∧ Below w.heap.size w w' := by
  by_cases hm : n.there a = true ∧ n.there b = true ∧ (n.arc a).2.1 = (n.arc b).1
  · obtain ⟨ha, hb, he⟩ := hm
    obtain ⟨ka, rfl, hka⟩ := there_of ha
    obtain ⟨kb, rfl, hkb⟩ := there_of hb
    rw [NetGood.arc_at ka hka, NetGood.arc_at kb hkb] at he
    obtain ⟨-, -, g0, g1, -⟩ := hg.arcs ka hka
    obtain ⟨kv, ekv, hkv⟩ := nat_of g0 g1
    obtain ⟨-, -, g2, g3⟩ := hg.verts kv hkv
    obtain ⟨kt, ekt, hkt⟩ := nat_of g2 g3
    exact nturn_yes n vq aq tq vc ac tc ka kb w h hg hka hkb he kv ekv hkv kt ekt hkt
  · exact nturn_no n vq aq tq vc ac tc a b w h hm

theorem nopen_is (n : NetD) (vq aq tq : Option Addr) (vc ac tc : Nat) (a : Int) (w : World) (h : NetS w n vq aq tq vc ac tc) :
    Calls Tryd.prog 80 #[netVal n vq aq tq vc ac tc, .int .i64 a] w fun e w' => e = .returned (.bool (n.there a && decide ((n.arc a).2.2 ≠ 1152921504606846976))) ∧ Below w.heap.size w w' := by
  cases ha : n.there a with
  | false => exact nopen_out n vq aq tq vc ac tc a w ha
  | true =>
    obtain ⟨k, rfl, hk⟩ := there_of ha
    rw [NetGood.arc_at k hk]
    exact nopen_in n vq aq tq vc ac tc k _ w h hk rfl
theorem walk_nil (n : NetD) : n.walk [] = false ∧ n.cost [] = 1152921504606846976 := by
  have : n.walk [] = false := by simp [NetD.walk]
  exact ⟨this, by unfold NetD.cost; rw [if_neg (by rw [this]; simp)]⟩
/-- A number that may not stand there. -/
theorem walk_bad {n : NetD} {l : List Int} {k : Nat} (h : n.stepOK l k = false) (hk : k < l.length) : n.walk l = false ∧ n.cost l = 1152921504606846976 := by
  have : n.walk l = false := by unfold NetD.walk; rw [NetD.walkTo_not h hk]; rfl
  exact ⟨this, by unfold NetD.cost; rw [if_neg (by rw [this]; simp)]⟩
theorem walk_good {n : NetD} {l : List Int} (h : n.walkTo l l.length = true) (hl : 0 < l.length) : n.walk l = true ∧ n.cost l = n.costTo l l.length := by
  have : n.walk l = true := by unfold NetD.walk; rw [h]; simp [hl]
  exact ⟨this, by unfold NetD.cost; rw [if_pos this]⟩

set_option maxHeartbeats 4000000 in
set_option maxRecDepth 100000 in
theorem follow_nil (n : NetD) (vq aq tq : Option Addr) (vc ac tc : Nat) (q : Option Addr) (c : Nat) (w : World) :
    Calls Tryd.prog 61 #[netVal n vq aq tq vc ac tc, .slice q 0 c] w fun e w' => e = .returned (.tuple #[.int .i64 (n.cost []), .bool (n.walk [])]) ∧ Below w.heap.size w w' := by
  rw [(walk_nil n).1, (walk_nil n).2]
  go_enter Tryd.func61, Tryd.ntmps61
  go_wp2_with fail
  obtain ⟨W0, hW0⟩ := named (w.alloc (.cells #[.slice vq n.v.length vc, .slice aq n.a.length ac, .slice tq n.t.length tc] 37))
  rw [← hW0]
  have B0 : Hid (Below w.heap.size w W0) := by rw [hW0]; exact Lib.hid (below_new _)
  have K0 : Hid (Blk W0 w.heap.size #[.slice vq n.v.length vc, .slice aq n.a.length ac, .slice tq n.t.length tc] 37) := by rw [hW0]; exact Lib.hid (Blk.new _ _ _ _ rfl)
  clear hW0
  have hGS : Grows (fun w' => Below W0.heap.size W0 w') := Grows.below W0
  refine' wp_growL _ (fun w' => Below W0.heap.size W0 w') [[], [0], [1], [2], [3], [3], [3, 5], [3, 6], [3, 4, 7], [3, 8], [3, 9]] (Fact.lit _ :: Fact.lit _ :: Fact.lit _ :: Fact.lit _ :: Fact.lit _ :: Fact.lit _ :: Fact.lit _ :: Fact.lit _ :: Fact.lit _ :: Fact.lit _ :: Fact.lit _ :: []) (by kernel_rfl) rfl (by kernel_rfl) (Below.refl _ _).drew ?seqfnil
  case' seqfnil => skip
  (first | (refine' grow_skip rfl ?wt335 ?put335 ?next335; (case wt335 => rfl)) | (refine' grow_lit rfl ?wt335 ?run335 ?put335 ?next335; (case wt335 => rfl); (case run335 => (intro w' hS H; clear H; (obtain ⟨c0, c1, c2, -, -, -⟩ := (K0.out.keep hS).o3); clear hS; go_simp; first | done | exact rfl)))); (case put335 => (simp only [Act.put, List.setIfInBounds_toArray, List.set_cons_zero, List.set_cons_succ]; first | done | exact rfl)); (case' next335 => skip)
  (first | (refine' grow_skip rfl ?wt336 ?put336 ?next336; (case wt336 => rfl)) | (refine' grow_lit rfl ?wt336 ?run336 ?put336 ?next336; (case wt336 => rfl); (case run336 => (intro w' hS H; clear H; (obtain ⟨c0, c1, c2, -, -, -⟩ := (K0.out.keep hS).o3); clear hS; go_simp; first | done | exact rfl)))); (case put336 => (simp only [Act.put, List.setIfInBounds_toArray, List.set_cons_zero, List.set_cons_succ]; first | done | exact rfl)); (case' next336 => skip)
  (first | (refine' grow_skip rfl ?wt337 ?put337 ?next337; (case wt337 => rfl)) | (refine' grow_lit rfl ?wt337 ?run337 ?put337 ?next337; (case wt337 => rfl); (case run337 => (intro w' hS H; clear H; (obtain ⟨c0, c1, c2, -, -, -⟩ := (K0.out.keep hS).o3); clear hS; go_simp; first | done | exact rfl)))); (case put337 => (simp only [Act.put, List.setIfInBounds_toArray, List.set_cons_zero, List.set_cons_succ]; first | done | exact rfl)); (case' next337 => skip)
  (first | (refine' grow_skip rfl ?wt338 ?put338 ?next338; (case wt338 => rfl)) | (refine' grow_lit rfl ?wt338 ?run338 ?put338 ?next338; (case wt338 => rfl); (case run338 => (intro w' hS H; clear H; (obtain ⟨c0, c1, c2, -, -, -⟩ := (K0.out.keep hS).o3); clear hS; go_simp; first | done | exact rfl)))); (case put338 => (simp only [Act.put, List.setIfInBounds_toArray, List.set_cons_zero, List.set_cons_succ]; first | done | exact rfl)); (case' next338 => skip)
  (first | (refine' grow_skip rfl ?wt339 ?put339 ?next339; (case wt339 => rfl)) | (refine' grow_lit rfl ?wt339 ?run339 ?put339 ?next339; (case wt339 => rfl); (case run339 => (intro w' hS H; clear H; (obtain ⟨c0, c1, c2, -, -, -⟩ := (K0.out.keep hS).o3); clear hS; go_simp; first | done | exact rfl)))); (case put339 => (simp only [Act.put, List.setIfInBounds_toArray, List.set_cons_zero, List.set_cons_succ]; first | done | exact rfl)); (case' next339 => skip)
  (first | (refine' grow_skip rfl ?wt340 ?put340 ?next340; (case wt340 => rfl)) | (refine' grow_lit rfl ?wt340 ?run340 ?put340 ?next340; (case wt340 => rfl); (case run340 => (intro w' hS H; clear H; (obtain ⟨c0, c1, c2, -, -, -⟩ := (K0.out.keep hS).o3); clear hS; go_simp; first | done | exact rfl)))); (case put340 => (simp only [Act.put, List.setIfInBounds_toArray, List.set_cons_zero, List.set_cons_succ]; first | done | exact rfl)); (case' next340 => skip)
  (first | (refine' grow_skip rfl ?wt341 ?put341 ?next341; (case wt341 => rfl)) | (refine' grow_lit rfl ?wt341 ?run341 ?put341 ?next341; (case wt341 => rfl); (case run341 => (intro w' hS H; clear H; (obtain ⟨c0, c1, c2, -, -, -⟩ := (K0.out.keep hS).o3); clear hS; go_simp; first | done | exact rfl)))); (case put341 => (simp only [Act.put, List.setIfInBounds_toArray, List.set_cons_zero, List.set_cons_succ]; first | done | exact rfl)); (case' next341 => skip)
  (first | (refine' grow_skip rfl ?wt342 ?put342 ?next342; (case wt342 => rfl)) | (refine' grow_lit rfl ?wt342 ?run342 ?put342 ?next342; (case wt342 => rfl); (case run342 => (intro w' hS H; clear H; (obtain ⟨c0, c1, c2, -, -, -⟩ := (K0.out.keep hS).o3); clear hS; go_simp; first | done | exact rfl)))); (case put342 => (simp only [Act.put, List.setIfInBounds_toArray, List.set_cons_zero, List.set_cons_succ]; first | done | exact rfl)); (case' next342 => skip)
  (first | (refine' grow_skip rfl ?wt343 ?put343 ?next343; (case wt343 => rfl)) | (refine' grow_lit rfl ?wt343 ?run343 ?put343 ?next343; (case wt343 => rfl); (case run343 => (intro w' hS H; clear H; (obtain ⟨c0, c1, c2, -, -, -⟩ := (K0.out.keep hS).o3); clear hS; go_simp; first | done | exact rfl)))); (case put343 => (simp only [Act.put, List.setIfInBounds_toArray, List.set_cons_zero, List.set_cons_succ]; first | done | exact rfl)); (case' next343 => skip)
  (first | (refine' grow_skip rfl ?wt344 ?put344 ?next344; (case wt344 => rfl)) | (refine' grow_lit rfl ?wt344 ?run344 ?put344 ?next344; (case wt344 => rfl); (case run344 => (intro w' hS H; clear H; (obtain ⟨c0, c1, c2, -, -, -⟩ := (K0.out.keep hS).o3); clear hS; go_simp; first | done | exact rfl)))); (case put344 => (simp only [Act.put, List.setIfInBounds_toArray, List.set_cons_zero, List.set_cons_succ]; first | done | exact rfl)); (case' next344 => skip)
  (first | (refine' grow_skip rfl ?wt345 ?put345 ?next345; (case wt345 => rfl)) | (refine' grow_lit rfl ?wt345 ?run345 ?put345 ?next345; (case wt345 => rfl); (case run345 => (intro w' hS H; clear H; (obtain ⟨c0, c1, c2, -, -, -⟩ := (K0.out.keep hS).o3); clear hS; go_simp; first | done | exact rfl)))); (case put345 => (simp only [Act.put, List.setIfInBounds_toArray, List.set_cons_zero, List.set_cons_succ]; first | done | exact rfl)); (case' next345 => skip)
  intro w1 hb _
  have HB1 := Lib.hid hb
  clear hb hGS
  go_wp2_with fail
  go_ret2
  exact ⟨rfl, B0.out.trans (HB1.out.mono B0.out.size)⟩


set_option maxHeartbeats 4000000 in
set_option maxRecDepth 100000 in
theorem follow_shut (n : NetD) (vq aq tq : Option Addr) (vc ac tc : Nat) (b o c : Nat) (l : List Int) (w : World) (h : NetS w n vq aq tq vc ac tc) (hl : 0 < l.length) (hc : ∀ i (h : i < l.length), w.cell? ⟨b, o + i, none⟩ = some (.int .i64 l[i])) (hst : n.stepOK l 0 = false) :
    Calls Tryd.prog 61 #[netVal n vq aq tq vc ac tc, .slice (some ⟨b, o, none⟩) l.length c] w fun e w' => e = .returned (.tuple #[.int .i64 (n.cost l), .bool (n.walk l)]) ∧ Below w.heap.size w w' := by
  rw [(walk_bad hst hl).1, (walk_bad hst hl).2]
  obtain ⟨m, hm⟩ : ∃ m, l.length = m + 1 := ⟨l.length - 1, by omega⟩
  have g0 := hc 0 (by omega)
  rw [Nat.add_zero] at g0
  have HC := Lib.hid hc
  have HM := Lib.hid hm
  obtain ⟨A0, eA0⟩ : ∃ A, l[0] = A := ⟨_, rfl⟩
  rw [eA0] at g0
  rw [stepOK_of hl eA0] at hst
  have hop : (n.there A0 && decide ((n.arc A0).2.2 ≠ 1152921504606846976)) = false := by simpa using hst
  have HOP := Lib.hid hop
  have HG0 := Lib.hid g0
  have hb0 := World.block_lt_of_cell? w _ g0
  rw [hm]
  have hz : (((m + 1 : Nat) : Int) == 0) = false := by simp; omega
  clear hst hop eA0 g0 hc
  go_enter Tryd.func61, Tryd.ntmps61
  go_wp2_with fail
  obtain ⟨W0, hW0⟩ := named (w.alloc (.cells #[.slice vq n.v.length vc, .slice aq n.a.length ac, .slice tq n.t.length tc] 37))
  rw [← hW0]
  have B0 : Hid (Below w.heap.size w W0) := by rw [hW0]; exact Lib.hid (below_new _)
  have K0 : Hid (Blk W0 w.heap.size #[.slice vq n.v.length vc, .slice aq n.a.length ac, .slice tq n.t.length tc] 37) := by rw [hW0]; exact Lib.hid (Blk.new _ _ _ _ rfl)
  have HS := Lib.hid (h.below B0.out)
  clear h hW0
  have hGS : Grows (fun w' => Below W0.heap.size W0 w') := Grows.below W0
  refine' wp_growL _ (fun w' => Below W0.heap.size W0 w') [[], [0], [1], [2], [3], [3], [3, 5], [3, 6], [3, 4, 7], [3, 8], [3, 9]] (Fact.lit _ :: Fact.lit _ :: Fact.lit _ :: Fact.lit _ :: Fact.lit _ :: Fact.lit _ :: Fact.lit _ :: Fact.lit _ :: Fact.lit _ :: Fact.lit _ :: Fact.lit _ :: []) (by kernel_rfl) rfl (by kernel_rfl) (Below.refl _ _).drew ?seqfshut
  case' seqfshut => skip
  (first | (refine' grow_skip rfl ?wt346 ?put346 ?next346; (case wt346 => rfl)) | (refine' grow_lit rfl ?wt346 ?run346 ?put346 ?next346; (case wt346 => rfl); (case run346 => (intro w' hS H; clear H; (obtain ⟨c0, c1, c2, -, -, -⟩ := (K0.out.keep hS).o3); (have g0 := keep (B0.out.trans (hS.mono B0.out.size)) HG0.out); (have hi0 : (0 : Int) < ((m + 1 : Nat) : Int) := by omega); clear hS; go_simp; first | done | exact rfl)))); (case put346 => (simp only [Act.put, List.setIfInBounds_toArray, List.set_cons_zero, List.set_cons_succ]; first | done | exact rfl)); (case' next346 => skip)
  (first | (refine' grow_skip rfl ?wt347 ?put347 ?next347; (case wt347 => rfl)) | (refine' grow_lit rfl ?wt347 ?run347 ?put347 ?next347; (case wt347 => rfl); (case run347 => (intro w' hS H; clear H; (obtain ⟨c0, c1, c2, -, -, -⟩ := (K0.out.keep hS).o3); (have g0 := keep (B0.out.trans (hS.mono B0.out.size)) HG0.out); (have hi0 : (0 : Int) < ((m + 1 : Nat) : Int) := by omega); clear hS; go_simp; first | done | exact rfl)))); (case put347 => (simp only [Act.put, List.setIfInBounds_toArray, List.set_cons_zero, List.set_cons_succ]; first | done | exact rfl)); (case' next347 => skip)
  (first | (refine' grow_skip rfl ?wt348 ?put348 ?next348; (case wt348 => rfl)) | (refine' grow_lit rfl ?wt348 ?run348 ?put348 ?next348; (case wt348 => rfl); (case run348 => (intro w' hS H; clear H; (obtain ⟨c0, c1, c2, -, -, -⟩ := (K0.out.keep hS).o3); (have g0 := keep (B0.out.trans (hS.mono B0.out.size)) HG0.out); (have hi0 : (0 : Int) < ((m + 1 : Nat) : Int) := by omega); clear hS; go_simp; first | done | exact rfl)))); (case put348 => (simp only [Act.put, List.setIfInBounds_toArray, List.set_cons_zero, List.set_cons_succ]; first | done | exact rfl)); (case' next348 => skip)
  (first | (refine' grow_skip rfl ?wt349 ?put349 ?next349; (case wt349 => rfl)) | (refine' grow_lit rfl ?wt349 ?run349 ?put349 ?next349; (case wt349 => rfl); (case run349 => (intro w' hS H; clear H; (obtain ⟨c0, c1, c2, -, -, -⟩ := (K0.out.keep hS).o3); (have g0 := keep (B0.out.trans (hS.mono B0.out.size)) HG0.out); (have hi0 : (0 : Int) < ((m + 1 : Nat) : Int) := by omega); clear hS; go_simp; first | done | exact rfl)))); (case put349 => (simp only [Act.put, List.setIfInBounds_toArray, List.set_cons_zero, List.set_cons_succ]; first | done | exact rfl)); (case' next349 => skip)
  (first | (refine' grow_skip rfl ?wt350 ?put350 ?next350; (case wt350 => rfl)) | (refine' grow_lit rfl ?wt350 ?run350 ?put350 ?next350; (case wt350 => rfl); (case run350 => (intro w' hS H; clear H; (obtain ⟨c0, c1, c2, -, -, -⟩ := (K0.out.keep hS).o3); (have g0 := keep (B0.out.trans (hS.mono B0.out.size)) HG0.out); (have hi0 : (0 : Int) < ((m + 1 : Nat) : Int) := by omega); clear hS; go_simp; first | done | exact rfl)))); (case put350 => (simp only [Act.put, List.setIfInBounds_toArray, List.set_cons_zero, List.set_cons_succ]; first | done | exact rfl)); (case' next350 => skip)
  (first | (refine' grow_skip rfl ?wt351 ?put351 ?next351; (case wt351 => rfl)) | (refine' grow_lit rfl ?wt351 ?run351 ?put351 ?next351; (case wt351 => rfl); (case run351 => (intro w' hS H; clear H; (obtain ⟨c0, c1, c2, -, -, -⟩ := (K0.out.keep hS).o3); (have g0 := keep (B0.out.trans (hS.mono B0.out.size)) HG0.out); (have hi0 : (0 : Int) < ((m + 1 : Nat) : Int) := by omega); clear hS; go_simp; first | done | exact rfl)))); (case put351 => (simp only [Act.put, List.setIfInBounds_toArray, List.set_cons_zero, List.set_cons_succ]; first | done | exact rfl)); (case' next351 => skip)
  (first | (refine' grow_skip rfl ?wt352 ?put352 ?next352; (case wt352 => rfl)) | (refine' grow_lit rfl ?wt352 ?run352 ?put352 ?next352; (case wt352 => rfl); (case run352 => (intro w' hS H; clear H; (obtain ⟨c0, c1, c2, -, -, -⟩ := (K0.out.keep hS).o3); (have g0 := keep (B0.out.trans (hS.mono B0.out.size)) HG0.out); (have hi0 : (0 : Int) < ((m + 1 : Nat) : Int) := by omega); clear hS; go_simp; first | done | exact rfl)))); (case put352 => (simp only [Act.put, List.setIfInBounds_toArray, List.set_cons_zero, List.set_cons_succ]; first | done | exact rfl)); (case' next352 => skip)
  (first | (refine' grow_skip rfl ?wt353 ?put353 ?next353; (case wt353 => rfl)) | (refine' grow_lit rfl ?wt353 ?run353 ?put353 ?next353; (case wt353 => rfl); (case run353 => (intro w' hS H; clear H; (obtain ⟨c0, c1, c2, -, -, -⟩ := (K0.out.keep hS).o3); (have g0 := keep (B0.out.trans (hS.mono B0.out.size)) HG0.out); (have hi0 : (0 : Int) < ((m + 1 : Nat) : Int) := by omega); clear hS; go_simp; first | done | exact rfl)))); (case put353 => (simp only [Act.put, List.setIfInBounds_toArray, List.set_cons_zero, List.set_cons_succ]; first | done | exact rfl)); (case' next353 => skip)
  (refine' grow_call (u := .bool false) rfl Tryd.func80 (by kernel_rfl) rfl hGS rfl ?wt399 ?run399 ?put399 ?next399; (case wt399 => rfl); (case run399 => (intro w' hS H; exact (nopen_is n _ _ _ vc ac tc A0 w' (HS.out.below hS)).mono (fun e w2 h => ⟨h.1.trans (by rw [HOP.out]), h.2⟩))); (case put399 => (simp only [Act.put, List.setIfInBounds_toArray, List.set_cons_zero, List.set_cons_succ]; first | done | exact rfl)); (case' next399 => skip))
  (first | (refine' grow_skip rfl ?wt354 ?put354 ?next354; (case wt354 => rfl)) | (refine' grow_lit rfl ?wt354 ?run354 ?put354 ?next354; (case wt354 => rfl); (case run354 => (intro w' hS H; clear H; (obtain ⟨c0, c1, c2, -, -, -⟩ := (K0.out.keep hS).o3); (have g0 := keep (B0.out.trans (hS.mono B0.out.size)) HG0.out); (have hi0 : (0 : Int) < ((m + 1 : Nat) : Int) := by omega); clear hS; go_simp; first | done | exact rfl)))); (case put354 => (simp only [Act.put, List.setIfInBounds_toArray, List.set_cons_zero, List.set_cons_succ]; first | done | exact rfl)); (case' next354 => skip)
  (first | (refine' grow_skip rfl ?wt355 ?put355 ?next355; (case wt355 => rfl)) | (refine' grow_lit rfl ?wt355 ?run355 ?put355 ?next355; (case wt355 => rfl); (case run355 => (intro w' hS H; clear H; (obtain ⟨c0, c1, c2, -, -, -⟩ := (K0.out.keep hS).o3); (have g0 := keep (B0.out.trans (hS.mono B0.out.size)) HG0.out); (have hi0 : (0 : Int) < ((m + 1 : Nat) : Int) := by omega); clear hS; go_simp; first | done | exact rfl)))); (case put355 => (simp only [Act.put, List.setIfInBounds_toArray, List.set_cons_zero, List.set_cons_succ]; first | done | exact rfl)); (case' next355 => skip)
  intro w1 hb _
  have HB1 := Lib.hid hb
  clear hb hGS
  go_wp2_with fail
  go_ret2
  exact ⟨rfl, B0.out.trans (HB1.out.mono B0.out.size)⟩


theorem getD_at {l : List Int} {k : Nat} (h : k < l.length) : l.getD k 0 = l[k] := by rw [List.getD_eq_getElem?_getD, List.getElem?_eq_getElem h, Option.getD_some]

set_option maxHeartbeats 4000000 in
set_option maxRecDepth 100000 in
theorem follow_main (n : NetD) (vq aq tq : Option Addr) (vc ac tc : Nat) (b o c : Nat) (l : List Int) (w : World) (h : NetS w n vq aq tq vc ac tc) (hl : 0 < l.length) (hc : ∀ i (h : i < l.length), w.cell? ⟨b, o + i, none⟩ = some (.int .i64 l[i])) (hlm : l.length ≤ 1000000) (hlc : l.length ≤ c) (hl1 : 1 < l.length) (hg : NetGood n) (hst : n.stepOK l 0 = true) :
    Calls Tryd.prog 61 #[netVal n vq aq tq vc ac tc, .slice (some ⟨b, o, none⟩) l.length c] w fun e w' => e = .returned (.tuple #[.int .i64 (n.cost l), .bool (n.walk l)]) ∧ Below w.heap.size w w' := by
  obtain ⟨m, hm⟩ : ∃ m, l.length = m + 1 := ⟨l.length - 1, by omega⟩
  have g0 := hc 0 (by omega)
  rw [Nat.add_zero] at g0
  have HC := Lib.hid hc
  have HM := Lib.hid hm
  obtain ⟨A0, eA0⟩ : ∃ A, l[0] = A := ⟨_, rfl⟩
  rw [eA0] at g0
  have HST := Lib.hid hst
  rw [stepOK_of hl eA0] at hst
  have hop : (n.there A0 && decide ((n.arc A0).2.2 ≠ 1152921504606846976)) = true := by simpa using hst
  have HOP := Lib.hid hop
  have HG := Lib.hid hg
  have HG0 := Lib.hid g0
  have hb0 := World.block_lt_of_cell? w _ g0
  have hm6 : m ≤ 1000000 := by omega
  have hc1 : ¬ c = 1 := by omega
  rw [hm]
  have hz : (((m + 1 : Nat) : Int) == 0) = false := by simp; omega
  clear hst hop eA0 g0 hc hg hlc
  go_enter Tryd.func61, Tryd.ntmps61
  go_wp2_with fail
  obtain ⟨W0, hW0⟩ := named (w.alloc (.cells #[.slice vq n.v.length vc, .slice aq n.a.length ac, .slice tq n.t.length tc] 37))
  rw [← hW0]
  have B0 : Hid (Below w.heap.size w W0) := by rw [hW0]; exact Lib.hid (below_new _)
  have K0 : Hid (Blk W0 w.heap.size #[.slice vq n.v.length vc, .slice aq n.a.length ac, .slice tq n.t.length tc] 37) := by rw [hW0]; exact Lib.hid (Blk.new _ _ _ _ rfl)
  have HS := Lib.hid (h.below B0.out)
  clear h hW0
  have hGS : Grows (fun w' => Below W0.heap.size W0 w') := Grows.below W0
  refine' wp_growL _ (fun w' => Below W0.heap.size W0 w') [[], [0], [1], [2], [3], [3], [3, 5], [3, 6], [3, 4, 7], [3, 8], [3, 9]] (Fact.lit _ :: Fact.lit _ :: Fact.lit _ :: Fact.lit _ :: Fact.lit _ :: Fact.lit _ :: Fact.lit _ :: Fact.lit _ :: Fact.lit _ :: Fact.lit _ :: Fact.lit _ :: []) (by kernel_rfl) rfl (by kernel_rfl) (Below.refl _ _).drew ?seqfmain
  case' seqfmain => skip
  (first | (refine' grow_skip rfl ?wt356 ?put356 ?next356; (case wt356 => rfl)) | (refine' grow_lit rfl ?wt356 ?run356 ?put356 ?next356; (case wt356 => rfl); (case run356 => (intro w' hS H; clear H; (obtain ⟨c0, c1, c2, -, -, -⟩ := (K0.out.keep hS).o3); (have g0 := keep (B0.out.trans (hS.mono B0.out.size)) HG0.out); (have hi0 : (0 : Int) < ((m + 1 : Nat) : Int) := by omega); clear hS; go_simp; first | done | exact rfl)))); (case put356 => (simp only [Act.put, List.setIfInBounds_toArray, List.set_cons_zero, List.set_cons_succ]; first | done | exact rfl)); (case' next356 => skip)
  (first | (refine' grow_skip rfl ?wt357 ?put357 ?next357; (case wt357 => rfl)) | (refine' grow_lit rfl ?wt357 ?run357 ?put357 ?next357; (case wt357 => rfl); (case run357 => (intro w' hS H; clear H; (obtain ⟨c0, c1, c2, -, -, -⟩ := (K0.out.keep hS).o3); (have g0 := keep (B0.out.trans (hS.mono B0.out.size)) HG0.out); (have hi0 : (0 : Int) < ((m + 1 : Nat) : Int) := by omega); clear hS; go_simp; first | done | exact rfl)))); (case put357 => (simp only [Act.put, List.setIfInBounds_toArray, List.set_cons_zero, List.set_cons_succ]; first | done | exact rfl)); (case' next357 => skip)
  (first | (refine' grow_skip rfl ?wt358 ?put358 ?next358; (case wt358 => rfl)) | (refine' grow_lit rfl ?wt358 ?run358 ?put358 ?next358; (case wt358 => rfl); (case run358 => (intro w' hS H; clear H; (obtain ⟨c0, c1, c2, -, -, -⟩ := (K0.out.keep hS).o3); (have g0 := keep (B0.out.trans (hS.mono B0.out.size)) HG0.out); (have hi0 : (0 : Int) < ((m + 1 : Nat) : Int) := by omega); clear hS; go_simp; first | done | exact rfl)))); (case put358 => (simp only [Act.put, List.setIfInBounds_toArray, List.set_cons_zero, List.set_cons_succ]; first | done | exact rfl)); (case' next358 => skip)
  (first | (refine' grow_skip rfl ?wt359 ?put359 ?next359; (case wt359 => rfl)) | (refine' grow_lit rfl ?wt359 ?run359 ?put359 ?next359; (case wt359 => rfl); (case run359 => (intro w' hS H; clear H; (obtain ⟨c0, c1, c2, -, -, -⟩ := (K0.out.keep hS).o3); (have g0 := keep (B0.out.trans (hS.mono B0.out.size)) HG0.out); (have hi0 : (0 : Int) < ((m + 1 : Nat) : Int) := by omega); clear hS; go_simp; first | done | exact rfl)))); (case put359 => (simp only [Act.put, List.setIfInBounds_toArray, List.set_cons_zero, List.set_cons_succ]; first | done | exact rfl)); (case' next359 => skip)
  (first | (refine' grow_skip rfl ?wt360 ?put360 ?next360; (case wt360 => rfl)) | (refine' grow_lit rfl ?wt360 ?run360 ?put360 ?next360; (case wt360 => rfl); (case run360 => (intro w' hS H; clear H; (obtain ⟨c0, c1, c2, -, -, -⟩ := (K0.out.keep hS).o3); (have g0 := keep (B0.out.trans (hS.mono B0.out.size)) HG0.out); (have hi0 : (0 : Int) < ((m + 1 : Nat) : Int) := by omega); clear hS; go_simp; first | done | exact rfl)))); (case put360 => (simp only [Act.put, List.setIfInBounds_toArray, List.set_cons_zero, List.set_cons_succ]; first | done | exact rfl)); (case' next360 => skip)
  (first | (refine' grow_skip rfl ?wt361 ?put361 ?next361; (case wt361 => rfl)) | (refine' grow_lit rfl ?wt361 ?run361 ?put361 ?next361; (case wt361 => rfl); (case run361 => (intro w' hS H; clear H; (obtain ⟨c0, c1, c2, -, -, -⟩ := (K0.out.keep hS).o3); (have g0 := keep (B0.out.trans (hS.mono B0.out.size)) HG0.out); (have hi0 : (0 : Int) < ((m + 1 : Nat) : Int) := by omega); clear hS; go_simp; first | done | exact rfl)))); (case put361 => (simp only [Act.put, List.setIfInBounds_toArray, List.set_cons_zero, List.set_cons_succ]; first | done | exact rfl)); (case' next361 => skip)
  (first | (refine' grow_skip rfl ?wt362 ?put362 ?next362; (case wt362 => rfl)) | (refine' grow_lit rfl ?wt362 ?run362 ?put362 ?next362; (case wt362 => rfl); (case run362 => (intro w' hS H; clear H; (obtain ⟨c0, c1, c2, -, -, -⟩ := (K0.out.keep hS).o3); (have g0 := keep (B0.out.trans (hS.mono B0.out.size)) HG0.out); (have hi0 : (0 : Int) < ((m + 1 : Nat) : Int) := by omega); clear hS; go_simp; first | done | exact rfl)))); (case put362 => (simp only [Act.put, List.setIfInBounds_toArray, List.set_cons_zero, List.set_cons_succ]; first | done | exact rfl)); (case' next362 => skip)
  (first | (refine' grow_skip rfl ?wt363 ?put363 ?next363; (case wt363 => rfl)) | (refine' grow_lit rfl ?wt363 ?run363 ?put363 ?next363; (case wt363 => rfl); (case run363 => (intro w' hS H; clear H; (obtain ⟨c0, c1, c2, -, -, -⟩ := (K0.out.keep hS).o3); (have g0 := keep (B0.out.trans (hS.mono B0.out.size)) HG0.out); (have hi0 : (0 : Int) < ((m + 1 : Nat) : Int) := by omega); clear hS; go_simp; first | done | exact rfl)))); (case put363 => (simp only [Act.put, List.setIfInBounds_toArray, List.set_cons_zero, List.set_cons_succ]; first | done | exact rfl)); (case' next363 => skip)
  (refine' grow_call (u := .bool true) rfl Tryd.func80 (by kernel_rfl) rfl hGS rfl ?wt400 ?run400 ?put400 ?next400; (case wt400 => rfl); (case run400 => (intro w' hS H; exact (nopen_is n _ _ _ vc ac tc A0 w' (HS.out.below hS)).mono (fun e w2 h => ⟨h.1.trans (by rw [HOP.out]), h.2⟩))); (case put400 => (simp only [Act.put, List.setIfInBounds_toArray, List.set_cons_zero, List.set_cons_succ]; first | done | exact rfl)); (case' next400 => skip))
  (first | (refine' grow_skip rfl ?wt364 ?put364 ?next364; (case wt364 => rfl)) | (refine' grow_lit rfl ?wt364 ?run364 ?put364 ?next364; (case wt364 => rfl); (case run364 => (intro w' hS H; clear H; (obtain ⟨c0, c1, c2, -, -, -⟩ := (K0.out.keep hS).o3); (have g0 := keep (B0.out.trans (hS.mono B0.out.size)) HG0.out); (have hi0 : (0 : Int) < ((m + 1 : Nat) : Int) := by omega); clear hS; go_simp; first | done | exact rfl)))); (case put364 => (simp only [Act.put, List.setIfInBounds_toArray, List.set_cons_zero, List.set_cons_succ]; first | done | exact rfl)); (case' next364 => skip)
  (first | (refine' grow_skip rfl ?wt365 ?put365 ?next365; (case wt365 => rfl)) | (refine' grow_lit rfl ?wt365 ?run365 ?put365 ?next365; (case wt365 => rfl); (case run365 => (intro w' hS H; clear H; (obtain ⟨c0, c1, c2, -, -, -⟩ := (K0.out.keep hS).o3); (have g0 := keep (B0.out.trans (hS.mono B0.out.size)) HG0.out); (have hi0 : (0 : Int) < ((m + 1 : Nat) : Int) := by omega); clear hS; go_simp; first | done | exact rfl)))); (case put365 => (simp only [Act.put, List.setIfInBounds_toArray, List.set_cons_zero, List.set_cons_succ]; first | done | exact rfl)); (case' next365 => skip)
  intro w1 hb _
  have K1 := Lib.hid (K0.out.keep hb)
  have HS1 := Lib.hid (HS.out.below hb)
  have B1 := Lib.hid (B0.out.trans (hb.mono B0.out.size))
  clear hb hGS K0 HS B0 HG0
  obtain ⟨c0, c1, c2, -, -, -⟩ := K1.out.o3
  go_wp2_with fail
  clear c0 c1 c2
  refine (endsof_any n vq aq tq vc ac tc _ HS1.out HG.out.arcsIn HG.out.sv HG.out.sa).mono ?_
  rintro e w2 ⟨ev, rfl, ⟨bi, bo, ci, co, rfl, -, -, kx, ky⟩, hb⟩
  have KX := Lib.hid kx
  have KY := Lib.hid ky
  have HB := Lib.hid hb
  clear kx ky hb
  go_wp2_with fail
  obtain ⟨W2, hW2⟩ := named (w2.alloc (.cells #[.slice (some ⟨bi, 0, none⟩) n.v.length n.v.length, .slice (some ⟨bo, 0, none⟩) n.v.length n.v.length, .slice (some ⟨ci, 0, none⟩) n.a.length n.a.length, .slice (some ⟨co, 0, none⟩) n.a.length n.a.length] 125))
  rw [← hW2]
  have hb2 : Below w2.heap.size w2 W2 := by rw [hW2]; exact below_new _
  have hb3 := HB.out.trans (hb2.mono HB.out.size)
  have KE : Hid (Blk W2 w2.heap.size #[.slice (some ⟨bi, 0, none⟩) n.v.length n.v.length, .slice (some ⟨bo, 0, none⟩) n.v.length n.v.length, .slice (some ⟨ci, 0, none⟩) n.a.length n.a.length, .slice (some ⟨co, 0, none⟩) n.a.length n.a.length] 125) := by rw [hW2]; exact Lib.hid (Blk.new _ _ _ _ rfl)
  have KX2 := Lib.hid (KX.out.keep hb2)
  have KY2 := Lib.hid (KY.out.keep hb2)
  have KN := Lib.hid (K1.out.keep hb3)
  have HS2 := Lib.hid (HS1.out.below hb3)
  have B2 := Lib.hid (B1.out.trans (hb3.mono B1.out.size))
  have HC2 : Hid (∀ i (h : i < l.length), W2.cell? ⟨b, o + i, none⟩ = some (.int .i64 l[i])) := Lib.hid (fun i hi => keep B2.out (HC.out i hi))
  clear hb2 hb3 hW2 KX KY K1 HS1 B1 HC HB
  go_loopw [7, 8, 9, 10, 11, 28] (fun s _ _ _ _ i wr => ∃ k : Nat, k ≤ m ∧ i = .int .i64 k ∧ s = .int .i64 (n.costTo l (k + 1)) ∧ Hid (n.walkTo l (k + 1) = true) ∧ Hid (Below W2.heap.size W2 wr)) (fun _ _ _ _ _ i _ => m - (intOf i).toNat)
  case atStart =>
    refine ⟨0, Nat.zero_le _, rfl, rfl, Lib.hid ?_, Lib.hid (Below.refl _ _)⟩
    rw [NetD.walkTo_succ, HST.out]; rfl
  case round =>
    obtain ⟨k, hk, rfl, rfl, HW, HBr⟩ := hrel
    have HBW := Lib.hid (B2.out.trans (HBr.out.mono B2.out.size))
    by_cases hlt : k < m
    · have hlm2 := HM.out
      have HK1 : Hid (k < l.length) := Lib.hid (by omega)
      have HK2 : Hid (k + 1 < l.length) := Lib.hid (by omega)
      have hli : (k : Int) < (m : Int) := by omega
      have hli2 : (k : Int) < ((m + 1 : Nat) : Int) := by omega
      have x1 := keep HBr.out (HC2.out k HK1.out)
      have x2 := keep HBr.out (HC2.out (k + 1) HK2.out)
      rw [show o + (k + 1) = o + 1 + k by omega] at x2
      have hbl := World.block_lt_of_cell? wr _ x1
      obtain ⟨A, eA⟩ : ∃ A, l[k]'HK1.out = A := ⟨_, rfl⟩
      obtain ⟨B, eB⟩ : ∃ B, l[k + 1]'HK2.out = B := ⟨_, rfl⟩
      rw [eA] at x1
      rw [eB] at x2
      have EA := Lib.hid eA
      have EB := Lib.hid eB
      have hA : n.there A = true := by
        have := HW.out
        rw [NetD.walkTo_succ, Bool.and_eq_true, stepOK_of HK1.out EA.out] at this
        simp only [Bool.and_eq_true] at this
        exact this.2.1.1
      obtain ⟨ka, rfl, hka⟩ := there_of hA
      have hba : (ka : Int) < (n.a.length : Int) := by omega
      have HA := Lib.hid hA
      have KNr := Lib.hid (KN.out.keep HBr.out)
      have KEr := Lib.hid (KE.out.keep HBr.out)
      have HSr := Lib.hid (HS2.out.below HBr.out)
      have hcb : 0 ≤ n.costTo l (k + 1) ∧ n.costTo l (k + 1) ≤ 1152921504606846976 := n.costTo_lo l (k + 1)
      obtain ⟨Sm, eS⟩ : ∃ S, n.costTo l (k + 1) = S := ⟨_, rfl⟩
      have ES := Lib.hid eS
      rw [eS] at hcb
      have HCB := Lib.hid hcb
      rw [eS]
      obtain ⟨c0, c1, c2, -, -, -⟩ := KNr.out.o3
      clear eA eB eS hA hcb hlm2
      go_wp2_with fail
      clear x1 x2 c0 c1 c2
      by_cases hm2 : n.there B = true ∧ (n.arc ka).2.1 = (n.arc B).1
      · obtain ⟨hB, he⟩ := hm2
        obtain ⟨kb, rfl, hkb⟩ := there_of hB
        have hbi : (kb : Int) < (n.a.length : Int) := by omega
        have HBt := Lib.hid hB
        rw [NetGood.arc_at ka hka, NetGood.arc_at kb hkb] at he
        have HE := Lib.hid he
        clear hB he
        refine (nmeet_eq n vq aq tq vc ac tc ka kb _ HSr.out hka hkb HE.out).mono ?_
        rintro e w3 ⟨rfl, hb⟩
        have KN3 := Lib.hid (KNr.out.keep hb)
        have KE3 := Lib.hid (KEr.out.keep hb)
        have HS3 := Lib.hid (HSr.out.below hb)
        have B3 := Lib.hid (HBr.out.trans (hb.mono HBr.out.size))
        clear hb KNr KEr HSr HBr HBW
        obtain ⟨c0, c1, c2, -, -, -⟩ := KN3.out.o3
        go_wp2_with fail
        clear c0 c1 c2
        obtain ⟨Q, eQ⟩ : ∃ Q, n.a[kb].2.2 = Q := ⟨_, rfl⟩
        have EQ := Lib.hid eQ
        clear eQ
        by_cases hQ : Q = 1152921504606846976
        · refine (nopen_in n vq aq tq vc ac tc kb false _ HS3.out hkb (by rw [EQ.out, hQ]; simp)).mono ?_
          rintro e w4 ⟨rfl, hb⟩
          have B4 := Lib.hid (B2.out.trans ((B3.out.trans (hb.mono B3.out.size)).mono B2.out.size))
          clear hb
          have HR1 : Hid (n.walk l = false ∧ n.cost l = 1152921504606846976) := Lib.hid (walk_bad (k := k + 1) (by rw [stepOK_of HK2.out EB.out, Nat.add_sub_cancel, getD_at HK1.out, EA.out]; rw [HBt.out, NetGood.arc_at kb hkb, EQ.out, hQ]; simp) HK2.out)
          go_wp2_with fail
          go_ret2
          exact ⟨by rw [HR1.out.1, HR1.out.2]; rfl, B4.out⟩
        · refine (nopen_in n vq aq tq vc ac tc kb true _ HS3.out hkb (by rw [EQ.out]; simpa using hQ)).mono ?_
          rintro e w4 ⟨rfl, hb⟩
          have KNr := Lib.hid (KN3.out.keep hb)
          have KEr := Lib.hid (KE3.out.keep hb)
          have HSr := Lib.hid (HS3.out.below hb)
          have B4 := Lib.hid (B3.out.trans (hb.mono B3.out.size))
          have HQ := Lib.hid hQ
          clear hb KN3 KE3 HS3 B3 hQ
          obtain ⟨-, -, g0, g1, -⟩ := HG.out.arcs ka hka
          obtain ⟨kv, ekv, hkv⟩ := nat_of g0 g1
          obtain ⟨-, -, g2, g3⟩ := HG.out.verts kv hkv
          obtain ⟨kt, ekt, hkt⟩ := nat_of g2 g3
          obtain ⟨PI, ePI⟩ : ∃ P, inP n ka = P := ⟨_, rfl⟩
          obtain ⟨PO, ePO⟩ : ∃ P, outP n kb = P := ⟨_, rfl⟩
          obtain ⟨T, eT⟩ : ∃ T, n.turn ka kb = T := ⟨_, rfl⟩
          have HT : Hid (turnAt n.t[kt].1 n.t[kt].2.1 n.t[kt].2.2 PI PO = T) := Lib.hid (by rw [← eT, turn_meet hka hkb HE.out hkv ekv hkt ekt, ePI, ePO])
          have ET := Lib.hid eT
          have EKT := Lib.hid ekt
          have htb := turn_bd HG.out ka kb
          rw [eT] at htb
          have HTB := Lib.hid htb
          obtain ⟨ab, ao, rfl, -, xa, -⟩ := HSr.out.a.at hka
          rw [ekv] at xa
          have XA := Lib.hid xa
          have XI : Hid (w4.cell? ⟨ci, ka, none⟩ = some (.int .i64 PI)) := Lib.hid ((KX2.out.keep B4.out).cell ka ((arrC_at _ hka).trans (by rw [ePI])))
          have XO : Hid (w4.cell? ⟨co, kb, none⟩ = some (.int .i64 PO)) := Lib.hid ((KY2.out.keep B4.out).cell kb ((arrC_at _ hkb).trans (by rw [ePO])))
          have HBB := Lib.hid (World.block_lt_of_cell? w4 _ xa)
          clear g0 g1 g2 g3 ePI ePO eT ekt ekv htb xa
          go_wp2_with fail
          have hGS : Grows (fun w' => Below w4.heap.size w4 w') := Grows.below w4
          refine' wp_growL _ (fun w' => Below w4.heap.size w4 w') [[], [], [1], [], [2, 3], [4], [5], [], [7], [], [8, 9], [10], [], [12], [], [13, 14], [15], [0, 6, 11, 16], [17]] (Fact.lit _ :: Fact.lit _ :: Fact.lit _ :: Fact.lit _ :: Fact.lit _ :: Fact.lit _ :: Fact.lit _ :: Fact.lit _ :: Fact.lit _ :: Fact.lit _ :: Fact.lit _ :: Fact.lit _ :: Fact.lit _ :: Fact.lit _ :: Fact.lit _ :: Fact.lit _ :: Fact.lit _ :: Fact.lit _ :: Fact.lit _ :: []) (by kernel_rfl) rfl (by kernel_rfl) (Below.refl _ _).drew ?seqfbend
          case' seqfbend => skip
          (first | (refine' grow_skip rfl ?wt366 ?put366 ?next366; (case wt366 => rfl)) | (refine' grow_lit rfl ?wt366 ?run366 ?put366 ?next366; (case wt366 => rfl); (case run366 => (intro w' hS H; clear H; (obtain ⟨c0, c1, c2, -, -, -⟩ := (KNr.out.keep hS).o3); (obtain ⟨e0, e1, e2, e3, -, -, -, -⟩ := (KEr.out.keep hS).o4); (have xa := keep hS XA.out); (have xi := keep hS XI.out); (have xo := keep hS XO.out); (have hbb := HBB.out); clear hS; go_simp; first | done | exact rfl)))); (case put366 => (simp only [Act.put, List.setIfInBounds_toArray, List.set_cons_zero, List.set_cons_succ]; first | done | exact rfl)); (case' next366 => skip)
          (first | (refine' grow_skip rfl ?wt367 ?put367 ?next367; (case wt367 => rfl)) | (refine' grow_lit rfl ?wt367 ?run367 ?put367 ?next367; (case wt367 => rfl); (case run367 => (intro w' hS H; clear H; (obtain ⟨c0, c1, c2, -, -, -⟩ := (KNr.out.keep hS).o3); (obtain ⟨e0, e1, e2, e3, -, -, -, -⟩ := (KEr.out.keep hS).o4); (have xa := keep hS XA.out); (have xi := keep hS XI.out); (have xo := keep hS XO.out); (have hbb := HBB.out); clear hS; go_simp; first | done | exact rfl)))); (case put367 => (simp only [Act.put, List.setIfInBounds_toArray, List.set_cons_zero, List.set_cons_succ]; first | done | exact rfl)); (case' next367 => skip)
          (first | (refine' grow_skip rfl ?wt368 ?put368 ?next368; (case wt368 => rfl)) | (refine' grow_lit rfl ?wt368 ?run368 ?put368 ?next368; (case wt368 => rfl); (case run368 => (intro w' hS H; clear H; (obtain ⟨c0, c1, c2, -, -, -⟩ := (KNr.out.keep hS).o3); (obtain ⟨e0, e1, e2, e3, -, -, -, -⟩ := (KEr.out.keep hS).o4); (have xa := keep hS XA.out); (have xi := keep hS XI.out); (have xo := keep hS XO.out); (have hbb := HBB.out); clear hS; go_simp; first | done | exact rfl)))); (case put368 => (simp only [Act.put, List.setIfInBounds_toArray, List.set_cons_zero, List.set_cons_succ]; first | done | exact rfl)); (case' next368 => skip)
          (first | (refine' grow_skip rfl ?wt369 ?put369 ?next369; (case wt369 => rfl)) | (refine' grow_lit rfl ?wt369 ?run369 ?put369 ?next369; (case wt369 => rfl); (case run369 => (intro w' hS H; clear H; (obtain ⟨c0, c1, c2, -, -, -⟩ := (KNr.out.keep hS).o3); (obtain ⟨e0, e1, e2, e3, -, -, -, -⟩ := (KEr.out.keep hS).o4); (have xa := keep hS XA.out); (have xi := keep hS XI.out); (have xo := keep hS XO.out); (have hbb := HBB.out); clear hS; go_simp; first | done | exact rfl)))); (case put369 => (simp only [Act.put, List.setIfInBounds_toArray, List.set_cons_zero, List.set_cons_succ]; first | done | exact rfl)); (case' next369 => skip)
          (first | (refine' grow_skip rfl ?wt370 ?put370 ?next370; (case wt370 => rfl)) | (refine' grow_lit rfl ?wt370 ?run370 ?put370 ?next370; (case wt370 => rfl); (case run370 => (intro w' hS H; clear H; (obtain ⟨c0, c1, c2, -, -, -⟩ := (KNr.out.keep hS).o3); (obtain ⟨e0, e1, e2, e3, -, -, -, -⟩ := (KEr.out.keep hS).o4); (have xa := keep hS XA.out); (have xi := keep hS XI.out); (have xo := keep hS XO.out); (have hbb := HBB.out); clear hS; go_simp; first | done | exact rfl)))); (case put370 => (simp only [Act.put, List.setIfInBounds_toArray, List.set_cons_zero, List.set_cons_succ]; first | done | exact rfl)); (case' next370 => skip)
          (first | (refine' grow_skip rfl ?wt371 ?put371 ?next371; (case wt371 => rfl)) | (refine' grow_lit rfl ?wt371 ?run371 ?put371 ?next371; (case wt371 => rfl); (case run371 => (intro w' hS H; clear H; (obtain ⟨c0, c1, c2, -, -, -⟩ := (KNr.out.keep hS).o3); (obtain ⟨e0, e1, e2, e3, -, -, -, -⟩ := (KEr.out.keep hS).o4); (have xa := keep hS XA.out); (have xi := keep hS XI.out); (have xo := keep hS XO.out); (have hbb := HBB.out); clear hS; go_simp; first | done | exact rfl)))); (case put371 => (simp only [Act.put, List.setIfInBounds_toArray, List.set_cons_zero, List.set_cons_succ]; first | done | exact rfl)); (case' next371 => skip)
          (first | (refine' grow_skip rfl ?wt372 ?put372 ?next372; (case wt372 => rfl)) | (refine' grow_lit rfl ?wt372 ?run372 ?put372 ?next372; (case wt372 => rfl); (case run372 => (intro w' hS H; clear H; (obtain ⟨c0, c1, c2, -, -, -⟩ := (KNr.out.keep hS).o3); (obtain ⟨e0, e1, e2, e3, -, -, -, -⟩ := (KEr.out.keep hS).o4); (have xa := keep hS XA.out); (have xi := keep hS XI.out); (have xo := keep hS XO.out); (have hbb := HBB.out); clear hS; go_simp; first | done | exact rfl)))); (case put372 => (simp only [Act.put, List.setIfInBounds_toArray, List.set_cons_zero, List.set_cons_succ]; first | done | exact rfl)); (case' next372 => skip)
          (first | (refine' grow_skip rfl ?wt373 ?put373 ?next373; (case wt373 => rfl)) | (refine' grow_lit rfl ?wt373 ?run373 ?put373 ?next373; (case wt373 => rfl); (case run373 => (intro w' hS H; clear H; (obtain ⟨c0, c1, c2, -, -, -⟩ := (KNr.out.keep hS).o3); (obtain ⟨e0, e1, e2, e3, -, -, -, -⟩ := (KEr.out.keep hS).o4); (have xa := keep hS XA.out); (have xi := keep hS XI.out); (have xo := keep hS XO.out); (have hbb := HBB.out); clear hS; go_simp; first | done | exact rfl)))); (case put373 => (simp only [Act.put, List.setIfInBounds_toArray, List.set_cons_zero, List.set_cons_succ]; first | done | exact rfl)); (case' next373 => skip)
          (first | (refine' grow_skip rfl ?wt374 ?put374 ?next374; (case wt374 => rfl)) | (refine' grow_lit rfl ?wt374 ?run374 ?put374 ?next374; (case wt374 => rfl); (case run374 => (intro w' hS H; clear H; (obtain ⟨c0, c1, c2, -, -, -⟩ := (KNr.out.keep hS).o3); (obtain ⟨e0, e1, e2, e3, -, -, -, -⟩ := (KEr.out.keep hS).o4); (have xa := keep hS XA.out); (have xi := keep hS XI.out); (have xo := keep hS XO.out); (have hbb := HBB.out); clear hS; go_simp; first | done | exact rfl)))); (case put374 => (simp only [Act.put, List.setIfInBounds_toArray, List.set_cons_zero, List.set_cons_succ]; first | done | exact rfl)); (case' next374 => skip)
          (first | (refine' grow_skip rfl ?wt375 ?put375 ?next375; (case wt375 => rfl)) | (refine' grow_lit rfl ?wt375 ?run375 ?put375 ?next375; (case wt375 => rfl); (case run375 => (intro w' hS H; clear H; (obtain ⟨c0, c1, c2, -, -, -⟩ := (KNr.out.keep hS).o3); (obtain ⟨e0, e1, e2, e3, -, -, -, -⟩ := (KEr.out.keep hS).o4); (have xa := keep hS XA.out); (have xi := keep hS XI.out); (have xo := keep hS XO.out); (have hbb := HBB.out); clear hS; go_simp; first | done | exact rfl)))); (case put375 => (simp only [Act.put, List.setIfInBounds_toArray, List.set_cons_zero, List.set_cons_succ]; first | done | exact rfl)); (case' next375 => skip)
          (first | (refine' grow_skip rfl ?wt376 ?put376 ?next376; (case wt376 => rfl)) | (refine' grow_lit rfl ?wt376 ?run376 ?put376 ?next376; (case wt376 => rfl); (case run376 => (intro w' hS H; clear H; (obtain ⟨c0, c1, c2, -, -, -⟩ := (KNr.out.keep hS).o3); (obtain ⟨e0, e1, e2, e3, -, -, -, -⟩ := (KEr.out.keep hS).o4); (have xa := keep hS XA.out); (have xi := keep hS XI.out); (have xo := keep hS XO.out); (have hbb := HBB.out); clear hS; go_simp; first | done | exact rfl)))); (case put376 => (simp only [Act.put, List.setIfInBounds_toArray, List.set_cons_zero, List.set_cons_succ]; first | done | exact rfl)); (case' next376 => skip)
          (first | (refine' grow_skip rfl ?wt377 ?put377 ?next377; (case wt377 => rfl)) | (refine' grow_lit rfl ?wt377 ?run377 ?put377 ?next377; (case wt377 => rfl); (case run377 => (intro w' hS H; clear H; (obtain ⟨c0, c1, c2, -, -, -⟩ := (KNr.out.keep hS).o3); (obtain ⟨e0, e1, e2, e3, -, -, -, -⟩ := (KEr.out.keep hS).o4); (have xa := keep hS XA.out); (have xi := keep hS XI.out); (have xo := keep hS XO.out); (have hbb := HBB.out); clear hS; go_simp; first | done | exact rfl)))); (case put377 => (simp only [Act.put, List.setIfInBounds_toArray, List.set_cons_zero, List.set_cons_succ]; first | done | exact rfl)); (case' next377 => skip)
          (first | (refine' grow_skip rfl ?wt378 ?put378 ?next378; (case wt378 => rfl)) | (refine' grow_lit rfl ?wt378 ?run378 ?put378 ?next378; (case wt378 => rfl); (case run378 => (intro w' hS H; clear H; (obtain ⟨c0, c1, c2, -, -, -⟩ := (KNr.out.keep hS).o3); (obtain ⟨e0, e1, e2, e3, -, -, -, -⟩ := (KEr.out.keep hS).o4); (have xa := keep hS XA.out); (have xi := keep hS XI.out); (have xo := keep hS XO.out); (have hbb := HBB.out); clear hS; go_simp; first | done | exact rfl)))); (case put378 => (simp only [Act.put, List.setIfInBounds_toArray, List.set_cons_zero, List.set_cons_succ]; first | done | exact rfl)); (case' next378 => skip)
          (first | (refine' grow_skip rfl ?wt379 ?put379 ?next379; (case wt379 => rfl)) | (refine' grow_lit rfl ?wt379 ?run379 ?put379 ?next379; (case wt379 => rfl); (case run379 => (intro w' hS H; clear H; (obtain ⟨c0, c1, c2, -, -, -⟩ := (KNr.out.keep hS).o3); (obtain ⟨e0, e1, e2, e3, -, -, -, -⟩ := (KEr.out.keep hS).o4); (have xa := keep hS XA.out); (have xi := keep hS XI.out); (have xo := keep hS XO.out); (have hbb := HBB.out); clear hS; go_simp; first | done | exact rfl)))); (case put379 => (simp only [Act.put, List.setIfInBounds_toArray, List.set_cons_zero, List.set_cons_succ]; first | done | exact rfl)); (case' next379 => skip)
          (first | (refine' grow_skip rfl ?wt380 ?put380 ?next380; (case wt380 => rfl)) | (refine' grow_lit rfl ?wt380 ?run380 ?put380 ?next380; (case wt380 => rfl); (case run380 => (intro w' hS H; clear H; (obtain ⟨c0, c1, c2, -, -, -⟩ := (KNr.out.keep hS).o3); (obtain ⟨e0, e1, e2, e3, -, -, -, -⟩ := (KEr.out.keep hS).o4); (have xa := keep hS XA.out); (have xi := keep hS XI.out); (have xo := keep hS XO.out); (have hbb := HBB.out); clear hS; go_simp; first | done | exact rfl)))); (case put380 => (simp only [Act.put, List.setIfInBounds_toArray, List.set_cons_zero, List.set_cons_succ]; first | done | exact rfl)); (case' next380 => skip)
          (first | (refine' grow_skip rfl ?wt381 ?put381 ?next381; (case wt381 => rfl)) | (refine' grow_lit rfl ?wt381 ?run381 ?put381 ?next381; (case wt381 => rfl); (case run381 => (intro w' hS H; clear H; (obtain ⟨c0, c1, c2, -, -, -⟩ := (KNr.out.keep hS).o3); (obtain ⟨e0, e1, e2, e3, -, -, -, -⟩ := (KEr.out.keep hS).o4); (have xa := keep hS XA.out); (have xi := keep hS XI.out); (have xo := keep hS XO.out); (have hbb := HBB.out); clear hS; go_simp; first | done | exact rfl)))); (case put381 => (simp only [Act.put, List.setIfInBounds_toArray, List.set_cons_zero, List.set_cons_succ]; first | done | exact rfl)); (case' next381 => skip)
          (first | (refine' grow_skip rfl ?wt382 ?put382 ?next382; (case wt382 => rfl)) | (refine' grow_lit rfl ?wt382 ?run382 ?put382 ?next382; (case wt382 => rfl); (case run382 => (intro w' hS H; clear H; (obtain ⟨c0, c1, c2, -, -, -⟩ := (KNr.out.keep hS).o3); (obtain ⟨e0, e1, e2, e3, -, -, -, -⟩ := (KEr.out.keep hS).o4); (have xa := keep hS XA.out); (have xi := keep hS XI.out); (have xo := keep hS XO.out); (have hbb := HBB.out); clear hS; go_simp; first | done | exact rfl)))); (case put382 => (simp only [Act.put, List.setIfInBounds_toArray, List.set_cons_zero, List.set_cons_succ]; first | done | exact rfl)); (case' next382 => skip)
          (refine' grow_call (u := .int .i64 T) rfl Tryd.func56 (by kernel_rfl) rfl hGS rfl ?wt401 ?run401 ?put401 ?next401; (case wt401 => rfl); (case run401 => (intro w' hS H; exact nbend_is n _ _ _ vc ac tc kv kt PI PO T w' (HSr.out.below hS) hkv EKT.out hkt (HG.out.tabs kt hkt) HT.out)); (case put401 => (simp only [Act.put, List.setIfInBounds_toArray, List.set_cons_zero, List.set_cons_succ]; first | done | exact rfl)); (case' next401 => skip))
          (first | (refine' grow_skip rfl ?wt383 ?put383 ?next383; (case wt383 => rfl)) | (refine' grow_lit rfl ?wt383 ?run383 ?put383 ?next383; (case wt383 => rfl); (case run383 => (intro w' hS H; clear H; (obtain ⟨c0, c1, c2, -, -, -⟩ := (KNr.out.keep hS).o3); (obtain ⟨e0, e1, e2, e3, -, -, -, -⟩ := (KEr.out.keep hS).o4); (have xa := keep hS XA.out); (have xi := keep hS XI.out); (have xo := keep hS XO.out); (have hbb := HBB.out); clear hS; go_simp; first | done | exact rfl)))); (case put383 => (simp only [Act.put, List.setIfInBounds_toArray, List.set_cons_zero, List.set_cons_succ]; first | done | exact rfl)); (case' next383 => skip)
          intro w5 hb _
          have KN5 := Lib.hid (KNr.out.keep hb)
          have HS5 := Lib.hid (HSr.out.below hb)
          have B5 := Lib.hid (B4.out.trans (hb.mono B4.out.size))
          clear hb hGS KNr KEr HSr B4 XA XI XO HBB
          by_cases hT : T = 1152921504606846976
          · have hT' : (T == 1152921504606846976) = true := by simpa using hT
            have HR1 : Hid (n.walk l = false ∧ n.cost l = 1152921504606846976) := Lib.hid (walk_bad (k := k + 1) (by rw [stepOK_of HK2.out EB.out, Nat.add_sub_cancel, getD_at HK1.out, EA.out]; rw [ET.out, hT]; simp) HK2.out)
            go_wp2_with fail
            go_ret2
            exact ⟨by rw [HR1.out.1, HR1.out.2]; rfl, B2.out.trans (B5.out.mono B2.out.size)⟩
          · have hT' : (T == 1152921504606846976) = false := by simpa using hT
            have HW2 : Hid (n.walkTo l (k + 1 + 1) = true) := Lib.hid (by
              rw [NetD.walkTo_succ, HW.out, stepOK_of HK2.out EB.out, Nat.add_sub_cancel, getD_at HK1.out, EA.out, ET.out, HBt.out, NetGood.arc_at kb hkb, EQ.out]
              simp [HQ.out, hT])
            have HCO : Hid (sumC 0 [Sm, T, Q] = n.costTo l (k + 1 + 1)) := Lib.hid (by
              rw [sumC_step]
              show _ = addC (n.costTo l (k + 1)) (addC (n.turn (l.getD k 0) (l.getD (k + 1) 0)) (n.arc (l.getD (k + 1) 0)).2.2)
              rw [ES.out, getD_at HK1.out, getD_at HK2.out, EA.out, EB.out, ET.out, NetGood.arc_at kb hkb, EQ.out])
            obtain ⟨c0, c1, c2, -, -, -⟩ := KN5.out.o3
            obtain ⟨ab', ao', eab, -, -, xq⟩ := HS5.out.a.at hkb
            cases eab
            rw [EQ.out] at xq
            have hq1 := World.block_lt_of_cell? w5 _ xq
            obtain ⟨-, -, -, -, gw⟩ := HG.out.arcs kb hkb
            rw [EQ.out] at gw
            have GW := Lib.hid (wgt_in gw)
            clear gw hT
            go_wp2_with fail
            clear c0 c1 c2 xq hq1
            refine (sum_any _ [Sm, T, Q] _ ?_ ?_).mono ?_
            · refine Or.inr ⟨by simp, w5.heap.size, 0, 3, by simp, by omega, rfl, fun i hi => ?_⟩
              match i, hi with
              | 0, _ => simp
              | 1, _ => simp
              | 2, _ => simp
            · have h1 := HCB.out
              have h2 := HTB.out
              have h3 := GW.out
              intro x hx
              simp at hx
              rcases hx with rfl | rfl | rfl <;> omega
            rintro e w6 ⟨rfl, rfl⟩
            rw [HCO.out]
            have B6 : Hid (Below W2.heap.size W2 (w5.alloc (.cells #[.int .i64 Sm, .int .i64 T, .int .i64 Q] 2))) := Lib.hid (B5.out.trans ((below_new _).mono B5.out.size))
            go_wp2_with fail
            go_roundw
            case rel => exact ⟨k + 1, by omega, by go_num, rfl, HW2, B6⟩
            case measure => simp [intOf]; omega
      · refine (nmeet_no n vq aq tq vc ac tc ka B _ HSr.out (fun h => hm2 ⟨h.2.1, h.2.2⟩)).mono ?_
        rintro e w3 ⟨rfl, hb⟩
        have B3 := Lib.hid (HBW.out.trans (hb.mono HBW.out.size))
        have HM2 := Lib.hid hm2
        clear hb hm2
        have HR1 : Hid (n.walk l = false ∧ n.cost l = 1152921504606846976) := Lib.hid (walk_bad (k := k + 1) (by rw [stepOK_of HK2.out EB.out, Nat.add_sub_cancel, getD_at HK1.out, EA.out]; rw [turn_apart (fun h => HM2.out ⟨h.2.1, h.2.2⟩)]; simp) HK2.out)
        go_wp2_with fail
        go_ret2
        exact ⟨by rw [HR1.out.1, HR1.out.2]; rfl, B3.out⟩
    · have hli : ¬ (k : Int) < (m : Int) := by omega
      obtain rfl : k = m := by omega
      have HR1 : Hid (n.walk l = true ∧ n.cost l = n.costTo l (k + 1)) := Lib.hid (by have := HW.out; rw [← HM.out] at this ⊢; exact walk_good this hl)
      go_wp2_with fail
      go_ret2
      exact ⟨by rw [HR1.out.1, HR1.out.2]; rfl, HBW.out⟩

set_option maxHeartbeats 4000000 in
set_option maxRecDepth 100000 in
theorem follow_one (n : NetD) (vq aq tq : Option Addr) (vc ac tc : Nat) (b o c : Nat) (l : List Int) (w : World) (h : NetS w n vq aq tq vc ac tc) (hl : 0 < l.length) (hc : ∀ i (h : i < l.length), w.cell? ⟨b, o + i, none⟩ = some (.int .i64 l[i])) (hl1 : l.length = 1) (hg : NetGood n) (hst : n.stepOK l 0 = true) :
    Calls Tryd.prog 61 #[netVal n vq aq tq vc ac tc, .slice (some ⟨b, o, none⟩) l.length c] w fun e w' => e = .returned (.tuple #[.int .i64 (n.cost l), .bool (n.walk l)]) ∧ Below w.heap.size w w' := by
  obtain ⟨m, hm⟩ : ∃ m, l.length = m + 1 := ⟨l.length - 1, by omega⟩
  have g0 := hc 0 (by omega)
  rw [Nat.add_zero] at g0
  have HC := Lib.hid hc
  have HM := Lib.hid hm
  obtain ⟨A0, eA0⟩ : ∃ A, l[0] = A := ⟨_, rfl⟩
  rw [eA0] at g0
  have HST := Lib.hid hst
  rw [stepOK_of hl eA0] at hst
  have hop : (n.there A0 && decide ((n.arc A0).2.2 ≠ 1152921504606846976)) = true := by simpa using hst
  have HOP := Lib.hid hop
  have HG := Lib.hid hg
  have HG0 := Lib.hid g0
  have hb0 := World.block_lt_of_cell? w _ g0
  obtain rfl : m = 0 := by omega
  rw [hm]
  have hz : (((0 + 1 : Nat) : Int) == 0) = false := by simp
  clear hst hop eA0 g0 hc hg
  go_enter Tryd.func61, Tryd.ntmps61
  go_wp2_with fail
  obtain ⟨W0, hW0⟩ := named (w.alloc (.cells #[.slice vq n.v.length vc, .slice aq n.a.length ac, .slice tq n.t.length tc] 37))
  rw [← hW0]
  have B0 : Hid (Below w.heap.size w W0) := by rw [hW0]; exact Lib.hid (below_new _)
  have K0 : Hid (Blk W0 w.heap.size #[.slice vq n.v.length vc, .slice aq n.a.length ac, .slice tq n.t.length tc] 37) := by rw [hW0]; exact Lib.hid (Blk.new _ _ _ _ rfl)
  have HS := Lib.hid (h.below B0.out)
  clear h hW0
  have hGS : Grows (fun w' => Below W0.heap.size W0 w') := Grows.below W0
  refine' wp_growL _ (fun w' => Below W0.heap.size W0 w') [[], [0], [1], [2], [3], [3], [3, 5], [3, 6], [3, 4, 7], [3, 8], [3, 9]] (Fact.lit _ :: Fact.lit _ :: Fact.lit _ :: Fact.lit _ :: Fact.lit _ :: Fact.lit _ :: Fact.lit _ :: Fact.lit _ :: Fact.lit _ :: Fact.lit _ :: Fact.lit _ :: []) (by kernel_rfl) rfl (by kernel_rfl) (Below.refl _ _).drew ?seqfmain
  case' seqfmain => skip
  (first | (refine' grow_skip rfl ?wt384 ?put384 ?next384; (case wt384 => rfl)) | (refine' grow_lit rfl ?wt384 ?run384 ?put384 ?next384; (case wt384 => rfl); (case run384 => (intro w' hS H; clear H; (obtain ⟨c0, c1, c2, -, -, -⟩ := (K0.out.keep hS).o3); (have g0 := keep (B0.out.trans (hS.mono B0.out.size)) HG0.out); (have hi0 : (0 : Int) < ((0 + 1 : Nat) : Int) := by omega); clear hS; go_simp; first | done | exact rfl)))); (case put384 => (simp only [Act.put, List.setIfInBounds_toArray, List.set_cons_zero, List.set_cons_succ]; first | done | exact rfl)); (case' next384 => skip)
  (first | (refine' grow_skip rfl ?wt385 ?put385 ?next385; (case wt385 => rfl)) | (refine' grow_lit rfl ?wt385 ?run385 ?put385 ?next385; (case wt385 => rfl); (case run385 => (intro w' hS H; clear H; (obtain ⟨c0, c1, c2, -, -, -⟩ := (K0.out.keep hS).o3); (have g0 := keep (B0.out.trans (hS.mono B0.out.size)) HG0.out); (have hi0 : (0 : Int) < ((0 + 1 : Nat) : Int) := by omega); clear hS; go_simp; first | done | exact rfl)))); (case put385 => (simp only [Act.put, List.setIfInBounds_toArray, List.set_cons_zero, List.set_cons_succ]; first | done | exact rfl)); (case' next385 => skip)
  (first | (refine' grow_skip rfl ?wt386 ?put386 ?next386; (case wt386 => rfl)) | (refine' grow_lit rfl ?wt386 ?run386 ?put386 ?next386; (case wt386 => rfl); (case run386 => (intro w' hS H; clear H; (obtain ⟨c0, c1, c2, -, -, -⟩ := (K0.out.keep hS).o3); (have g0 := keep (B0.out.trans (hS.mono B0.out.size)) HG0.out); (have hi0 : (0 : Int) < ((0 + 1 : Nat) : Int) := by omega); clear hS; go_simp; first | done | exact rfl)))); (case put386 => (simp only [Act.put, List.setIfInBounds_toArray, List.set_cons_zero, List.set_cons_succ]; first | done | exact rfl)); (case' next386 => skip)
  (first | (refine' grow_skip rfl ?wt387 ?put387 ?next387; (case wt387 => rfl)) | (refine' grow_lit rfl ?wt387 ?run387 ?put387 ?next387; (case wt387 => rfl); (case run387 => (intro w' hS H; clear H; (obtain ⟨c0, c1, c2, -, -, -⟩ := (K0.out.keep hS).o3); (have g0 := keep (B0.out.trans (hS.mono B0.out.size)) HG0.out); (have hi0 : (0 : Int) < ((0 + 1 : Nat) : Int) := by omega); clear hS; go_simp; first | done | exact rfl)))); (case put387 => (simp only [Act.put, List.setIfInBounds_toArray, List.set_cons_zero, List.set_cons_succ]; first | done | exact rfl)); (case' next387 => skip)
  (first | (refine' grow_skip rfl ?wt388 ?put388 ?next388; (case wt388 => rfl)) | (refine' grow_lit rfl ?wt388 ?run388 ?put388 ?next388; (case wt388 => rfl); (case run388 => (intro w' hS H; clear H; (obtain ⟨c0, c1, c2, -, -, -⟩ := (K0.out.keep hS).o3); (have g0 := keep (B0.out.trans (hS.mono B0.out.size)) HG0.out); (have hi0 : (0 : Int) < ((0 + 1 : Nat) : Int) := by omega); clear hS; go_simp; first | done | exact rfl)))); (case put388 => (simp only [Act.put, List.setIfInBounds_toArray, List.set_cons_zero, List.set_cons_succ]; first | done | exact rfl)); (case' next388 => skip)
  (first | (refine' grow_skip rfl ?wt389 ?put389 ?next389; (case wt389 => rfl)) | (refine' grow_lit rfl ?wt389 ?run389 ?put389 ?next389; (case wt389 => rfl); (case run389 => (intro w' hS H; clear H; (obtain ⟨c0, c1, c2, -, -, -⟩ := (K0.out.keep hS).o3); (have g0 := keep (B0.out.trans (hS.mono B0.out.size)) HG0.out); (have hi0 : (0 : Int) < ((0 + 1 : Nat) : Int) := by omega); clear hS; go_simp; first | done | exact rfl)))); (case put389 => (simp only [Act.put, List.setIfInBounds_toArray, List.set_cons_zero, List.set_cons_succ]; first | done | exact rfl)); (case' next389 => skip)
  (first | (refine' grow_skip rfl ?wt390 ?put390 ?next390; (case wt390 => rfl)) | (refine' grow_lit rfl ?wt390 ?run390 ?put390 ?next390; (case wt390 => rfl); (case run390 => (intro w' hS H; clear H; (obtain ⟨c0, c1, c2, -, -, -⟩ := (K0.out.keep hS).o3); (have g0 := keep (B0.out.trans (hS.mono B0.out.size)) HG0.out); (have hi0 : (0 : Int) < ((0 + 1 : Nat) : Int) := by omega); clear hS; go_simp; first | done | exact rfl)))); (case put390 => (simp only [Act.put, List.setIfInBounds_toArray, List.set_cons_zero, List.set_cons_succ]; first | done | exact rfl)); (case' next390 => skip)
  (first | (refine' grow_skip rfl ?wt391 ?put391 ?next391; (case wt391 => rfl)) | (refine' grow_lit rfl ?wt391 ?run391 ?put391 ?next391; (case wt391 => rfl); (case run391 => (intro w' hS H; clear H; (obtain ⟨c0, c1, c2, -, -, -⟩ := (K0.out.keep hS).o3); (have g0 := keep (B0.out.trans (hS.mono B0.out.size)) HG0.out); (have hi0 : (0 : Int) < ((0 + 1 : Nat) : Int) := by omega); clear hS; go_simp; first | done | exact rfl)))); (case put391 => (simp only [Act.put, List.setIfInBounds_toArray, List.set_cons_zero, List.set_cons_succ]; first | done | exact rfl)); (case' next391 => skip)
  (refine' grow_call (u := .bool true) rfl Tryd.func80 (by kernel_rfl) rfl hGS rfl ?wt402 ?run402 ?put402 ?next402; (case wt402 => rfl); (case run402 => (intro w' hS H; exact (nopen_is n _ _ _ vc ac tc A0 w' (HS.out.below hS)).mono (fun e w2 h => ⟨h.1.trans (by rw [HOP.out]), h.2⟩))); (case put402 => (simp only [Act.put, List.setIfInBounds_toArray, List.set_cons_zero, List.set_cons_succ]; first | done | exact rfl)); (case' next402 => skip))
  (first | (refine' grow_skip rfl ?wt392 ?put392 ?next392; (case wt392 => rfl)) | (refine' grow_lit rfl ?wt392 ?run392 ?put392 ?next392; (case wt392 => rfl); (case run392 => (intro w' hS H; clear H; (obtain ⟨c0, c1, c2, -, -, -⟩ := (K0.out.keep hS).o3); (have g0 := keep (B0.out.trans (hS.mono B0.out.size)) HG0.out); (have hi0 : (0 : Int) < ((0 + 1 : Nat) : Int) := by omega); clear hS; go_simp; first | done | exact rfl)))); (case put392 => (simp only [Act.put, List.setIfInBounds_toArray, List.set_cons_zero, List.set_cons_succ]; first | done | exact rfl)); (case' next392 => skip)
  (first | (refine' grow_skip rfl ?wt393 ?put393 ?next393; (case wt393 => rfl)) | (refine' grow_lit rfl ?wt393 ?run393 ?put393 ?next393; (case wt393 => rfl); (case run393 => (intro w' hS H; clear H; (obtain ⟨c0, c1, c2, -, -, -⟩ := (K0.out.keep hS).o3); (have g0 := keep (B0.out.trans (hS.mono B0.out.size)) HG0.out); (have hi0 : (0 : Int) < ((0 + 1 : Nat) : Int) := by omega); clear hS; go_simp; first | done | exact rfl)))); (case put393 => (simp only [Act.put, List.setIfInBounds_toArray, List.set_cons_zero, List.set_cons_succ]; first | done | exact rfl)); (case' next393 => skip)
  intro w1 hb _
  have K1 := Lib.hid (K0.out.keep hb)
  have HS1 := Lib.hid (HS.out.below hb)
  have B1 := Lib.hid (B0.out.trans (hb.mono B0.out.size))
  clear hb hGS K0 HS B0 HG0
  obtain ⟨c0, c1, c2, -, -, -⟩ := K1.out.o3
  go_wp2_with fail
  clear c0 c1 c2
  refine (endsof_any n vq aq tq vc ac tc _ HS1.out HG.out.arcsIn HG.out.sv HG.out.sa).mono ?_
  rintro e w2 ⟨ev, rfl, ⟨bi, bo, ci, co, rfl, -, -, kx, ky⟩, hb⟩
  have KX := Lib.hid kx
  have KY := Lib.hid ky
  have HB := Lib.hid hb
  clear kx ky hb
  have HR1 : Hid (n.walk l = true ∧ n.cost l = n.costTo l 1) := Lib.hid (by
    have : n.walkTo l 1 = true := by rw [NetD.walkTo_succ, HST.out]; rfl
    have h2 := walk_good (n := n) (l := l) (by rw [hl1]; exact this) hl
    rw [hl1] at h2
    exact h2)
  have HB3 : Hid (∀ a, Below w.heap.size w (w2.alloc a)) := Lib.hid (fun a => B1.out.trans ((HB.out.trans ((below_new a).mono HB.out.size)).mono B1.out.size))
  by_cases hc1 : c = 1
  all_goals
    go_wp2_with fail
    refine wp_loop_rounds 1 ?_
    rw [rounds_succ]
    go_wp2_with fail
    go_ret2
    exact ⟨by rw [HR1.out.1, HR1.out.2]; rfl, HB3.out _⟩
theorem follow_any (n : NetD) (vq aq tq : Option Addr) (vc ac tc : Nat) (u : Value) (l : List Int) (w : World) (h : NetS w n vq aq tq vc ac tc) (hg : NetGood n) (hu : I64s w u l) (hl : l.length ≤ 1000000) :
    Calls Tryd.prog 61 #[netVal n vq aq tq vc ac tc, u] w fun e w' => e = .returned (.tuple #[.int .i64 (n.cost l), .bool (n.walk l)]) ∧ Below w.heap.size w w' := by
  rcases hu with ⟨rfl, p, c, rfl, -⟩ | ⟨_, b, o, c, hlc, -, rfl, hc⟩
  · exact follow_nil n vq aq tq vc ac tc p c w
  · by_cases h0 : 0 < l.length
    · cases hst : n.stepOK l 0 with
      | false => exact follow_shut n vq aq tq vc ac tc b o c l w h h0 hc hst
      | true =>
        by_cases h1 : 1 < l.length
        · exact follow_main n vq aq tq vc ac tc b o c l w h h0 hc hl hlc h1 hg hst
        · exact follow_one n vq aq tq vc ac tc b o c l w h h0 hc (by omega) hg hst
    · obtain rfl : l = [] := List.length_eq_zero_iff.1 (by omega)
      exact follow_nil n vq aq tq vc ac tc _ c w

set_option maxHeartbeats 4000000 in
set_option maxRecDepth 100000 in
theorem nwalk_any (n : NetD) (vq aq tq : Option Addr) (vc ac tc : Nat) (u : Value) (l : List Int) (w : World) (h : NetS w n vq aq tq vc ac tc) (hg : NetGood n) (hu : I64s w u l) (hl : l.length ≤ 1000000) :
    Calls Tryd.prog 26 #[netVal n vq aq tq vc ac tc, u] w fun e w' => e = .returned (.bool (n.walk l)) ∧ Below w.heap.size w w' := by
  have HU := Lib.hid hu
  obtain ⟨q, c, rfl⟩ := hu.shape
  have HG := Lib.hid hg
  obtain ⟨C, eC⟩ : ∃ C, n.cost l = C := ⟨_, rfl⟩
  obtain ⟨O, eO⟩ : ∃ O, n.walk l = O := ⟨_, rfl⟩
  have EC := Lib.hid eC
  have EO := Lib.hid eO
  rw [eO]
  clear hu hg eC eO
  go_enter Tryd.func26, Tryd.ntmps26
  go_wp2_with fail
  obtain ⟨W0, hW0⟩ := named (w.alloc (.cells #[.slice vq n.v.length vc, .slice aq n.a.length ac, .slice tq n.t.length tc] 37))
  rw [← hW0]
  have B0 : Hid (Below w.heap.size w W0) := by rw [hW0]; exact Lib.hid (below_new _)
  have K0 : Hid (Blk W0 w.heap.size #[.slice vq n.v.length vc, .slice aq n.a.length ac, .slice tq n.t.length tc] 37) := by rw [hW0]; exact Lib.hid (Blk.new _ _ _ _ rfl)
  have HS := Lib.hid (h.below B0.out)
  clear h hW0
  refine (follow_any n vq aq tq vc ac tc _ l _ HS.out HG.out (HU.out.below B0.out) hl).mono ?_
  rw [EC.out, EO.out]
  rintro e w' ⟨rfl, hb⟩
  have HB := Lib.hid (B0.out.trans (hb.mono B0.out.size))
  clear hb
  go_wp2_with fail
  go_ret
  exact ⟨rfl, HB.out⟩

set_option maxHeartbeats 4000000 in
set_option maxRecDepth 100000 in
theorem ncost_any (n : NetD) (vq aq tq : Option Addr) (vc ac tc : Nat) (u : Value) (l : List Int) (w : World) (h : NetS w n vq aq tq vc ac tc) (hg : NetGood n) (hu : I64s w u l) (hl : l.length ≤ 1000000) :
    Calls Tryd.prog 28 #[netVal n vq aq tq vc ac tc, u] w fun e w' => e = .returned (.int .i64 (n.cost l)) ∧ Below w.heap.size w w' := by
  have HU := Lib.hid hu
  obtain ⟨q, c, rfl⟩ := hu.shape
  have HG := Lib.hid hg
  obtain ⟨C, eC⟩ : ∃ C, n.cost l = C := ⟨_, rfl⟩
  obtain ⟨O, eO⟩ : ∃ O, n.walk l = O := ⟨_, rfl⟩
  have EC := Lib.hid eC
  have EO := Lib.hid eO
  rw [eC]
  clear hu hg eC eO
  go_enter Tryd.func28, Tryd.ntmps28
  go_wp2_with fail
  obtain ⟨W0, hW0⟩ := named (w.alloc (.cells #[.slice vq n.v.length vc, .slice aq n.a.length ac, .slice tq n.t.length tc] 37))
  rw [← hW0]
  have B0 : Hid (Below w.heap.size w W0) := by rw [hW0]; exact Lib.hid (below_new _)
  have K0 : Hid (Blk W0 w.heap.size #[.slice vq n.v.length vc, .slice aq n.a.length ac, .slice tq n.t.length tc] 37) := by rw [hW0]; exact Lib.hid (Blk.new _ _ _ _ rfl)
  have HS := Lib.hid (h.below B0.out)
  clear h hW0
  refine (follow_any n vq aq tq vc ac tc _ l _ HS.out HG.out (HU.out.below B0.out) hl).mono ?_
  rw [EC.out, EO.out]
  rintro e w' ⟨rfl, hb⟩
  have HB := Lib.hid (B0.out.trans (hb.mono B0.out.size))
  clear hb
  go_wp2_with fail
  go_ret
  exact ⟨rfl, HB.out⟩

end Go.Proofs.YtbdompngabokgaaDoor
