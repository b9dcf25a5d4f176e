/-
  The law's own To: a net as the program's.
-/
import Derived.Test.YtgihaakgadmidaaGreatLaw3A
namespace Go.Proofs.YtgihaakgadmidaaGreat
open Go.RowKit

set_option maxHeartbeats 8000000 in
set_option maxRecDepth 100000 in
theorem to3_any (n : NetD) (vq aq tq : Option Addr) (vc ac tc : Nat) (w : World) (h : NetS w n vq aq tq vc ac tc) (hv : n.v.length ≤ 10000) (ha : n.a.length ≤ 100000) (ht : n.t.length ≤ 1000) (hc : ∀ t ∈ n.t, t.2.2.length ≤ 1000) :
    Calls Tryz.prog 25 #[netVal n vq aq tq vc ac tc] w fun e w' => ∃ v, e = .returned v ∧ NetV w' v n ∧ Below w.heap.size w w' := by
  have HC := Lib.hid hc
  have HS := Lib.hid h
  clear hc h
  go_enter Tryz.func25, Tryz.ntmps25
  go_wp2_with fail
  obtain ⟨W0, hW0⟩ := named (((w.alloc (.cells #[.slice vq n.v.length vc, .slice aq n.a.length ac, .slice tq n.t.length tc] 26)).alloc (.cells #[.slice none 0 0, .slice none 0 0, .slice none 0 0] 62)).alloc (.cells #[.slice none 0 0, .slice none 0 0, .slice none 0 0] 62))
  rw [← hW0]
  have hb0 : Below w.heap.size w W0 := by rw [hW0]; exact (below_alloc2 _ _).alloc (by simp; omega) _
  have z0 : W0.heap.size = w.heap.size + 3 := by rw [hW0]; simp
  have KN : Hid (Blk W0 w.heap.size #[.slice vq n.v.length vc, .slice aq n.a.length ac, .slice tq n.t.length tc] 26) := by rw [hW0]; exact Lib.hid (((Blk.new _ _ _ _ rfl).old _).old _)
  have KR : Hid (Blk W0 (w.heap.size + 1) #[.slice none 0 0, .slice none 0 0, .slice none 0 0] 62) := by rw [hW0]; exact Lib.hid ((Blk.new _ _ _ _ (by simp)).old _)
  have KM : Hid (Blk W0 (w.heap.size + 2) #[.slice none 0 0, .slice none 0 0, .slice none 0 0] 62) := by rw [hW0]; exact Lib.hid (Blk.new _ _ _ _ (by simp))
  have B0 := Lib.hid hb0
  have hz0 : w.heap.size + 3 ≤ W0.heap.size := by omega
  clear hW0 hb0 z0
  go_loopw [4] (fun i wr => ∃ (k : Nat) (q : Option Addr) (c : Nat), k ≤ n.v.length ∧ i = .int .i64 k ∧ Hid (wr.ownsRow (w.heap.size + 3) 102 3 (.slice q k c) (n.v.take k).length (flatT (n.v.take k))) ∧ Hid (Blk wr (w.heap.size + 2) #[.slice q k c, .slice none 0 0, .slice none 0 0] 62) ∧ Hid (Below (w.heap.size + 2) W0 wr) ∧ w.heap.size + 3 ≤ wr.heap.size) (fun i _ => n.v.length - (intOf i).toNat)
  case atStart => exact ⟨0, none, 0, Nat.zero_le _, rfl, Lib.hid (World.ownsRow_nil _ _ _ _), KM, Lib.hid (Below.refl _ _), hz0⟩
  case round =>
    obtain ⟨k, q, c, hk, rfl, HO, KMr, HBr, hz⟩ := hrel
    have KNr : Hid (Blk wr w.heap.size #[.slice vq n.v.length vc, .slice aq n.a.length ac, .slice tq n.t.length tc] 26) := Lib.hid (KN.out.carry HBr.out (by omega))
    obtain ⟨c0, c1, c2, -, -, -⟩ := KNr.out.o3
    by_cases hlt : k < n.v.length
    · have hli : (k : Int) < (n.v.length : Int) := by omega
      have HBw : Hid (Below w.heap.size w wr) := Lib.hid (B0.out.trans (HBr.out.mono (by omega)))
      obtain ⟨ab, ao, rfl, x0, x1, x2⟩ := (HS.out.v.below HBw.out).at hlt
      have hbb := World.block_lt_of_cell? wr _ x0
      have X0 := Lib.hid x0
      have X1 := Lib.hid x1
      have X2 := Lib.hid x2
      clear x0 x1 x2
      go_wp2_with fail
      clear c0 c1 c2
      have hGS : Grows (fun w' => Below wr.heap.size wr w') := Grows.below wr
      refine' wp_thenL _ 22 (fun w' => Below wr.heap.size wr w') [[], [0], [], [2], [], [2, 3, 4], [2, 3, 4, 5], [2, 3, 4, 5, 6], [], [8], [], [8, 9, 10], [8, 9, 10, 11], [8, 9, 10, 11, 12], [], [14], [], [14, 15, 16], [14, 15, 16, 17], [14, 15, 16, 17, 18], [2, 3, 4, 5, 6, 7, 8, 9, 10, 11, 12, 13, 14, 15, 16, 17, 18, 19], [2, 3, 4, 5, 6, 7, 8, 9, 10, 11, 12, 13, 14, 15, 16, 17, 18, 19, 20]] (Fact.lit _ :: Fact.lit _ :: Fact.lit _ :: Fact.lit _ :: Fact.lit _ :: Fact.lit _ :: Fact.lit _ :: Fact.lit _ :: Fact.lit _ :: Fact.lit _ :: Fact.lit _ :: Fact.lit _ :: Fact.lit _ :: Fact.lit _ :: Fact.lit _ :: Fact.lit _ :: Fact.lit _ :: Fact.lit _ :: Fact.lit _ :: Fact.lit _ :: Fact.lit _ :: Fact.prop _ _ :: []) (by kernel_rfl) rfl (by kernel_rfl) (Below.refl _ _).drew ?seqv
      case' seqv => skip
      iterate 21 ((first | (apply grow_skip; (case hf => rfl); (case hw => rfl)) | (apply grow_lit; (case hf => rfl); (case hw => rfl); (case hrun => (intro w' hS H; clear H; (obtain ⟨c0, c1, c2, -, -, -⟩ := (KNr.out.keep hS).o3); (obtain ⟨d0, d1, d2, -, -, -⟩ := (KMr.out.keep hS).o3); (have x0 := keep hS X0.out); (have x1 := keep hS X1.out); (have x2 := keep hS X2.out); clear hS; go_simp; first | done | exact rfl)))); (case hc => (simp only [Act.put, List.setIfInBounds_toArray, List.set_cons_zero, List.set_cons_succ]; first | done | exact rfl)); (try (case hj => rfl)))
      (refine' grow_make (p := LitT 102 (n.v[k]'hlt)) (hp := fun v w w' h hb => h.below hb) hGS rfl ?wtmv ?runmv ?putmv ?nextmv; (case wtmv => rfl); (case runmv => (intro w' hS H; clear H; refine ⟨.slice (some ⟨w'.heap.size, 0, none⟩) 1 1, w'.alloc (.cells #[.int .i64 (n.v[k]'hlt).1, .int .i64 (n.v[k]'hlt).2.1, .int .i64 (n.v[k]'hlt).2.2] 102), ?_, ⟨w'.heap.size, rfl, Blk.new _ _ _ _ rfl⟩, below_new _⟩; (clear hS; go_simp))); (case putmv => (intro v; simp only [Act.put, List.setIfInBounds_toArray, List.set_cons_zero, List.set_cons_succ]; first | done | exact rfl)); (case' nextmv => intro v21))
      intro w9 hb hk9
      have h21 : LitT 102 (n.v[k]'hlt) v21 w9 := hk9 21 (by decide)
      have HO9 := Lib.hid (owns_below HO.out hb)
      have hlen : (n.v.take k).length = k := by rw [List.length_take]; omega
      obtain ⟨q2, c2, w', hr, hown', hgrow⟩ := app3 Tryz.underlying58 infoVert HO9.out h21 (by omega) (by have := hb.size; omega)
      have hkm := (KMr.out.keep hb).grownO hgrow (own_ne HO9.out (by omega))
      have hbel : Below (w.heap.size + 2) W0 w' := (HBr.out.trans (hb.mono (by omega))).grown hgrow (by have := hb.size; omega) (fun g hg => by have := own_ge HO9.out g (by simpa using hg); omega)
      have hsz : w.heap.size + 3 ≤ w'.heap.size := by have := hb.size; have := hgrow.size; omega
      rw [hlen] at hr hown'
      have HRR := Lib.hid hr
      have HOWN := Lib.hid hown'
      have HKM := Lib.hid hkm
      have HBEL := Lib.hid hbel
      obtain ⟨d0, d1, d2, f0, f1, f2⟩ := hkm.o3
      clear hk9 h21 hr hown' hkm hbel
      refine wpAny_ready (rs := [22]) (by kernel_rfl) (by simp) (AllReady.cons rfl (fun K hK => ?_) AllReady.nil)
      refine step_append_run rfl _ _ 58 rfl _ _ _ rfl rfl HRR.out ?_
      refine hK _ _ ?_
      clear hK K
      refine wpAny_ready (rs := [23]) (by kernel_rfl) (by simp) (AllReady.cons rfl (fun K hK => ?_) AllReady.nil)
      go_simp
      refine hK _ _ ?_
      clear hK K
      refine wpAny_ready (rs := [24]) (by kernel_rfl) (by simp) (AllReady.cons rfl (fun K hK => ?_) AllReady.nil)
      go_simp
      refine hK _ _ ?_
      clear hK K
      refine wpAny_done (by kernel_rfl) ?_ _
      clear d0 d1 d2 f0 f1 f2
      have HT : Hid (n.v.take (k + 1) = n.v.take k ++ [n.v[k]'hlt]) := Lib.hid (take_snoc n.v k hlt)
      have HREL : Hid ((w'.setCell ⟨w.heap.size + 2, 0, none⟩ (.slice q2 (k + 1) c2)).ownsRow (w.heap.size + 3) 102 3 (.slice q2 (k + 1) c2) (n.v.take (k + 1)).length (flatT (n.v.take (k + 1)))) := Lib.hid (by
        rw [HT.out, List.length_append, hlen]
        exact ownsRow_setCell_below HOWN.out (by simp only []; omega) _)
      clear hlen
      go_wp2_with fail
      go_roundw
      case rel => exact ⟨k + 1, q2, c2, by omega, by go_num, HREL, Lib.hid (HKM.out.set 0 (.slice q2 (k + 1) c2)), Lib.hid (HBEL.out.setCell (by simp only []; omega) _), by simpa using hsz⟩
      case measure => simp [intOf]; omega
    · obtain rfl : k = n.v.length := by omega
      have HO' : Hid (wr.ownsRow (w.heap.size + 3) 102 3 (.slice q n.v.length c) n.v.length (flatT n.v)) := Lib.hid (by have := HO.out; rwa [List.take_length] at this)
      have hli : ¬ (n.v.length : Int) < (n.v.length : Int) := by omega
      clear HO
      go_wp2_with fail
      clear c0 c1 c2 hli
      obtain ⟨q0, eq0⟩ : ∃ q0, q0 = q := ⟨_, rfl⟩
      obtain ⟨c0v, ec0⟩ : ∃ c0v, c0v = c := ⟨_, rfl⟩
      rw [← eq0, ← ec0] at KMr HO'
      clear eq0 ec0
      have KMv := KMr
      have HBv := HBr
      have hzv := hz
      have HVv := HO'
      clear KMr HBr hz HO'
      go_loopw [5] (fun i wr => ∃ (k : Nat) (q : Option Addr) (c : Nat), k ≤ n.a.length ∧ i = .int .i64 k ∧ Hid (wr.ownsRow (w.heap.size + 3) 98 3 (.slice q k c) (n.a.take k).length (flatT (n.a.take k))) ∧ Hid (Blk wr (w.heap.size + 2) #[.slice q0 n.v.length c0v, .slice q k c, .slice none 0 0] 62) ∧ Hid (Below (w.heap.size + 2) W0 wr) ∧ w.heap.size + 3 ≤ wr.heap.size ∧ Hid (wr.ownsRow (w.heap.size + 3) 102 3 (.slice q0 n.v.length c0v) n.v.length (flatT n.v))) (fun i _ => n.a.length - (intOf i).toNat)
      case atStart => exact ⟨0, none, 0, Nat.zero_le _, rfl, Lib.hid (World.ownsRow_nil _ _ _ _), KMv, HBv, hzv, HVv⟩
      case round =>
        obtain ⟨k, q, c, hk, rfl, HO, KMr, HBr, hz, HV⟩ := hrel
        have KNr : Hid (Blk wr w.heap.size #[.slice vq n.v.length vc, .slice aq n.a.length ac, .slice tq n.t.length tc] 26) := Lib.hid (KN.out.carry HBr.out (by omega))
        obtain ⟨c0, c1, c2, -, -, -⟩ := KNr.out.o3
        by_cases hlt : k < n.a.length
        · have hli : (k : Int) < (n.a.length : Int) := by omega
          have HBw : Hid (Below w.heap.size w wr) := Lib.hid (B0.out.trans (HBr.out.mono (by omega)))
          obtain ⟨ab, ao, rfl, x0, x1, x2⟩ := (HS.out.a.below HBw.out).at hlt
          have hbb := World.block_lt_of_cell? wr _ x0
          have X0 := Lib.hid x0
          have X1 := Lib.hid x1
          have X2 := Lib.hid x2
          clear x0 x1 x2
          go_wp2_with fail
          clear c0 c1 c2
          have hGS : Grows (fun w' => Below wr.heap.size wr w') := Grows.below wr
          refine' wp_thenL _ 22 (fun w' => Below wr.heap.size wr w') [[], [0], [], [2], [], [2, 3, 4], [2, 3, 4, 5], [2, 3, 4, 5, 6], [], [8], [], [8, 9, 10], [8, 9, 10, 11], [8, 9, 10, 11, 12], [], [14], [], [14, 15, 16], [14, 15, 16, 17], [14, 15, 16, 17, 18], [2, 3, 4, 5, 6, 7, 8, 9, 10, 11, 12, 13, 14, 15, 16, 17, 18, 19], [2, 3, 4, 5, 6, 7, 8, 9, 10, 11, 12, 13, 14, 15, 16, 17, 18, 19, 20]] (Fact.lit _ :: Fact.lit _ :: Fact.lit _ :: Fact.lit _ :: Fact.lit _ :: Fact.lit _ :: Fact.lit _ :: Fact.lit _ :: Fact.lit _ :: Fact.lit _ :: Fact.lit _ :: Fact.lit _ :: Fact.lit _ :: Fact.lit _ :: Fact.lit _ :: Fact.lit _ :: Fact.lit _ :: Fact.lit _ :: Fact.lit _ :: Fact.lit _ :: Fact.lit _ :: Fact.prop _ _ :: []) (by kernel_rfl) rfl (by kernel_rfl) (Below.refl _ _).drew ?seqa
          case' seqa => skip
          iterate 21 ((first | (apply grow_skip; (case hf => rfl); (case hw => rfl)) | (apply grow_lit; (case hf => rfl); (case hw => rfl); (case hrun => (intro w' hS H; clear H; (obtain ⟨c0, c1, c2, -, -, -⟩ := (KNr.out.keep hS).o3); (obtain ⟨d0, d1, d2, -, -, -⟩ := (KMr.out.keep hS).o3); (have x0 := keep hS X0.out); (have x1 := keep hS X1.out); (have x2 := keep hS X2.out); clear hS; go_simp; first | done | exact rfl)))); (case hc => (simp only [Act.put, List.setIfInBounds_toArray, List.set_cons_zero, List.set_cons_succ]; first | done | exact rfl)); (try (case hj => rfl)))
          (refine' grow_make (p := LitT 98 (n.a[k]'hlt)) (hp := fun v w w' h hb => h.below hb) hGS rfl ?wtma ?runma ?putma ?nextma; (case wtma => rfl); (case runma => (intro w' hS H; clear H; refine ⟨.slice (some ⟨w'.heap.size, 0, none⟩) 1 1, w'.alloc (.cells #[.int .i64 (n.a[k]'hlt).1, .int .i64 (n.a[k]'hlt).2.1, .int .i64 (n.a[k]'hlt).2.2] 98), ?_, ⟨w'.heap.size, rfl, Blk.new _ _ _ _ rfl⟩, below_new _⟩; (clear hS; go_simp))); (case putma => (intro v; simp only [Act.put, List.setIfInBounds_toArray, List.set_cons_zero, List.set_cons_succ]; first | done | exact rfl)); (case' nextma => intro v21))
          intro w9 hb hk9
          have h21 : LitT 98 (n.a[k]'hlt) v21 w9 := hk9 21 (by decide)
          have HO9 := Lib.hid (owns_below HO.out hb)
          have hlen : (n.a.take k).length = k := by rw [List.length_take]; omega
          obtain ⟨q2, c2, w', hr, hown', hgrow⟩ := app3 Tryz.underlying59 infoArc HO9.out h21 (by omega) (by have := hb.size; omega)
          have hkm := (KMr.out.keep hb).grownO hgrow (own_ne HO9.out (by omega))
          have hbel : Below (w.heap.size + 2) W0 w' := (HBr.out.trans (hb.mono (by omega))).grown hgrow (by have := hb.size; omega) (fun g hg => by have := own_ge HO9.out g (by simpa using hg); omega)
          have hsz : w.heap.size + 3 ≤ w'.heap.size := by have := hb.size; have := hgrow.size; omega
          rw [hlen] at hr hown'
          have HRR := Lib.hid hr
          have HOWN := Lib.hid hown'
          have HKM := Lib.hid hkm
          have HBEL := Lib.hid hbel
          obtain ⟨d0, d1, d2, f0, f1, f2⟩ := hkm.o3
          clear hk9 h21 hr hown' hkm hbel
          refine wpAny_ready (rs := [22]) (by kernel_rfl) (by simp) (AllReady.cons rfl (fun K hK => ?_) AllReady.nil)
          refine step_append_run rfl _ _ 59 rfl _ _ _ rfl rfl HRR.out ?_
          refine hK _ _ ?_
          clear hK K
          refine wpAny_ready (rs := [23]) (by kernel_rfl) (by simp) (AllReady.cons rfl (fun K hK => ?_) AllReady.nil)
          go_simp
          refine hK _ _ ?_
          clear hK K
          refine wpAny_ready (rs := [24]) (by kernel_rfl) (by simp) (AllReady.cons rfl (fun K hK => ?_) AllReady.nil)
          go_simp
          refine hK _ _ ?_
          clear hK K
          refine wpAny_done (by kernel_rfl) ?_ _
          clear d0 d1 d2 f0 f1 f2
          have HT : Hid (n.a.take (k + 1) = n.a.take k ++ [n.a[k]'hlt]) := Lib.hid (take_snoc n.a k hlt)
          have HREL : Hid ((w'.setCell ⟨w.heap.size + 2, 1, none⟩ (.slice q2 (k + 1) c2)).ownsRow (w.heap.size + 3) 98 3 (.slice q2 (k + 1) c2) (n.a.take (k + 1)).length (flatT (n.a.take (k + 1)))) := Lib.hid (by
            rw [HT.out, List.length_append, hlen]
            exact ownsRow_setCell_below HOWN.out (by simp only []; omega) _)
          clear hlen
          go_wp2_with fail
          go_roundw
          case rel => exact ⟨k + 1, q2, c2, by omega, by go_num, HREL, Lib.hid (HKM.out.set 1 (.slice q2 (k + 1) c2)), Lib.hid (HBEL.out.setCell (by simp only []; omega) _), by simpa using hsz, Lib.hid (ownsRow_setCell_below (owns_grown (owns_below HV.out hb) HO9.out (by decide) hgrow) (by simp only []; omega) _)⟩
          case measure => simp [intOf]; omega
        · obtain rfl : k = n.a.length := by omega
          have HO' : Hid (wr.ownsRow (w.heap.size + 3) 98 3 (.slice q n.a.length c) n.a.length (flatT n.a)) := Lib.hid (by have := HO.out; rwa [List.take_length] at this)
          have hli : ¬ (n.a.length : Int) < (n.a.length : Int) := by omega
          clear HO
          go_wp2_with fail
          clear c0 c1 c2 hli
          obtain ⟨q1, eq1⟩ : ∃ q1, q1 = q := ⟨_, rfl⟩
          obtain ⟨c1a, ec1⟩ : ∃ c1a, c1a = c := ⟨_, rfl⟩
          rw [← eq1, ← ec1] at KMr HO'
          clear eq1 ec1
          have KMa := KMr
          have HBa := HBr
          have hza := hz
          have HAa := HO'
          have HVa := HV
          clear KMr HBr hz HO' HV
          go_loopw [6] (fun i wr => ∃ (k : Nat) (q : Option Addr) (c : Nat) (us : List Value), k ≤ n.t.length ∧ i = .int .i64 k ∧ Hid (wr.ownsRow (w.heap.size + 3) 103 3 (.slice q k c) (n.t.take k).length (flatB (n.t.take k) us)) ∧ Hid (RowsI wr (n.t.take k) us) ∧ Hid (Blk wr (w.heap.size + 2) #[.slice q0 n.v.length c0v, .slice q1 n.a.length c1a, .slice q k c] 62) ∧ Hid (Below (w.heap.size + 2) W0 wr) ∧ w.heap.size + 3 ≤ wr.heap.size ∧ Hid (wr.ownsRow (w.heap.size + 3) 102 3 (.slice q0 n.v.length c0v) n.v.length (flatT n.v)) ∧ Hid (wr.ownsRow (w.heap.size + 3) 98 3 (.slice q1 n.a.length c1a) n.a.length (flatT n.a))) (fun i _ => n.t.length - (intOf i).toNat)
          case atStart => exact ⟨0, none, 0, [], Nat.zero_le _, rfl, Lib.hid (World.ownsRow_nil _ _ _ _), Lib.hid ⟨rfl, fun i t u h => by simp at h⟩, KMa, HBa, hza, HVa, HAa⟩
          case round =>
            obtain ⟨k, q, c, us, hk, rfl, HO, HRS, KMr, HBr, hz, HVt, HAt⟩ := hrel
            have KNr : Hid (Blk wr w.heap.size #[.slice vq n.v.length vc, .slice aq n.a.length ac, .slice tq n.t.length tc] 26) := Lib.hid (KN.out.carry HBr.out (by omega))
            obtain ⟨c0, c1, c2, -, -, -⟩ := KNr.out.o3
            by_cases hlt : k < n.t.length
            · have hli : (k : Int) < (n.t.length : Int) := by omega
              have HBw : Hid (Below w.heap.size w wr) := Lib.hid (B0.out.trans (HBr.out.mono (by omega)))
              obtain ⟨ab, ao, au, rfl, x0, x1, x2, xt⟩ := (HS.out.t.below HBw.out).at hlt
              have hal := HC.out n.t[k] (List.getElem_mem _)
              have HT : Hid (n.t.take (k + 1) = n.t.take k ++ [n.t[k]'hlt]) := Lib.hid (take_snoc n.t k hlt)
              obtain ⟨A, eA⟩ : ∃ A, n.t[k]'hlt = A := ⟨_, rfl⟩
              rw [eA] at x0 x1 xt hal HT
              obtain ⟨aq, ac', rfl⟩ := xt.shape
              have hbb := World.block_lt_of_cell? wr _ x0
              have HAL := Lib.hid hal
              have X0 := Lib.hid x0
              have X1 := Lib.hid x1
              have X2 := Lib.hid x2
              have XT := Lib.hid xt
              clear x0 x1 x2 xt hal eA
              go_wp2_with fail
              clear c0 c1 c2
              have hGS : Grows (fun w' => Below wr.heap.size wr w') := Grows.below wr
              refine' wp_thenL _ 9 (fun w' => Below wr.heap.size wr w') [[], [0], [], [2], [], [2, 3, 4], [2, 3, 4, 5], [2, 3, 4, 5, 6], [2, 3, 4, 5, 6, 7]] (Fact.lit _ :: Fact.lit _ :: Fact.lit _ :: Fact.lit _ :: Fact.lit _ :: Fact.lit _ :: Fact.lit _ :: Fact.prop _ _ :: Fact.prop _ _ :: []) (by kernel_rfl) rfl (by kernel_rfl) (Below.refl _ _).drew ?seqt
              case' seqt => skip
              iterate 7 ((first | (apply grow_skip; (case hf => rfl); (case hw => rfl)) | (apply grow_lit; (case hf => rfl); (case hw => rfl); (case hrun => (intro w' hS H; clear H; (obtain ⟨c0, c1, c2, -, -, -⟩ := (KNr.out.keep hS).o3); (obtain ⟨d0, d1, d2, -, -, -⟩ := (KMr.out.keep hS).o3); (have x0 := keep hS X0.out); (have x1 := keep hS X1.out); (have x2 := keep hS X2.out); clear hS; go_simp; first | done | exact rfl)))); (case hc => (simp only [Act.put, List.setIfInBounds_toArray, List.set_cons_zero, List.set_cons_succ]; first | done | exact rfl)); (try (case hj => rfl)))
              (refine' grow_callP (p := TabI A.1 A.2.1 A.2.2) (hp := fun v w w' h hb => h.below hb) rfl Tryz.func54 (by kernel_rfl) rfl hGS rfl ?wt23 ?run23 ?put23 ?next23; (case wt23 => rfl); (case run23 => (intro w' hS H; exact (to_own A.1 A.2.1 _ A.2.2 w' HAL.out (XT.out.below hS)).mono (fun e w2 ⟨v, h1, ⟨u, h2, h4⟩, h3⟩ => ⟨v, h1, ⟨u, h2, _, h4⟩, h3⟩))); (case put23 => (intro v; simp only [Act.put, List.setIfInBounds_toArray, List.set_cons_zero, List.set_cons_succ]; first | done | exact rfl)); (case' next23 => intro v7))
              (refine' grow_make (p := LitB A.1 A.2.1 A.2.2) (hp := fun v w w' h hb => h.below hb) hGS rfl ?wtmt ?runmt ?putmt ?nextmt; (case wtmt => rfl); (case runmt => (intro w' hS H; (have h7 : TabI A.1 A.2.1 A.2.2 v7 w' := H 7 (by decide)); (obtain ⟨u7, rfl, hu7⟩ := h7); (obtain ⟨uq, uc, rfl⟩ : ∃ q c, u7 = .slice q A.2.2.length c := by obtain ⟨_, h⟩ := hu7; exact own_shape h); clear H; refine ⟨.slice (some ⟨w'.heap.size, 0, none⟩) 1 1, w'.alloc (.cells #[.int .i64 A.1, .int .i64 A.2.1, .slice uq A.2.2.length uc] 103), ?_, ⟨w'.heap.size, _, rfl, Blk.new _ _ _ _ rfl, hu7.below (below_new _)⟩, below_new _⟩; (clear hS hu7; go_simp))); (case putmt => (intro v; simp only [Act.put, List.setIfInBounds_toArray, List.set_cons_zero, List.set_cons_succ]; first | done | exact rfl)); (case' nextmt => intro v8))
              intro w9 hb hk9
              have h8 : LitB A.1 A.2.1 A.2.2 v8 w9 := hk9 8 (by decide)
              have HO9 := Lib.hid (owns_below HO.out hb)
              have hlen : (n.t.take k).length = k := by rw [List.length_take]; omega
              obtain ⟨q2, c2, w', y, hr, hown', hgrow, hy⟩ := appB HO9.out HRS.out.1 h8 (by omega) (by have := hb.size; omega)
              have hkm := (KMr.out.keep hb).grownO hgrow (own_ne HO9.out (by omega))
              have hbel : Below (w.heap.size + 2) W0 w' := (HBr.out.trans (hb.mono (by omega))).grown hgrow (by have := hb.size; omega) (fun g hg => by have := own_ge HO9.out g (by simpa using hg); omega)
              have hsz : w.heap.size + 3 ≤ w'.heap.size := by have := hb.size; have := hgrow.size; omega
              rw [hlen] at hr hown'
              have HRR := Lib.hid hr
              have HOWN := Lib.hid hown'
              have HKM := Lib.hid hkm
              have HBEL := Lib.hid hbel
              have HY := Lib.hid (hy.grown HO9.out (by decide) hgrow)
              have HRS2 := Lib.hid ((HRS.out.map fun u m h => (h.below hb).grown HO9.out (by decide) hgrow))
              obtain ⟨d0, d1, d2, f0, f1, f2⟩ := hkm.o3
              clear hk9 h8 hr hown' hkm hbel hy
              refine wpAny_ready (rs := [9]) (by kernel_rfl) (by simp) (AllReady.cons rfl (fun K hK => ?_) AllReady.nil)
              refine step_append_run rfl _ _ 60 rfl _ _ _ rfl rfl HRR.out ?_
              refine hK _ _ ?_
              clear hK K
              refine wpAny_ready (rs := [10]) (by kernel_rfl) (by simp) (AllReady.cons rfl (fun K hK => ?_) AllReady.nil)
              go_simp
              refine hK _ _ ?_
              clear hK K
              refine wpAny_ready (rs := [11]) (by kernel_rfl) (by simp) (AllReady.cons rfl (fun K hK => ?_) AllReady.nil)
              go_simp
              refine hK _ _ ?_
              clear hK K
              refine wpAny_done (by kernel_rfl) ?_ _
              clear d0 d1 d2 f0 f1 f2
              have HREL : Hid ((w'.setCell ⟨w.heap.size + 2, 2, none⟩ (.slice q2 (k + 1) c2)).ownsRow (w.heap.size + 3) 103 3 (.slice q2 (k + 1) c2) (n.t.take (k + 1)).length (flatB (n.t.take (k + 1)) (us ++ [y]))) := Lib.hid (by
                rw [HT.out, List.length_append, hlen]
                exact ownsRow_setCell_below HOWN.out (by simp only []; omega) _)
              have HRS3 : Hid (RowsI (w'.setCell ⟨w.heap.size + 2, 2, none⟩ (.slice q2 (k + 1) c2)) (n.t.take (k + 1)) (us ++ [y])) := Lib.hid (by
                rw [HT.out]
                exact (HRS2.out.snoc HY.out).map fun u m h => h.set HKM.out (by decide) _ _)
              clear hlen
              go_wp2_with fail
              go_roundw
              case rel => exact ⟨k + 1, q2, c2, us ++ [y], by omega, by go_num, HREL, HRS3, Lib.hid (HKM.out.set 2 (.slice q2 (k + 1) c2)), Lib.hid (HBEL.out.setCell (by simp only []; omega) _), by simpa using hsz, Lib.hid (ownsRow_setCell_below (owns_grown (owns_below HVt.out hb) HO9.out (by decide) hgrow) (by simp only []; omega) _), Lib.hid (ownsRow_setCell_below (owns_grown (owns_below HAt.out hb) HO9.out (by decide) hgrow) (by simp only []; omega) _)⟩
              case measure => simp [intOf]; omega
            · obtain rfl : k = n.t.length := by omega
              have HO' : Hid (wr.ownsRow (w.heap.size + 3) 103 3 (.slice q n.t.length c) n.t.length (flatB n.t us)) := Lib.hid (by have := HO.out; rwa [List.take_length] at this)
              have HRS' : Hid (RowsI wr n.t us) := Lib.hid (by have := HRS.out; rwa [List.take_length] at this)
              have hli : ¬ (n.t.length : Int) < (n.t.length : Int) := by omega
              have hkr : Blk wr (w.heap.size + 1) #[.slice none 0 0, .slice none 0 0, .slice none 0 0] 62 := KR.out.carry HBr.out (by omega)
              have HKR := Lib.hid hkr
              obtain ⟨r0, r1, r2, f0, f1, f2⟩ := hkr.o3
              obtain ⟨d0, d1, d2, -, -, -⟩ := KMr.out.o3
              have hrl := hkr.lt
              have st : ∀ {b e : Nat} {base size : Nat} {v : Value} {m : Nat} {xs : List Value} {W : World} (x : Value), W.ownsRow (w.heap.size + 3) e size v m xs → (W.setCell ⟨w.heap.size + 1, b, none⟩ x).ownsRow (w.heap.size + 3) e size v m xs := fun x h => ownsRow_setCell_below h (by simp only []; omega) x
              have HNV : Hid (NetV (((wr.setCell ⟨w.heap.size + 1, 0, none⟩ (.slice q0 n.v.length c0v)).setCell ⟨w.heap.size + 1, 1, none⟩ (.slice q1 n.a.length c1a)).setCell ⟨w.heap.size + 1, 2, none⟩ (.slice q n.t.length c)) (.agg #[.slice q0 n.v.length c0v, .slice q1 n.a.length c1a, .slice q n.t.length c]) n) := Lib.hid
                ⟨_, _, _, rfl, tris_of_owns (ownsRow_setCell_below (ownsRow_setCell_below (ownsRow_setCell_below HVt.out (by simp only []; omega) _) (by simp only []; omega) _) (by simp only []; omega) _) (by omega),
                  tris_of_owns (ownsRow_setCell_below (ownsRow_setCell_below (ownsRow_setCell_below HAt.out (by simp only []; omega) _) (by simp only []; omega) _) (by simp only []; omega) _) (by omega),
                  tabs_of_owns (ownsRow_setCell_below (ownsRow_setCell_below (ownsRow_setCell_below HO'.out (by simp only []; omega) _) (by simp only []; omega) _) (by simp only []; omega) _) (((HRS'.out.map fun u m h => h.set HKR.out (by decide) 0 _).map fun u m h => h.set (HKR.out.set 0 _) (by decide) 1 _).map fun u m h => h.set ((HKR.out.set 0 _).set 1 _) (by decide) 2 _) (by omega) HC.out⟩
              have HBZ : Hid (Below w.heap.size w (((wr.setCell ⟨w.heap.size + 1, 0, none⟩ (.slice q0 n.v.length c0v)).setCell ⟨w.heap.size + 1, 1, none⟩ (.slice q1 n.a.length c1a)).setCell ⟨w.heap.size + 1, 2, none⟩ (.slice q n.t.length c))) := Lib.hid (by
                iterate 3 (refine Below.setCell ?_ (by simp only []; omega) _)
                exact B0.out.trans (HBr.out.mono (by omega)))
              clear HO HRS st hkr
              go_wp2_with fail
              exact bodyPost_ret (v := .agg #[.slice q0 n.v.length c0v, .slice q1 n.a.length c1a, .slice q n.t.length c]) (by simp [results, Tryz.results25, go_sem]; go_simp) rfl ⟨_, rfl, HNV.out, HBZ.out⟩

end Go.Proofs.YtgihaakgadmidaaGreat
