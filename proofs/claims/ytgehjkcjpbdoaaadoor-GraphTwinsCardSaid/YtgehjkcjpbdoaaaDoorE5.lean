/-
  The graph's calls, by values; the law's own Same: is a graph just that net?
-/
import Derived.Test.YtgehjkcjpbdoaaaDoorE3
import Derived.Test.YtgehjkcjpbdoaaaDoorLaw3O
import Derived.Test.YtgehjkcjpbdoaaaDoorLaid2
import Derived.Test.YtgehjkcjpbdoaaaDoorIntsIn
import Derived.Test.YtgehjkcjpbdoaaaDoorE4
namespace Go.Proofs.YtgehjkcjpbdoaaaDoor
open Go.RowKit

theorem bOn6 {w0 w w' : World} (h : Below w0.heap.size w0 w) (hb : Below w.heap.size w w') : Below w0.heap.size w0 w' := h.trans (hb.mono h.size)
theorem vOf6 {w : World} {v : Value} {n : NetD} (h : NetV w v n) (hn : GrN n) :
    Calls Tryd.prog 13 #[v] w fun e w' => ∃ v, e = .returned v ∧ NetV w' v n ∧ Below w.heap.size w w' := by
  obtain ⟨vq, aq, tq, vc, ac, tc, rfl, hs⟩ := h.shape
  exact of3_any n vq aq tq vc ac tc w hs (by have := hn.few.v; omega) (by have := hn.few.a; omega) (by have := hn.few.t; omega) (fun t ht => by have := hn.few.c t ht; omega)
section
variable {P : Nat → Prop} {w : World} {p : Nat} {n : NetD} {va vt : Value}
theorem vVerts (h : GraphAt P w p n va vt) : Calls Tryd.prog 18 #[gp p] w fun e w' => e = .returned (.int .i64 n.v.length) ∧ Below w.heap.size w w' := by
  obtain ⟨uv, b1, d1, b2, d2, h⟩ := h
  exact (gverts_is h).mono (fun e w2 h => ⟨h.1, h.2 ▸ Below.refl _ _⟩)
theorem vArcs (h : GraphAt P w p n va vt) : Calls Tryd.prog 19 #[gp p] w fun e w' => e = .returned (.int .i64 n.a.length) ∧ Below w.heap.size w w' := by
  obtain ⟨uv, b1, d1, b2, d2, h⟩ := h
  exact (garcs_is h).mono (fun e w2 h => ⟨h.1, h.2 ▸ Below.refl _ _⟩)
theorem vFrom (h : GraphAt P w p n va vt) {k : Nat} (hk : k < n.a.length) {X : Int} (hX : n.a[k].1 = X) : Calls Tryd.prog 20 #[gp p, .int .i64 k] w fun e w' => e = .returned (.int .i64 X) ∧ Below w.heap.size w w' := by
  obtain ⟨uv, b1, d1, b2, d2, h⟩ := h
  exact (hX ▸ gfrom_in h k hk).mono (fun e w2 h => ⟨h.1, h.2 ▸ Below.refl _ _⟩)
theorem vFrom0 (h : GraphAt P w p n va vt) {a : Int} (ha : n.there a = false) : Calls Tryd.prog 20 #[gp p, .int .i64 a] w fun e w' => e = .returned (.int .i64 (-1)) ∧ Below w.heap.size w w' := by
  obtain ⟨uv, b1, d1, b2, d2, h⟩ := h
  exact (gfrom_out h a ha).mono (fun e w2 h => ⟨h.1, h.2 ▸ Below.refl _ _⟩)
theorem vTo (h : GraphAt P w p n va vt) {k : Nat} (hk : k < n.a.length) {X : Int} (hX : n.a[k].2.1 = X) : Calls Tryd.prog 21 #[gp p, .int .i64 k] w fun e w' => e = .returned (.int .i64 X) ∧ Below w.heap.size w w' := by
  obtain ⟨uv, b1, d1, b2, d2, h⟩ := h
  exact (hX ▸ gto_in h k hk).mono (fun e w2 h => ⟨h.1, h.2 ▸ Below.refl _ _⟩)
theorem vTo0 (h : GraphAt P w p n va vt) {a : Int} (ha : n.there a = false) : Calls Tryd.prog 21 #[gp p, .int .i64 a] w fun e w' => e = .returned (.int .i64 (-1)) ∧ Below w.heap.size w w' := by
  obtain ⟨uv, b1, d1, b2, d2, h⟩ := h
  exact (gto_out h a ha).mono (fun e w2 h => ⟨h.1, h.2 ▸ Below.refl _ _⟩)
theorem vWeight (h : GraphAt P w p n va vt) {k : Nat} (hk : k < n.a.length) {X : Int} (hX : n.a[k].2.2 = X) : Calls Tryd.prog 22 #[gp p, .int .i64 k] w fun e w' => e = .returned (.int .i64 X) ∧ Below w.heap.size w w' := by
  obtain ⟨uv, b1, d1, b2, d2, h⟩ := h
  exact (hX ▸ gweight_in h k hk).mono (fun e w2 h => ⟨h.1, h.2 ▸ Below.refl _ _⟩)
theorem vWeight0 (h : GraphAt P w p n va vt) {a : Int} (ha : n.there a = false) : Calls Tryd.prog 22 #[gp p, .int .i64 a] w fun e w' => e = .returned (.int .i64 (1152921504606846976)) ∧ Below w.heap.size w w' := by
  obtain ⟨uv, b1, d1, b2, d2, h⟩ := h
  exact (gweight_out h a ha).mono (fun e w2 h => ⟨h.1, h.2 ▸ Below.refl _ _⟩)
theorem vPlace0 (h : GraphAt P w p n va vt) {a : Int} (ha : n.there a = false) : Calls Tryd.prog 17 #[gp p, .int .i64 a] w fun e w' => e = .returned (.tuple #[.int .i64 (-1), .int .i64 (-1)]) ∧ Below w.heap.size w w' := by
  obtain ⟨uv, b1, d1, b2, d2, h⟩ := h
  exact (gplace_out h a ha).mono (fun e w2 h => ⟨h.1, h.2 ▸ Below.refl _ _⟩)
theorem vPlace (h : GraphAt P w p n va vt) {k : Nat} (hk : k < n.a.length) {X Y : Int} (hX : inP n k = X) (hY : outP n k = Y) : Calls Tryd.prog 17 #[gp p, .int .i64 k] w fun e w' => e = .returned (.tuple #[.int .i64 X, .int .i64 Y]) ∧ Below w.heap.size w w' := by
  obtain ⟨uv, b1, d1, b2, d2, h⟩ := h
  rw [← hX, ← hY]
  exact gplace_in h k hk
theorem vTurnG (h : GraphAt P w p n va vt) (hn : GrN n) {a b X : Int} (hX : n.turn a b = X) : Calls Tryd.prog 23 #[gp p, .int .i64 a, .int .i64 b] w fun e w' => e = .returned (.int .i64 X) ∧ Below w.heap.size w w' := by
  obtain ⟨uv, b1, d1, b2, d2, h⟩ := h
  rw [← hX]
  exact gturn_any h hn a b
theorem vInsG (h : GraphAt P w p n va vt) (hn : GrN n) (x : Int) {l : List Int} (hl : insL n.a x = l) : Calls Tryd.prog 27 #[gp p, .int .i64 x] w fun e w' => ∃ v, e = .returned v ∧ I64s w' v l ∧ Below w.heap.size w w' := by
  obtain ⟨uv, b1, d1, b2, d2, h⟩ := h
  rw [← hl]
  exact gins_any h hn x
theorem vNetG (h : GraphAt P w p n va vt) (hn : GrN n) : Calls Tryd.prog 9 #[gp p] w fun e w' => ∃ v, e = .returned v ∧ NetV w' v n ∧ Below w.heap.size w w' :=
  (gnet_own h hn).mono fun _ _ ⟨v, h1, h2, h3⟩ => ⟨v, h1, h2.net, h3⟩
end

set_option maxHeartbeats 8000000 in
set_option maxRecDepth 100000 in
theorem same6_any {P : Nat → Prop} {w : World} {p : Nat} {n : NetD} {va vt u : Value} (h : GraphAt P w p n va vt) (hn : GrN n) (hu : NetV w u n) :
    Calls Tryd.prog 10 #[gp p, u] w fun e w' => e = .returned (.bool true) ∧ Below w.heap.size w w' := by
  obtain ⟨vq, aq, tq, vc, ac, tc, rfl, -⟩ := hu.shape
  have HG := Lib.hid h
  have HN := Lib.hid hn
  have hb0 : Below w.heap.size w (w.alloc (.cells #[.slice vq n.v.length vc, .slice aq n.a.length ac, .slice tq n.t.length tc] 26)) := below_new _
  have VA0 := Lib.hid (hu.below hb0)
  have hsa : n.a.length ≤ 300 := hn.few.a
  clear h hn hu hb0
  go_enter Tryd.func10, Tryd.ntmps10
  go_wp2_with fail
  obtain ⟨W0, hW0⟩ := named (w.alloc (.cells #[.slice vq n.v.length vc, .slice aq n.a.length ac, .slice tq n.t.length tc] 26))
  rw [← hW0] at VA0 ⊢
  have B0 : Hid (Below w.heap.size w W0) := by rw [hW0]; exact Lib.hid (below_new _)
  have KA : Hid (Blk W0 w.heap.size #[.slice vq n.v.length vc, .slice aq n.a.length ac, .slice tq n.t.length tc] 26) := by rw [hW0]; exact Lib.hid (Blk.new _ _ _ _ rfl)
  have VA := VA0
  clear hW0 VA0
  have hGS : Grows (fun w' => Below W0.heap.size W0 w') := Grows.below W0
  refine' wp_growL _ (fun w' => Below W0.heap.size W0 w') [[], [0], [1], [2], [2, 3], [2], [2, 5], [2, 6], [2, 4, 7], [2, 8], [9], [10], [10, 11], [10], [10, 13], [10, 14], [10, 12, 15], [10, 16], [17], [18], [18, 19], [18, 20], [18], [18, 21, 22], [18, 23], [18, 24]] (Fact.lit _ :: Fact.lit _ :: Fact.lit _ :: Fact.lit _ :: Fact.lit _ :: Fact.lit _ :: Fact.lit _ :: Fact.lit _ :: Fact.lit _ :: Fact.lit _ :: Fact.lit _ :: Fact.lit _ :: Fact.lit _ :: Fact.lit _ :: Fact.lit _ :: Fact.lit _ :: Fact.lit _ :: Fact.lit _ :: Fact.lit _ :: Fact.lit _ :: Fact.prop _ _ :: Fact.prop _ _ :: Fact.lit _ :: Fact.lit _ :: Fact.lit _ :: Fact.lit _ :: []) (by kernel_rfl) rfl (by kernel_rfl) (Below.refl _ _).drew ?seqsa
  case' seqsa => skip
  iterate 4 ((first | (apply grow_skip; (case hf => rfl); (case hw => rfl)) | (apply grow_lit; (case hf => rfl); (case hw => rfl); (case hrun => (intro w' hS H; clear H; (obtain ⟨a0, a1, a2, -, -, -⟩ := (KA.out.keep hS).o3); clear hS; go_simp; first | done | exact rfl)))); (case hc => (simp only [Act.put, List.setIfInBounds_toArray, List.set_cons_zero, List.set_cons_succ]; first | done | exact rfl)); (try (case hj => rfl)))
  (refine' grow_call (u := .int .i64 n.v.length) rfl Tryd.func18 (by kernel_rfl) rfl hGS rfl ?wt13 ?run13 ?put13 ?next13; (case wt13 => rfl); (case run13 => (intro w' hS H; exact vVerts (HG.out.old (B0.out.trans (hS.mono B0.out.size))))); (case put13 => (simp only [Act.put, List.setIfInBounds_toArray, List.set_cons_zero, List.set_cons_succ]; first | done | exact rfl)); (case' next13 => skip))
  iterate 7 ((first | (apply grow_skip; (case hf => rfl); (case hw => rfl)) | (apply grow_lit; (case hf => rfl); (case hw => rfl); (case hrun => (intro w' hS H; clear H; (obtain ⟨a0, a1, a2, -, -, -⟩ := (KA.out.keep hS).o3); clear hS; go_simp; first | done | exact rfl)))); (case hc => (simp only [Act.put, List.setIfInBounds_toArray, List.set_cons_zero, List.set_cons_succ]; first | done | exact rfl)); (try (case hj => rfl)))
  (refine' grow_call (u := .int .i64 n.a.length) rfl Tryd.func19 (by kernel_rfl) rfl hGS rfl ?wt14 ?run14 ?put14 ?next14; (case wt14 => rfl); (case run14 => (intro w' hS H; exact vArcs (HG.out.old (B0.out.trans (hS.mono B0.out.size))))); (case put14 => (simp only [Act.put, List.setIfInBounds_toArray, List.set_cons_zero, List.set_cons_succ]; first | done | exact rfl)); (case' next14 => skip))
  iterate 7 ((first | (apply grow_skip; (case hf => rfl); (case hw => rfl)) | (apply grow_lit; (case hf => rfl); (case hw => rfl); (case hrun => (intro w' hS H; clear H; (obtain ⟨a0, a1, a2, -, -, -⟩ := (KA.out.keep hS).o3); clear hS; go_simp; first | done | exact rfl)))); (case hc => (simp only [Act.put, List.setIfInBounds_toArray, List.set_cons_zero, List.set_cons_succ]; first | done | exact rfl)); (try (case hj => rfl)))
  (refine' grow_callP (p := fun v w => NetV w v n) (hp := fun v w w' h hb => h.below hb) rfl Tryd.func9 (by kernel_rfl) rfl hGS rfl ?wt15 ?run15 ?put15 ?next15; (case wt15 => rfl); (case run15 => (intro w' hS H; exact vNetG (HG.out.old (B0.out.trans (hS.mono B0.out.size))) HN.out)); (case put15 => (intro v; simp only [Act.put, List.setIfInBounds_toArray, List.set_cons_zero, List.set_cons_succ]; first | done | exact rfl)); (case' next15 => intro v20))
  (refine' grow_callP (p := fun v w => NetV w v n) (hp := fun v w w' h hb => h.below hb) rfl Tryd.func13 (by kernel_rfl) rfl hGS rfl ?wt16 ?run16 ?put16 ?next16; (case wt16 => rfl); (case run16 => (intro w' hS H; (have h1 : NetV w' v20 n := H 20 (by decide)); exact vOf6 h1 HN.out)); (case put16 => (intro v; simp only [Act.put, List.setIfInBounds_toArray, List.set_cons_zero, List.set_cons_succ]; first | done | exact rfl)); (case' next16 => intro v21))
  iterate 1 ((first | (apply grow_skip; (case hf => rfl); (case hw => rfl)) | (apply grow_lit; (case hf => rfl); (case hw => rfl); (case hrun => (intro w' hS H; clear H; (obtain ⟨a0, a1, a2, -, -, -⟩ := (KA.out.keep hS).o3); clear hS; go_simp; first | done | exact rfl)))); (case hc => (simp only [Act.put, List.setIfInBounds_toArray, List.set_cons_zero, List.set_cons_succ]; first | done | exact rfl)); (try (case hj => rfl)))
  (refine' grow_call (u := .bool true) rfl Tryd.func12 (by kernel_rfl) rfl hGS rfl ?wt17 ?run17 ?put17 ?next17; (case wt17 => rfl); (case run17 => (intro w' hS H; (have h1 : NetV w' v21 n := H 21 (by decide)); exact rvsame h1 (VA.out.below hS) (by simp [sameN]))); (case put17 => (simp only [Act.put, List.setIfInBounds_toArray, List.set_cons_zero, List.set_cons_succ]; first | done | exact rfl)); (case' next17 => skip))
  iterate 2 ((first | (apply grow_skip; (case hf => rfl); (case hw => rfl)) | (apply grow_lit; (case hf => rfl); (case hw => rfl); (case hrun => (intro w' hS H; clear H; (obtain ⟨a0, a1, a2, -, -, -⟩ := (KA.out.keep hS).o3); clear hS; go_simp; first | done | exact rfl)))); (case hc => (simp only [Act.put, List.setIfInBounds_toArray, List.set_cons_zero, List.set_cons_succ]; first | done | exact rfl)); (try (case hj => rfl)))
  intro w1 hb _
  have KA1 := Lib.hid (KA.out.keep hb)
  have VA1 := Lib.hid (VA.out.below hb)
  have B1 := Lib.hid (B0.out.trans (hb.mono B0.out.size))
  clear hb hGS KA VA B0
  go_wp2_with fail
  go_loopw [5] (fun i wr => ∃ k : Nat, k ≤ n.a.length ∧ i = .int .i64 k ∧ Hid (Below w1.heap.size w1 wr)) (fun i _ => n.a.length - (intOf i).toNat)
  case atStart => exact ⟨0, Nat.zero_le _, rfl, Lib.hid (Below.refl _ _)⟩
  case round =>
    obtain ⟨k, hk, rfl, HB⟩ := hrel
    have KAr := Lib.hid (KA1.out.keep HB.out)
    have VAr := Lib.hid (VA1.out.below HB.out)
    have Br := Lib.hid (B1.out.trans (HB.out.mono B1.out.size))
    obtain ⟨a0, a1, a2, -, -, -⟩ := KAr.out.o3
    by_cases hlt : k < n.a.length
    · have hli : (k : Int) < (n.a.length : Int) := by omega
      obtain ⟨ab, ao, rfl, x0, x1, x2⟩ := VAr.out.s.a.at hlt
      obtain ⟨A0, eA0⟩ : ∃ x, n.a[k].1 = x := ⟨_, rfl⟩
      obtain ⟨A1, eA1⟩ : ∃ x, n.a[k].2.1 = x := ⟨_, rfl⟩
      obtain ⟨A2, eA2⟩ : ∃ x, n.a[k].2.2 = x := ⟨_, rfl⟩
      rw [eA0] at x0
      rw [eA1] at x1
      rw [eA2] at x2
      have X0 := Lib.hid x0
      have X1 := Lib.hid x1
      have X2 := Lib.hid x2
      have EA0 := Lib.hid eA0
      have EA1 := Lib.hid eA1
      have EA2 := Lib.hid eA2
      clear x0 x1 x2 eA0 eA1 eA2
      go_wp2_with fail
      clear a0 a1 a2
      have hGS : Grows (fun w' => Below wr.heap.size wr w') := Grows.below wr
      refine' wp_growL _ (fun w' => Below wr.heap.size wr w') [[], [], [0, 1], [], [3], [], [4, 5], [6], [7], [2, 8], [9], [10], [10], [10, 11, 12], [10], [10, 14], [10], [10, 15, 16], [10, 17], [10, 18], [10, 13, 19], [10, 20], [21], [22], [22], [22, 23, 24], [22], [22, 26], [22], [22, 27, 28], [22, 29], [22, 30], [22, 25, 31], [22, 32]] (Fact.lit _ :: Fact.lit _ :: Fact.lit _ :: Fact.lit _ :: Fact.lit _ :: Fact.lit _ :: Fact.lit _ :: Fact.lit _ :: Fact.lit _ :: Fact.lit _ :: Fact.lit _ :: Fact.lit _ :: Fact.lit _ :: Fact.lit _ :: Fact.lit _ :: Fact.lit _ :: Fact.lit _ :: Fact.lit _ :: Fact.lit _ :: Fact.lit _ :: Fact.lit _ :: Fact.lit _ :: Fact.lit _ :: Fact.lit _ :: Fact.lit _ :: Fact.lit _ :: Fact.lit _ :: Fact.lit _ :: Fact.lit _ :: Fact.lit _ :: Fact.lit _ :: Fact.lit _ :: Fact.lit _ :: Fact.lit _ :: []) (by kernel_rfl) rfl (by kernel_rfl) (Below.refl _ _).drew ?seqsb
      case' seqsb => skip
      iterate 2 ((first | (apply grow_skip; (case hf => rfl); (case hw => rfl)) | (apply grow_lit; (case hf => rfl); (case hw => rfl); (case hrun => (intro w' hS H; clear H; (obtain ⟨a0, a1, a2, -, -, -⟩ := (KAr.out.keep hS).o3); (have x0 := keep hS X0.out); (have x1 := keep hS X1.out); (have x2 := keep hS X2.out); (have hl0 := World.block_lt_of_cell? w' _ x0); clear hS; go_simp; first | done | exact rfl)))); (case hc => (simp only [Act.put, List.setIfInBounds_toArray, List.set_cons_zero, List.set_cons_succ]; first | done | exact rfl)); (try (case hj => rfl)))
      (refine' grow_call (u := .int .i64 A0) rfl Tryd.func20 (by kernel_rfl) rfl hGS rfl ?wt18 ?run18 ?put18 ?next18; (case wt18 => rfl); (case run18 => (intro w' hS H; exact vFrom (HG.out.old (Br.out.trans (hS.mono Br.out.size))) hlt EA0.out)); (case put18 => (simp only [Act.put, List.setIfInBounds_toArray, List.set_cons_zero, List.set_cons_succ]; first | done | exact rfl)); (case' next18 => skip))
      iterate 10 ((first | (apply grow_skip; (case hf => rfl); (case hw => rfl)) | (apply grow_lit; (case hf => rfl); (case hw => rfl); (case hrun => (intro w' hS H; clear H; (obtain ⟨a0, a1, a2, -, -, -⟩ := (KAr.out.keep hS).o3); (have x0 := keep hS X0.out); (have x1 := keep hS X1.out); (have x2 := keep hS X2.out); (have hl0 := World.block_lt_of_cell? w' _ x0); clear hS; go_simp; first | done | exact rfl)))); (case hc => (simp only [Act.put, List.setIfInBounds_toArray, List.set_cons_zero, List.set_cons_succ]; first | done | exact rfl)); (try (case hj => rfl)))
      (refine' grow_call (u := .int .i64 A1) rfl Tryd.func21 (by kernel_rfl) rfl hGS rfl ?wt19 ?run19 ?put19 ?next19; (case wt19 => rfl); (case run19 => (intro w' hS H; exact vTo (HG.out.old (Br.out.trans (hS.mono Br.out.size))) hlt EA1.out)); (case put19 => (simp only [Act.put, List.setIfInBounds_toArray, List.set_cons_zero, List.set_cons_succ]; first | done | exact rfl)); (case' next19 => skip))
      iterate 11 ((first | (apply grow_skip; (case hf => rfl); (case hw => rfl)) | (apply grow_lit; (case hf => rfl); (case hw => rfl); (case hrun => (intro w' hS H; clear H; (obtain ⟨a0, a1, a2, -, -, -⟩ := (KAr.out.keep hS).o3); (have x0 := keep hS X0.out); (have x1 := keep hS X1.out); (have x2 := keep hS X2.out); (have hl0 := World.block_lt_of_cell? w' _ x0); clear hS; go_simp; first | done | exact rfl)))); (case hc => (simp only [Act.put, List.setIfInBounds_toArray, List.set_cons_zero, List.set_cons_succ]; first | done | exact rfl)); (try (case hj => rfl)))
      (refine' grow_call (u := .int .i64 A2) rfl Tryd.func22 (by kernel_rfl) rfl hGS rfl ?wt20 ?run20 ?put20 ?next20; (case wt20 => rfl); (case run20 => (intro w' hS H; exact vWeight (HG.out.old (Br.out.trans (hS.mono Br.out.size))) hlt EA2.out)); (case put20 => (simp only [Act.put, List.setIfInBounds_toArray, List.set_cons_zero, List.set_cons_succ]; first | done | exact rfl)); (case' next20 => skip))
      iterate 8 ((first | (apply grow_skip; (case hf => rfl); (case hw => rfl)) | (apply grow_lit; (case hf => rfl); (case hw => rfl); (case hrun => (intro w' hS H; clear H; (obtain ⟨a0, a1, a2, -, -, -⟩ := (KAr.out.keep hS).o3); (have x0 := keep hS X0.out); (have x1 := keep hS X1.out); (have x2 := keep hS X2.out); (have hl0 := World.block_lt_of_cell? w' _ x0); clear hS; go_simp; first | done | exact rfl)))); (case hc => (simp only [Act.put, List.setIfInBounds_toArray, List.set_cons_zero, List.set_cons_succ]; first | done | exact rfl)); (try (case hj => rfl)))
      intro w2 hb _
      have HB2 := Lib.hid (HB.out.trans (hb.mono HB.out.size))
      clear hb hGS
      go_wp2_with fail
      go_roundw
      case rel => exact ⟨k + 1, by omega, by go_num, HB2⟩
      case measure => simp [intOf]; omega
    · have hli : ¬ (k : Int) < (n.a.length : Int) := by omega
      go_wp2_with fail
      go_ret
      exact ⟨rfl, Br.out⟩

end Go.Proofs.YtgehjkcjpbdoaaaDoor

/-
  A law's one graph: what is carried from call to call.
-/
namespace Go.Proofs.YtgehjkcjpbdoaaaDoor
open Go.RowKit

/-- A graph that was made behind w0, and nothing that was there in w0 has turned. -/
structure Gr1 (w0 w : World) (p : Nat) (n : NetD) (va vt : Value) : Prop where
  g : GraphAt (Off [va, vt]) w p n va vt
  n : GrN n
  b : Below w0.heap.size w0 w
  o : ∀ b, b < w0.heap.size → Off [va, vt] b
section
variable {w0 w w' : World} {p : Nat} {n m : NetD} {va vt v : Value}
theorem Gr1.old (h : Gr1 w0 w p n va vt) (hb : Below w.heap.size w w') : Gr1 w0 w' p n va vt := ⟨h.g.old hb, h.n, bOn6 h.b hb, h.o⟩
theorem Gr1.mut (h : Gr1 w0 w p n va vt) : ∀ v ∈ [va, vt], MutR w v := by
  intro v hv
  simp at hv
  rcases hv with rfl | rfl
  · exact h.g.arcs
  · exact h.g.tabs
theorem Gr1.keepB (h : Gr1 w0 w p n va vt) (hk : Keep (Off [va, vt]) w w') : Below w0.heap.size w0 w' := h.b.trans (hk.below h.o h.b.size)
/-- A block of another kind stays. -/
theorem Gr1.blk (h : Gr1 w0 w p n va vt) (hk : Keep (Off [va, vt]) w w') {b : Nat} {cs : Array Value} {t : TypeId} (hb : Blk w b cs t) (h1 : 42 ≠ t) (h2 : 77 ≠ t) : Blk w' b cs t := hk.blk hb (off_blk h.mut hb h1 h2)
theorem Off.two {va vt : Value} {b : Nat} (h1 : ∀ x, va.ownBlock = some x → x ≠ b) (h2 : ∀ x, vt.ownBlock = some x → x ≠ b) : Off [va, vt] b := by
  intro v hv e
  simp at hv
  rcases hv with rfl | rfl
  · exact h1 b e rfl
  · exact h2 b e rfl
theorem vNewG (hb0 : Below w0.heap.size w0 w) (h : NetV w v n) (hn : GrN n) (hok : chkN n = fltOK) :
    Calls Tryd.prog 7 #[v] w fun e w' => ∃ p va vt, e = .returned (.tuple #[gp p, .nilIface]) ∧ Gr1 w0 w' p n va vt ∧ Below w.heap.size w w' := by
  refine (gnew_ok h hn hok).mono ?_
  rintro e w' ⟨p, va, vt, h1, h2, h3, h4, h5⟩
  have hz := hb0.size
  exact ⟨p, va, vt, h1, ⟨h2.mono (fun b h => h.1), hn, bOn6 hb0 h5, fun b hb => Off.two (fun x e => by have := h3 x e; omega) (fun x e => by have := h4 x e; omega)⟩, h5⟩
theorem vSetG (h : Gr1 w0 w p n va vt) {k : Nat} (hk : k < n.a.length) {c : Int} (hc : wgt c = true) (hm : (⟨n.v, n.a.set k (n.a[k].1, n.a[k].2.1, c), n.t⟩ : NetD) = m) :
    Calls Tryd.prog 15 #[gp p, .int .i64 k, .int .i64 c] w fun e w' => e = .returned .nilIface ∧ Gr1 w0 w' p m va vt ∧ Keep (Off [va, vt]) w w' := by
  obtain ⟨uv, b1, d1, b2, d2, hg⟩ := h.g
  refine (gset_ok hg (Off.sub (by simp)) k hk c hc).mono ?_
  rintro e w' ⟨h1, h2, h3⟩
  have h4 : Keep (Off [va, vt]) w w' := h3.mono (Off.sub (by simp))
  subst hm
  exact ⟨h1, ⟨⟨uv, b1, d1, b2, d2, h2⟩, grn_setW h.n hk hc, h.keepB h4, h.o⟩, h4⟩
theorem vBendG (h : Gr1 w0 w p n va vt) {k : Nat} (hk : k < n.t.length) {x y c : Int} (hx : 0 ≤ x ∧ x < n.t[k].1 ∧ 0 ≤ y ∧ y < n.t[k].2.1) (hc : wgt c = true) (hm : (⟨n.v, n.a, n.t.set k (n.t[k].1, n.t[k].2.1, n.t[k].2.2.set (x * n.t[k].2.1 + y).toNat c)⟩ : NetD) = m) :
    Calls Tryd.prog 16 #[gp p, .int .i64 k, .int .i64 x, .int .i64 y, .int .i64 c] w fun e w' => e = .returned .nilIface ∧ Gr1 w0 w' p m va vt ∧ Keep (Off [va, vt]) w w' := by
  obtain ⟨uv, b1, d1, b2, d2, hg⟩ := h.g
  refine (gbend_ok hg h.n (Off.sub (by simp)) (fun b hb => off_new h.mut hb) k hk x y c hx hc).mono ?_
  rintro e w' ⟨h1, h2, h3⟩
  have h4 : Keep (Off [va, vt]) w w' := h3.mono (Off.sub (by simp))
  subst hm
  exact ⟨h1, ⟨⟨uv, b1, d1, b2, d2, h2⟩, grn_setT h.n hk _ hc, h.keepB h4, h.o⟩, h4⟩
theorem vSetE {P : Nat → Prop} (h : GraphAt P w p n va vt) (a c : Int) (c0 : -9223372036854775808 ≤ c) (c1 : c ≤ 9223372036854775807) {F : Flt} (hF : (setN n a c).2 = F) (hne : ¬ F.2 = 0) :
    Calls Tryd.prog 15 #[gp p, .int .i64 a, .int .i64 c] w fun e w' => ∃ er, e = .returned er ∧ FaultV w' er F.1 F.2 ∧ Below w.heap.size w w' := by
  obtain ⟨uv, b1, d1, b2, d2, hg⟩ := h
  subst hF
  exact gset_err hg a c c0 c1 hne
theorem vBendE {P : Nat → Prop} (h : GraphAt P w p n va vt) (hn : GrN n) (t x y c : Int) (c0 : -9223372036854775808 ≤ c) (c1 : c ≤ 9223372036854775807) {F : Flt} (hF : (bendN n t x y c).2 = F) (hne : ¬ F.2 = 0) :
    Calls Tryd.prog 16 #[gp p, .int .i64 t, .int .i64 x, .int .i64 y, .int .i64 c] w fun e w' => ∃ er, e = .returned er ∧ FaultV w' er F.1 F.2 ∧ Below w.heap.size w w' := by
  obtain ⟨uv, b1, d1, b2, d2, hg⟩ := h
  unfold bendN at hF
  by_cases ht : t < 0 ∨ n.t.length ≤ t
  · rw [if_pos ht] at hF
    subst hF
    exact gbend_name hg t x y c ht
  · rw [if_neg ht] at hF
    obtain ⟨k, rfl⟩ : ∃ k : Nat, t = k := ⟨t.toNat, by omega⟩
    have hk : k < n.t.length := by omega
    rw [NetGood.tab_at k hk] at hF
    by_cases he : (withW n.t[k].1 n.t[k].2.1 x y c).2 = 0
    · rw [if_pos he] at hF
      subst hF
      exact absurd rfl hne
    · rw [if_neg he] at hF
      subst hF
      exact gbend_with hg hn k hk x y c c0 c1 he
end

end Go.Proofs.YtgehjkcjpbdoaaaDoor
