/-
  The law's own Of: a net as the document's.
-/
import Derived.Test.YtgehjkcjpbdoaaaDoorLaw3R
import Derived.Test.YtgehjkcjpbdoaaaDoorLaw3T
import Derived.Test.YtgehjkcjpbdoaaaDoorA2
namespace Go.Proofs.YtgehjkcjpbdoaaaDoor
open Go.RowKit

theorem of_exact (I O : Int) (q : Option Addr) (n c : Nat) (w : World) : Calls Tryd.prog 39 #[.agg #[.int .i64 I, .int .i64 O, .slice q n c]] w fun ev w' => ev = .returned (.agg #[.int .i64 I, .int .i64 O, .slice q n c]) ∧ Below w.heap.size w w' := by
  go_enter Tryd.func39, Tryd.ntmps39
  go_wp2
  exact bodyPost_ret (v := .agg #[.int .i64 I, .int .i64 O, .slice q n c]) (by simp [results, Tryd.results39, go_sem]) rfl ⟨rfl, below_alloc2 _ _⟩
/-- v is a literal of one table, its row y. -/
def LitX (A : Tab) (y v : Value) (w : World) : Prop := ∃ g, v = .slice (some ⟨g, 0, none⟩) 1 1 ∧ Blk w g #[.int .i64 A.1, .int .i64 A.2.1, y] 79
theorem LitX.below {A : Tab} {y v : Value} {w w' : World} (h : LitX A y v w) (hb : Below w.heap.size w w') : LitX A y v w' := by
  obtain ⟨g, e, h⟩ := h
  exact ⟨g, e, h.keep hb⟩
theorem appX {W : World} {base : Nat} {v u y : Value} {l : List Tab} {us : List Value} {t : Tab} (h : W.ownsRow base 79 3 v l.length (flatB l us)) (hus : us.length = l.length) (hu : LitX t y u W) (hy1 : y.oneCell' = true) (hl : l.length ≤ 100000) (hb : base ≤ W.heap.size) :
    ∃ q c w', (Builtin.append_ #[24, 24] 24 #[v, u]).run Tryd.prog W = .ok (.slice q (l.length + 1) c) w' ∧ w'.ownsRow base 79 3 (.slice q (l.length + 1) c) (l.length + 1) (flatB (l ++ [t]) (us ++ [y])) ∧ W.grownBy w' v.ownBlock := by
  obtain ⟨i0, hi, hz0, hz1, hz2⟩ := info_parts infoRTab
  obtain ⟨g, rfl, hk⟩ := hu
  obtain ⟨v', w', hr, h1, h2, -⟩ := run_append_own (P := Tryd.prog) W base 24 24 79 i0 (.agg #[.int .i64 0, .int .i64 0, .slice none 0 0]) 3 40 Tryd.underlying24 hi hz0 hz1 hz2 rfl (by decide) v l.length (flatB l us) h ⟨g, 0, none⟩ 1 1 [.int .i64 t.1, .int .i64 t.2.1, y] rfl
    (fun j u hj => by
      obtain ⟨k0, k1, k2, -, -, -⟩ := hk.o3
      match j, hj with
      | 0, hj => simp at hj; subst hj; simpa [Addr.add] using k0
      | 1, hj => simp at hj; subst hj; simpa [Addr.add] using k1
      | 2, hj => simp at hj; subst hj; simpa [Addr.add] using k2) (by intro u hu; simp at hu; rcases hu with rfl | rfl | rfl; rfl; rfl; exact hy1) (by simp [maxLen]; omega) (by omega) hb
  obtain ⟨q, c, rfl⟩ := own_shape h1
  exact ⟨q, c, w', hr, by rw [flatB_append _ _ _ _ hus]; exact h1, h2⟩
/-- The rows of tables, in a world. -/
def RowsS (w : World) (l : List Tab) (us : List Value) : Prop := us.length = l.length ∧ ∀ (i : Nat) (t : Tab) (u : Value), l[i]? = some t → us[i]? = some u → I64s w u t.2.2
theorem RowsS.snoc {w : World} {l : List Tab} {us : List Value} (h : RowsS w l us) {t : Tab} {u : Value} (hu : I64s w u t.2.2) : RowsS w (l ++ [t]) (us ++ [u]) := by
  refine ⟨by simp [h.1], fun i t' u' h1 h2 => ?_⟩
  by_cases hi : i < l.length
  · rw [List.getElem?_append_left hi] at h1
    rw [List.getElem?_append_left (by rw [h.1]; exact hi)] at h2
    exact h.2 i t' u' h1 h2
  · rw [List.getElem?_append_right (by omega)] at h1
    rw [List.getElem?_append_right (by rw [h.1]; omega), h.1] at h2
    have hz : i - l.length = 0 := by
      have := (List.getElem?_eq_some_iff.1 h1).1
      simp at this
      omega
    rw [hz] at h1 h2
    simp at h1 h2
    subst h1
    subst h2
    exact hu
theorem tabs_of_rowsS {w w0 : World} {base : Nat} {e : TypeId} {v : Value} {l : List Tab} {us : List Value} (h : w.ownsRow base e 3 v l.length (flatB l us)) (hr : RowsS w0 l us) (hb : Below w0.heap.size w0 w) (hl : l.length ≤ 9223372036854775807) : Tabs w v l := by
  rcases h.2 with ⟨rfl, e0⟩ | ⟨g, cap, cur, rfl, _, _, hnc, hcm, _, _⟩
  · have : l = [] := List.length_eq_zero_iff.1 e0
    subst this
    exact Or.inl ⟨rfl, none, 0, rfl, fun _ => rfl⟩
  · refine Or.inr ⟨hl, g, 0, cap, hnc, by unfold maxLen at hcm; omega, rfl, fun i hi => ?_⟩
    have hi' : i < us.length := by rw [hr.1]; exact hi
    obtain ⟨a, b, c⟩ := flatB_at l us i hi hi'
    rw [Nat.zero_add]
    exact ⟨us[i], (h.cellAt _ (by omega)).trans a, (h.cellAt _ (by omega)).trans b, (h.cellAt _ (by omega)).trans c, (hr.2 i l[i] us[i] (List.getElem?_eq_getElem hi) (List.getElem?_eq_getElem hi')).below hb⟩

set_option maxHeartbeats 8000000 in
set_option maxRecDepth 100000 in
theorem of3_any (n : NetD) (vq aq tq : Option Addr) (vc ac tc : Nat) (w : World) (h : NetS w n vq aq tq vc ac tc) (hv : n.v.length ≤ 10000) (ha : n.a.length ≤ 100000) (ht : n.t.length ≤ 1000) (hc : ∀ t ∈ n.t, t.2.2.length ≤ 1000) :
    Calls Tryd.prog 13 #[netVal n vq aq tq vc ac tc] w fun e w' => ∃ v, e = .returned v ∧ NetV w' v n ∧ Below w.heap.size w w' := by
  have HC := Lib.hid hc
  have HS := Lib.hid h
  clear hc h
  go_enter Tryd.func13, Tryd.ntmps13
  go_wp2_with fail
  obtain ⟨W0, hW0⟩ := named (((w.alloc (.cells #[.slice vq n.v.length vc, .slice aq n.a.length ac, .slice tq n.t.length tc] 34)).alloc (.cells #[.slice none 0 0, .slice none 0 0, .slice none 0 0] 26)).alloc (.cells #[.slice none 0 0, .slice none 0 0, .slice none 0 0] 26))
  rw [← hW0]
  have hb0 : Below w.heap.size w W0 := by rw [hW0]; exact (below_alloc2 _ _).alloc (by simp; omega) _
  have z0 : W0.heap.size = w.heap.size + 3 := by rw [hW0]; simp
  have KN : Hid (Blk W0 w.heap.size #[.slice vq n.v.length vc, .slice aq n.a.length ac, .slice tq n.t.length tc] 34) := by rw [hW0]; exact Lib.hid (((Blk.new _ _ _ _ rfl).old _).old _)
  have KR : Hid (Blk W0 (w.heap.size + 1) #[.slice none 0 0, .slice none 0 0, .slice none 0 0] 26) := by rw [hW0]; exact Lib.hid ((Blk.new _ _ _ _ (by simp)).old _)
  have KM : Hid (Blk W0 (w.heap.size + 2) #[.slice none 0 0, .slice none 0 0, .slice none 0 0] 26) := by rw [hW0]; exact Lib.hid (Blk.new _ _ _ _ (by simp))
  have B0 := Lib.hid hb0
  have hz0 : w.heap.size + 3 ≤ W0.heap.size := by omega
  clear hW0 hb0 z0
  go_loopw [4] (fun i wr => ∃ (k : Nat) (q : Option Addr) (c : Nat), k ≤ n.v.length ∧ i = .int .i64 k ∧ Hid (wr.ownsRow (w.heap.size + 3) 72 3 (.slice q k c) (n.v.take k).length (flatT (n.v.take k))) ∧ Hid (Blk wr (w.heap.size + 2) #[.slice q k c, .slice none 0 0, .slice none 0 0] 26) ∧ Hid (Below (w.heap.size + 2) W0 wr) ∧ w.heap.size + 3 ≤ wr.heap.size) (fun i _ => n.v.length - (intOf i).toNat)
  case atStart => exact ⟨0, none, 0, Nat.zero_le _, rfl, Lib.hid (World.ownsRow_nil _ _ _ _), KM, Lib.hid (Below.refl _ _), hz0⟩
  case round =>
    obtain ⟨k, q, c, hk, rfl, HO, KMr, HBr, hz⟩ := hrel
    have KNr : Hid (Blk wr w.heap.size #[.slice vq n.v.length vc, .slice aq n.a.length ac, .slice tq n.t.length tc] 34) := Lib.hid (KN.out.carry HBr.out (by omega))
    obtain ⟨c0, c1, c2, -, -, -⟩ := KNr.out.o3
    by_cases hlt : k < n.v.length
    · have hli : (k : Int) < (n.v.length : Int) := by omega
      have HBw : Hid (Below w.heap.size w wr) := Lib.hid (B0.out.trans (HBr.out.mono (by omega)))
      obtain ⟨ab, ao, rfl, x0, x1, x2⟩ := (HS.out.v.below HBw.out).at hlt
      have hbb := World.block_lt_of_cell? wr _ x0
      have X0 := Lib.hid x0
      have X1 := Lib.hid x1
      have X2 := Lib.hid x2
      clear x0 x1 x2
      go_wp2_with fail
      clear c0 c1 c2
      have hGS : Grows (fun w' => Below wr.heap.size wr w') := Grows.below wr
      refine' wp_thenL _ 22 (fun w' => Below wr.heap.size wr w') [[], [0], [], [2], [], [2, 3, 4], [2, 3, 4, 5], [2, 3, 4, 5, 6], [], [8], [], [8, 9, 10], [8, 9, 10, 11], [8, 9, 10, 11, 12], [], [14], [], [14, 15, 16], [14, 15, 16, 17], [14, 15, 16, 17, 18], [2, 3, 4, 5, 6, 7, 8, 9, 10, 11, 12, 13, 14, 15, 16, 17, 18, 19], [2, 3, 4, 5, 6, 7, 8, 9, 10, 11, 12, 13, 14, 15, 16, 17, 18, 19, 20]] (Fact.lit _ :: Fact.lit _ :: Fact.lit _ :: Fact.lit _ :: Fact.lit _ :: Fact.lit _ :: Fact.lit _ :: Fact.lit _ :: Fact.lit _ :: Fact.lit _ :: Fact.lit _ :: Fact.lit _ :: Fact.lit _ :: Fact.lit _ :: Fact.lit _ :: Fact.lit _ :: Fact.lit _ :: Fact.lit _ :: Fact.lit _ :: Fact.lit _ :: Fact.lit _ :: Fact.prop _ _ :: []) (by kernel_rfl) rfl (by kernel_rfl) (Below.refl _ _).drew ?seqv
      case' seqv => skip
      iterate 21 ((first | (apply grow_skip; (case hf => rfl); (case hw => rfl)) | (apply grow_lit; (case hf => rfl); (case hw => rfl); (case hrun => (intro w' hS H; clear H; (obtain ⟨c0, c1, c2, -, -, -⟩ := (KNr.out.keep hS).o3); (obtain ⟨d0, d1, d2, -, -, -⟩ := (KMr.out.keep hS).o3); (have x0 := keep hS X0.out); (have x1 := keep hS X1.out); (have x2 := keep hS X2.out); clear hS; go_simp; first | done | exact rfl)))); (case hc => (simp only [Act.put, List.setIfInBounds_toArray, List.set_cons_zero, List.set_cons_succ]; first | done | exact rfl)); (try (case hj => rfl)))
      (refine' grow_make (p := LitT 72 (n.v[k]'hlt)) (hp := fun v w w' h hb => h.below hb) hGS rfl ?wtmv ?runmv ?putmv ?nextmv; (case wtmv => rfl); (case runmv => (intro w' hS H; clear H; refine ⟨.slice (some ⟨w'.heap.size, 0, none⟩) 1 1, w'.alloc (.cells #[.int .i64 (n.v[k]'hlt).1, .int .i64 (n.v[k]'hlt).2.1, .int .i64 (n.v[k]'hlt).2.2] 72), ?_, ⟨w'.heap.size, rfl, Blk.new _ _ _ _ rfl⟩, below_new _⟩; (clear hS; go_simp))); (case putmv => (intro v; simp only [Act.put, List.setIfInBounds_toArray, List.set_cons_zero, List.set_cons_succ]; first | done | exact rfl)); (case' nextmv => intro v21))
      intro w9 hb hk9
      have h21 : LitT 72 (n.v[k]'hlt) v21 w9 := hk9 21 (by decide)
      have HO9 := Lib.hid (owns_below HO.out hb)
      have hlen : (n.v.take k).length = k := by rw [List.length_take]; omega
      obtain ⟨q2, c2, w', hr, hown', hgrow⟩ := app3 Tryd.underlying22 infoRVert HO9.out h21 (by omega) (by have := hb.size; omega)
      have hkm := (KMr.out.keep hb).grownO hgrow (own_ne HO9.out (by omega))
      have hbel : Below (w.heap.size + 2) W0 w' := (HBr.out.trans (hb.mono (by omega))).grown hgrow (by have := hb.size; omega) (fun g hg => by have := own_ge HO9.out g (by simpa using hg); omega)
      have hsz : w.heap.size + 3 ≤ w'.heap.size := by have := hb.size; have := hgrow.size; omega
      rw [hlen] at hr hown'
      have HRR := Lib.hid hr
      have HOWN := Lib.hid hown'
      have HKM := Lib.hid hkm
      have HBEL := Lib.hid hbel
      obtain ⟨d0, d1, d2, f0, f1, f2⟩ := hkm.o3
      clear hk9 h21 hr hown' hkm hbel
      refine wpAny_ready (rs := [22]) (by kernel_rfl) (by simp) (AllReady.cons rfl (fun K hK => ?_) AllReady.nil)
      refine step_append_run rfl _ _ 22 rfl _ _ _ rfl rfl HRR.out ?_
      refine hK _ _ ?_
      clear hK K
      refine wpAny_ready (rs := [23]) (by kernel_rfl) (by simp) (AllReady.cons rfl (fun K hK => ?_) AllReady.nil)
      go_simp
      refine hK _ _ ?_
      clear hK K
      refine wpAny_ready (rs := [24]) (by kernel_rfl) (by simp) (AllReady.cons rfl (fun K hK => ?_) AllReady.nil)
      go_simp
      refine hK _ _ ?_
      clear hK K
      refine wpAny_done (by kernel_rfl) ?_ _
      clear d0 d1 d2 f0 f1 f2
      have HT : Hid (n.v.take (k + 1) = n.v.take k ++ [n.v[k]'hlt]) := Lib.hid (take_snoc n.v k hlt)
      have HREL : Hid ((w'.setCell ⟨w.heap.size + 2, 0, none⟩ (.slice q2 (k + 1) c2)).ownsRow (w.heap.size + 3) 72 3 (.slice q2 (k + 1) c2) (n.v.take (k + 1)).length (flatT (n.v.take (k + 1)))) := Lib.hid (by
        rw [HT.out, List.length_append, hlen]
        exact ownsRow_setCell_below HOWN.out (by simp only []; omega) _)
      clear hlen
      go_wp2_with fail
      go_roundw
      case rel => exact ⟨k + 1, q2, c2, by omega, by go_num, HREL, Lib.hid (HKM.out.set 0 (.slice q2 (k + 1) c2)), Lib.hid (HBEL.out.setCell (by simp only []; omega) _), by simpa using hsz⟩
      case measure => simp [intOf]; omega
    · obtain rfl : k = n.v.length := by omega
      have HO' : Hid (wr.ownsRow (w.heap.size + 3) 72 3 (.slice q n.v.length c) n.v.length (flatT n.v)) := Lib.hid (by have := HO.out; rwa [List.take_length] at this)
      have hli : ¬ (n.v.length : Int) < (n.v.length : Int) := by omega
      clear HO
      go_wp2_with fail
      clear c0 c1 c2 hli
      obtain ⟨q0, eq0⟩ : ∃ q0, q0 = q := ⟨_, rfl⟩
      obtain ⟨c0v, ec0⟩ : ∃ c0v, c0v = c := ⟨_, rfl⟩
      rw [← eq0, ← ec0] at KMr HO'
      clear eq0 ec0
      have KMv := KMr
      have HBv := HBr
      have hzv := hz
      have HVv := HO'
      clear KMr HBr hz HO'
      go_loopw [5] (fun i wr => ∃ (k : Nat) (q : Option Addr) (c : Nat), k ≤ n.a.length ∧ i = .int .i64 k ∧ Hid (wr.ownsRow (w.heap.size + 3) 74 3 (.slice q k c) (n.a.take k).length (flatT (n.a.take k))) ∧ Hid (Blk wr (w.heap.size + 2) #[.slice q0 n.v.length c0v, .slice q k c, .slice none 0 0] 26) ∧ Hid (Below (w.heap.size + 2) W0 wr) ∧ w.heap.size + 3 ≤ wr.heap.size ∧ Hid (wr.ownsRow (w.heap.size + 3) 72 3 (.slice q0 n.v.length c0v) n.v.length (flatT n.v))) (fun i _ => n.a.length - (intOf i).toNat)
      case atStart => exact ⟨0, none, 0, Nat.zero_le _, rfl, Lib.hid (World.ownsRow_nil _ _ _ _), KMv, HBv, hzv, HVv⟩
      case round =>
        obtain ⟨k, q, c, hk, rfl, HO, KMr, HBr, hz, HV⟩ := hrel
        have KNr : Hid (Blk wr w.heap.size #[.slice vq n.v.length vc, .slice aq n.a.length ac, .slice tq n.t.length tc] 34) := Lib.hid (KN.out.carry HBr.out (by omega))
        obtain ⟨c0, c1, c2, -, -, -⟩ := KNr.out.o3
        by_cases hlt : k < n.a.length
        · have hli : (k : Int) < (n.a.length : Int) := by omega
          have HBw : Hid (Below w.heap.size w wr) := Lib.hid (B0.out.trans (HBr.out.mono (by omega)))
          obtain ⟨ab, ao, rfl, x0, x1, x2⟩ := (HS.out.a.below HBw.out).at hlt
          have hbb := World.block_lt_of_cell? wr _ x0
          have X0 := Lib.hid x0
          have X1 := Lib.hid x1
          have X2 := Lib.hid x2
          clear x0 x1 x2
          go_wp2_with fail
          clear c0 c1 c2
          have hGS : Grows (fun w' => Below wr.heap.size wr w') := Grows.below wr
          refine' wp_thenL _ 22 (fun w' => Below wr.heap.size wr w') [[], [0], [], [2], [], [2, 3, 4], [2, 3, 4, 5], [2, 3, 4, 5, 6], [], [8], [], [8, 9, 10], [8, 9, 10, 11], [8, 9, 10, 11, 12], [], [14], [], [14, 15, 16], [14, 15, 16, 17], [14, 15, 16, 17, 18], [2, 3, 4, 5, 6, 7, 8, 9, 10, 11, 12, 13, 14, 15, 16, 17, 18, 19], [2, 3, 4, 5, 6, 7, 8, 9, 10, 11, 12, 13, 14, 15, 16, 17, 18, 19, 20]] (Fact.lit _ :: Fact.lit _ :: Fact.lit _ :: Fact.lit _ :: Fact.lit _ :: Fact.lit _ :: Fact.lit _ :: Fact.lit _ :: Fact.lit _ :: Fact.lit _ :: Fact.lit _ :: Fact.lit _ :: Fact.lit _ :: Fact.lit _ :: Fact.lit _ :: Fact.lit _ :: Fact.lit _ :: Fact.lit _ :: Fact.lit _ :: Fact.lit _ :: Fact.lit _ :: Fact.prop _ _ :: []) (by kernel_rfl) rfl (by kernel_rfl) (Below.refl _ _).drew ?seqa
          case' seqa => skip
          iterate 21 ((first | (apply grow_skip; (case hf => rfl); (case hw => rfl)) | (apply grow_lit; (case hf => rfl); (case hw => rfl); (case hrun => (intro w' hS H; clear H; (obtain ⟨c0, c1, c2, -, -, -⟩ := (KNr.out.keep hS).o3); (obtain ⟨d0, d1, d2, -, -, -⟩ := (KMr.out.keep hS).o3); (have x0 := keep hS X0.out); (have x1 := keep hS X1.out); (have x2 := keep hS X2.out); clear hS; go_simp; first | done | exact rfl)))); (case hc => (simp only [Act.put, List.setIfInBounds_toArray, List.set_cons_zero, List.set_cons_succ]; first | done | exact rfl)); (try (case hj => rfl)))
          (refine' grow_make (p := LitT 74 (n.a[k]'hlt)) (hp := fun v w w' h hb => h.below hb) hGS rfl ?wtma ?runma ?putma ?nextma; (case wtma => rfl); (case runma => (intro w' hS H; clear H; refine ⟨.slice (some ⟨w'.heap.size, 0, none⟩) 1 1, w'.alloc (.cells #[.int .i64 (n.a[k]'hlt).1, .int .i64 (n.a[k]'hlt).2.1, .int .i64 (n.a[k]'hlt).2.2] 74), ?_, ⟨w'.heap.size, rfl, Blk.new _ _ _ _ rfl⟩, below_new _⟩; (clear hS; go_simp))); (case putma => (intro v; simp only [Act.put, List.setIfInBounds_toArray, List.set_cons_zero, List.set_cons_succ]; first | done | exact rfl)); (case' nextma => intro v21))
          intro w9 hb hk9
          have h21 : LitT 74 (n.a[k]'hlt) v21 w9 := hk9 21 (by decide)
          have HO9 := Lib.hid (owns_below HO.out hb)
          have hlen : (n.a.take k).length = k := by rw [List.length_take]; omega
          obtain ⟨q2, c2, w', hr, hown', hgrow⟩ := app3 Tryd.underlying23 infoRArc HO9.out h21 (by omega) (by have := hb.size; omega)
          have hkm := (KMr.out.keep hb).grownO hgrow (own_ne HO9.out (by omega))
          have hbel : Below (w.heap.size + 2) W0 w' := (HBr.out.trans (hb.mono (by omega))).grown hgrow (by have := hb.size; omega) (fun g hg => by have := own_ge HO9.out g (by simpa using hg); omega)
          have hsz : w.heap.size + 3 ≤ w'.heap.size := by have := hb.size; have := hgrow.size; omega
          rw [hlen] at hr hown'
          have HRR := Lib.hid hr
          have HOWN := Lib.hid hown'
          have HKM := Lib.hid hkm
          have HBEL := Lib.hid hbel
          obtain ⟨d0, d1, d2, f0, f1, f2⟩ := hkm.o3
          clear hk9 h21 hr hown' hkm hbel
          refine wpAny_ready (rs := [22]) (by kernel_rfl) (by simp) (AllReady.cons rfl (fun K hK => ?_) AllReady.nil)
          refine step_append_run rfl _ _ 23 rfl _ _ _ rfl rfl HRR.out ?_
          refine hK _ _ ?_
          clear hK K
          refine wpAny_ready (rs := [23]) (by kernel_rfl) (by simp) (AllReady.cons rfl (fun K hK => ?_) AllReady.nil)
          go_simp
          refine hK _ _ ?_
          clear hK K
          refine wpAny_ready (rs := [24]) (by kernel_rfl) (by simp) (AllReady.cons rfl (fun K hK => ?_) AllReady.nil)
          go_simp
          refine hK _ _ ?_
          clear hK K
          refine wpAny_done (by kernel_rfl) ?_ _
          clear d0 d1 d2 f0 f1 f2
          have HT : Hid (n.a.take (k + 1) = n.a.take k ++ [n.a[k]'hlt]) := Lib.hid (take_snoc n.a k hlt)
          have HREL : Hid ((w'.setCell ⟨w.heap.size + 2, 1, none⟩ (.slice q2 (k + 1) c2)).ownsRow (w.heap.size + 3) 74 3 (.slice q2 (k + 1) c2) (n.a.take (k + 1)).length (flatT (n.a.take (k + 1)))) := Lib.hid (by
            rw [HT.out, List.length_append, hlen]
            exact ownsRow_setCell_below HOWN.out (by simp only []; omega) _)
          clear hlen
          go_wp2_with fail
          go_roundw
          case rel => exact ⟨k + 1, q2, c2, by omega, by go_num, HREL, Lib.hid (HKM.out.set 1 (.slice q2 (k + 1) c2)), Lib.hid (HBEL.out.setCell (by simp only []; omega) _), by simpa using hsz, Lib.hid (ownsRow_setCell_below (owns_grown (owns_below HV.out hb) HO9.out (by decide) hgrow) (by simp only []; omega) _)⟩
          case measure => simp [intOf]; omega
        · obtain rfl : k = n.a.length := by omega
          have HO' : Hid (wr.ownsRow (w.heap.size + 3) 74 3 (.slice q n.a.length c) n.a.length (flatT n.a)) := Lib.hid (by have := HO.out; rwa [List.take_length] at this)
          have hli : ¬ (n.a.length : Int) < (n.a.length : Int) := by omega
          clear HO
          go_wp2_with fail
          clear c0 c1 c2 hli
          obtain ⟨q1, eq1⟩ : ∃ q1, q1 = q := ⟨_, rfl⟩
          obtain ⟨c1a, ec1⟩ : ∃ c1a, c1a = c := ⟨_, rfl⟩
          rw [← eq1, ← ec1] at KMr HO'
          clear eq1 ec1
          have KMa := KMr
          have HBa := HBr
          have hza := hz
          have HAa := HO'
          have HVa := HV
          clear KMr HBr hz HO' HV
          go_loopw [6] (fun i wr => ∃ (k : Nat) (q : Option Addr) (c : Nat) (us : List Value), k ≤ n.t.length ∧ i = .int .i64 k ∧ Hid (wr.ownsRow (w.heap.size + 3) 79 3 (.slice q k c) (n.t.take k).length (flatB (n.t.take k) us)) ∧ Hid (RowsS w (n.t.take k) us) ∧ Hid (Blk wr (w.heap.size + 2) #[.slice q0 n.v.length c0v, .slice q1 n.a.length c1a, .slice q k c] 26) ∧ Hid (Below (w.heap.size + 2) W0 wr) ∧ w.heap.size + 3 ≤ wr.heap.size ∧ Hid (wr.ownsRow (w.heap.size + 3) 72 3 (.slice q0 n.v.length c0v) n.v.length (flatT n.v)) ∧ Hid (wr.ownsRow (w.heap.size + 3) 74 3 (.slice q1 n.a.length c1a) n.a.length (flatT n.a))) (fun i _ => n.t.length - (intOf i).toNat)
          case atStart => exact ⟨0, none, 0, [], Nat.zero_le _, rfl, Lib.hid (World.ownsRow_nil _ _ _ _), Lib.hid ⟨rfl, fun i t u h => by simp at h⟩, KMa, HBa, hza, HVa, HAa⟩
          case round =>
            obtain ⟨k, q, c, us, hk, rfl, HO, HRS, KMr, HBr, hz, HVt, HAt⟩ := hrel
            have KNr : Hid (Blk wr w.heap.size #[.slice vq n.v.length vc, .slice aq n.a.length ac, .slice tq n.t.length tc] 34) := Lib.hid (KN.out.carry HBr.out (by omega))
            obtain ⟨c0, c1, c2, -, -, -⟩ := KNr.out.o3
            by_cases hlt : k < n.t.length
            · have hli : (k : Int) < (n.t.length : Int) := by omega
              have HBw : Hid (Below w.heap.size w wr) := Lib.hid (B0.out.trans (HBr.out.mono (by omega)))
              obtain ⟨ab, ao, au, rfl, y0, y1, y2, xt⟩ := HS.out.t.at hlt
              have x0 := (HBw.out.cell (World.block_lt_of_cell? w _ y0)).trans y0
              have x1 := (HBw.out.cell (World.block_lt_of_cell? w _ y1)).trans y1
              have x2 := (HBw.out.cell (World.block_lt_of_cell? w _ y2)).trans y2
              clear y0 y1 y2
              have hal := HC.out n.t[k] (List.getElem_mem _)
              have HT : Hid (n.t.take (k + 1) = n.t.take k ++ [n.t[k]'hlt]) := Lib.hid (take_snoc n.t k hlt)
              obtain ⟨A, eA⟩ : ∃ A, n.t[k]'hlt = A := ⟨_, rfl⟩
              rw [eA] at x0 x1 xt hal HT
              obtain ⟨aq, ac', rfl⟩ := xt.shape
              have hbb := World.block_lt_of_cell? wr _ x0
              have HAL := Lib.hid hal
              have X0 := Lib.hid x0
              have X1 := Lib.hid x1
              have X2 := Lib.hid x2
              have XT0 := Lib.hid xt
              clear x0 x1 x2 xt hal eA
              go_wp2_with fail
              clear c0 c1 c2
              have hGS : Grows (fun w' => Below wr.heap.size wr w') := Grows.below wr
              refine' wp_thenL _ 9 (fun w' => Below wr.heap.size wr w') [[], [0], [], [2], [], [2, 3, 4], [2, 3, 4, 5], [2, 3, 4, 5, 6], [2, 3, 4, 5, 6, 7]] (Fact.lit _ :: Fact.lit _ :: Fact.lit _ :: Fact.lit _ :: Fact.lit _ :: Fact.lit _ :: Fact.lit _ :: Fact.lit _ :: Fact.prop _ _ :: []) (by kernel_rfl) rfl (by kernel_rfl) (Below.refl _ _).drew ?seqt
              case' seqt => skip
              iterate 7 ((first | (apply grow_skip; (case hf => rfl); (case hw => rfl)) | (apply grow_lit; (case hf => rfl); (case hw => rfl); (case hrun => (intro w' hS H; clear H; (obtain ⟨c0, c1, c2, -, -, -⟩ := (KNr.out.keep hS).o3); (obtain ⟨d0, d1, d2, -, -, -⟩ := (KMr.out.keep hS).o3); (have x0 := keep hS X0.out); (have x1 := keep hS X1.out); (have x2 := keep hS X2.out); clear hS; go_simp; first | done | exact rfl)))); (case hc => (simp only [Act.put, List.setIfInBounds_toArray, List.set_cons_zero, List.set_cons_succ]; first | done | exact rfl)); (try (case hj => rfl)))
              (refine' grow_call (u := .agg #[.int .i64 A.1, .int .i64 A.2.1, .slice aq A.2.2.length ac']) rfl Tryd.func39 (by kernel_rfl) rfl hGS rfl ?wtcz ?runcz ?putcz ?nextcz; (case wtcz => rfl); (case runcz => (intro w' hS H; exact of_exact A.1 A.2.1 aq A.2.2.length ac' w')); (case putcz => (simp only [Act.put, List.setIfInBounds_toArray, List.set_cons_zero, List.set_cons_succ]; first | done | exact rfl)); (case' nextcz => skip))
              (refine' grow_make (p := LitX A (.slice aq A.2.2.length ac')) (hp := fun v w w' h hb => h.below hb) hGS rfl ?wtmt ?runmt ?putmt ?nextmt; (case wtmt => rfl); (case runmt => (intro w' hS H; clear H; refine ⟨.slice (some ⟨w'.heap.size, 0, none⟩) 1 1, w'.alloc (.cells #[.int .i64 A.1, .int .i64 A.2.1, .slice aq A.2.2.length ac'] 79), ?_, ⟨w'.heap.size, rfl, Blk.new _ _ _ _ rfl⟩, below_new _⟩; (clear hS; go_simp))); (case putmt => (intro v; simp only [Act.put, List.setIfInBounds_toArray, List.set_cons_zero, List.set_cons_succ]; first | done | exact rfl)); (case' nextmt => intro v8))
              intro w9 hb hk9
              have h8 : LitX A (.slice aq A.2.2.length ac') v8 w9 := hk9 8 (by decide)
              have HO9 := Lib.hid (owns_below HO.out hb)
              have hlen : (n.t.take k).length = k := by rw [List.length_take]; omega
              obtain ⟨q2, c2, w', hr, hown', hgrow⟩ := appX HO9.out HRS.out.1 h8 rfl (by omega) (by have := hb.size; omega)
              have hkm := (KMr.out.keep hb).grownO hgrow (own_ne HO9.out (by omega))
              have hbel : Below (w.heap.size + 2) W0 w' := (HBr.out.trans (hb.mono (by omega))).grown hgrow (by have := hb.size; omega) (fun g hg => by have := own_ge HO9.out g (by simpa using hg); omega)
              have hsz : w.heap.size + 3 ≤ w'.heap.size := by have := hb.size; have := hgrow.size; omega
              rw [hlen] at hr hown'
              have HRR := Lib.hid hr
              have HOWN := Lib.hid hown'
              have HKM := Lib.hid hkm
              have HBEL := Lib.hid hbel
              obtain ⟨d0, d1, d2, f0, f1, f2⟩ := hkm.o3
              clear hk9 h8 hr hown' hkm hbel
              refine wpAny_ready (rs := [9]) (by kernel_rfl) (by simp) (AllReady.cons rfl (fun K hK => ?_) AllReady.nil)
              refine step_append_run rfl _ _ 24 rfl _ _ _ rfl rfl HRR.out ?_
              refine hK _ _ ?_
              clear hK K
              refine wpAny_ready (rs := [10]) (by kernel_rfl) (by simp) (AllReady.cons rfl (fun K hK => ?_) AllReady.nil)
              go_simp
              refine hK _ _ ?_
              clear hK K
              refine wpAny_ready (rs := [11]) (by kernel_rfl) (by simp) (AllReady.cons rfl (fun K hK => ?_) AllReady.nil)
              go_simp
              refine hK _ _ ?_
              clear hK K
              refine wpAny_done (by kernel_rfl) ?_ _
              clear d0 d1 d2 f0 f1 f2
              have HREL : Hid ((w'.setCell ⟨w.heap.size + 2, 2, none⟩ (.slice q2 (k + 1) c2)).ownsRow (w.heap.size + 3) 79 3 (.slice q2 (k + 1) c2) (n.t.take (k + 1)).length (flatB (n.t.take (k + 1)) (us ++ [.slice aq A.2.2.length ac']))) := Lib.hid (by
                rw [HT.out, List.length_append, hlen]
                exact ownsRow_setCell_below HOWN.out (by simp only []; omega) _)
              have HRS3 : Hid (RowsS w (n.t.take (k + 1)) (us ++ [.slice aq A.2.2.length ac'])) := Lib.hid (by
                rw [HT.out]
                exact HRS.out.snoc XT0.out)
              clear hlen
              go_wp2_with fail
              go_roundw
              case rel => exact ⟨k + 1, q2, c2, us ++ [.slice aq A.2.2.length ac'], by omega, by go_num, HREL, HRS3, Lib.hid (HKM.out.set 2 (.slice q2 (k + 1) c2)), Lib.hid (HBEL.out.setCell (by simp only []; omega) _), by simpa using hsz, Lib.hid (ownsRow_setCell_below (owns_grown (owns_below HVt.out hb) HO9.out (by decide) hgrow) (by simp only []; omega) _), Lib.hid (ownsRow_setCell_below (owns_grown (owns_below HAt.out hb) HO9.out (by decide) hgrow) (by simp only []; omega) _)⟩
              case measure => simp [intOf]; omega
            · obtain rfl : k = n.t.length := by omega
              have HO' : Hid (wr.ownsRow (w.heap.size + 3) 79 3 (.slice q n.t.length c) n.t.length (flatB n.t us)) := Lib.hid (by have := HO.out; rwa [List.take_length] at this)
              have HRS' : Hid (RowsS w n.t us) := Lib.hid (by have := HRS.out; rwa [List.take_length] at this)
              have hli : ¬ (n.t.length : Int) < (n.t.length : Int) := by omega
              have hkr : Blk wr (w.heap.size + 1) #[.slice none 0 0, .slice none 0 0, .slice none 0 0] 26 := KR.out.carry HBr.out (by omega)
              have HKR := Lib.hid hkr
              obtain ⟨r0, r1, r2, f0, f1, f2⟩ := hkr.o3
              obtain ⟨d0, d1, d2, -, -, -⟩ := KMr.out.o3
              have hrl := hkr.lt
              have st : ∀ {b e : Nat} {base size : Nat} {v : Value} {m : Nat} {xs : List Value} {W : World} (x : Value), W.ownsRow (w.heap.size + 3) e size v m xs → (W.setCell ⟨w.heap.size + 1, b, none⟩ x).ownsRow (w.heap.size + 3) e size v m xs := fun x h => ownsRow_setCell_below h (by simp only []; omega) x
              have HBZ : Hid (Below w.heap.size w (((wr.setCell ⟨w.heap.size + 1, 0, none⟩ (.slice q0 n.v.length c0v)).setCell ⟨w.heap.size + 1, 1, none⟩ (.slice q1 n.a.length c1a)).setCell ⟨w.heap.size + 1, 2, none⟩ (.slice q n.t.length c))) := Lib.hid (by
                iterate 3 (refine Below.setCell ?_ (by simp only []; omega) _)
                exact B0.out.trans (HBr.out.mono (by omega)))
              have HNV : Hid (NetV (((wr.setCell ⟨w.heap.size + 1, 0, none⟩ (.slice q0 n.v.length c0v)).setCell ⟨w.heap.size + 1, 1, none⟩ (.slice q1 n.a.length c1a)).setCell ⟨w.heap.size + 1, 2, none⟩ (.slice q n.t.length c)) (.agg #[.slice q0 n.v.length c0v, .slice q1 n.a.length c1a, .slice q n.t.length c]) n) := Lib.hid
                ⟨_, _, _, rfl, tris_of_owns (ownsRow_setCell_below (ownsRow_setCell_below (ownsRow_setCell_below HVt.out (by simp only []; omega) _) (by simp only []; omega) _) (by simp only []; omega) _) (by omega),
                  tris_of_owns (ownsRow_setCell_below (ownsRow_setCell_below (ownsRow_setCell_below HAt.out (by simp only []; omega) _) (by simp only []; omega) _) (by simp only []; omega) _) (by omega),
                  tabs_of_rowsS (ownsRow_setCell_below (ownsRow_setCell_below (ownsRow_setCell_below HO'.out (by simp only []; omega) _) (by simp only []; omega) _) (by simp only []; omega) _) HRS'.out HBZ.out (by omega)⟩
              clear HO HRS st hkr
              go_wp2_with fail
              exact bodyPost_ret (v := .agg #[.slice q0 n.v.length c0v, .slice q1 n.a.length c1a, .slice q n.t.length c]) (by simp [results, Tryd.results13, go_sem]; go_simp) rfl ⟨_, rfl, HNV.out, HBZ.out⟩

end Go.Proofs.YtgehjkcjpbdoaaaDoor
