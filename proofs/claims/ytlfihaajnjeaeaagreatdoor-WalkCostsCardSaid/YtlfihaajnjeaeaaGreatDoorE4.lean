/-
  The document's nets that change: Set, Bend.
-/
import Derived.Test.YtlfihaajnjeaeaaGreatDoorE3
namespace Go.Proofs.YtlfihaajnjeaeaaGreatDoor
open Go.RowKit

set_option maxRecDepth 100000 in
set_option maxHeartbeats 1000000 in
theorem rwith_own (I O : Int) (u : Value) (l : List Int) (x y c : Int) (w : World) (hs : 0 ≤ I ∧ I ≤ 16 ∧ 0 ≤ O ∧ O ≤ 16) (hn : (l.length : Int) = I * O) (hu : I64s w u l) (h : 0 ≤ x ∧ x < I ∧ 0 ≤ y ∧ y < O) (c0 : -9223372036854775808 ≤ c) (c1 : c ≤ 9223372036854775807) (hc : wgt c = true) :
    Calls Tryz.prog 61 #[.agg #[.int .i64 I, .int .i64 O, u], .int .i64 x, .int .i64 y, .int .i64 c] w fun e w' => ∃ u', e = .returned (.tuple #[.agg #[.int .i64 I, .int .i64 O, u'], .agg #[.slice none 0 0, .int .i64 0]]) ∧ w'.ownsRow w.heap.size 2 1 u' l.length ((l.set (x * O + y).toNat c).map (Value.int .i64)) ∧ Below w.heap.size w w' := by
  obtain ⟨p0, p1⟩ := place_lt hn h
  obtain ⟨s0, s1⟩ := size_le hs
  have hI := hs.1
  obtain ⟨x0, x1, y0, y1⟩ := h
  obtain ⟨q, cu, rfl⟩ := hu.shape
  have b3 : Below w.heap.size w (withWorld I O (.slice q l.length cu) w) := (below_alloc2 _ _).alloc (by simp; omega) _
  have z3 : (withWorld I O (.slice q l.length cu) w).heap.size = w.heap.size + 1 + 1 + 1 := by simp [withWorld]
  obtain ⟨v', w', hr, hown, hb⟩ := copy_own (withWorld I O (.slice q l.length cu) w) _ l (hu.below b3) (by omega) _ z3
  have hj : (x * O + y).toNat < l.length := by omega
  obtain ⟨g, cap, cur, rfl, hg0, hg1, hg2, hg3⟩ : ∃ g cap cur, v' = .slice (some ⟨g, 0, none⟩) l.length cap ∧ (withWorld I O (.slice q l.length cu) w).heap.size ≤ g ∧ w'.heap[g]? = some (.cells cur 2 (0, 0)) ∧ l.length ≤ cap ∧ cap ≤ maxLen := by
    rcases hown.2 with ⟨_, hz⟩ | ⟨g, cap, cur, e, h1, h2, h3, h4, _, _⟩
    · omega
    · exact ⟨g, cap, cur, e, h1, h2, h3, h4⟩
  have hcA : w'.cell? ⟨g, (x * O + y).toNat, none⟩ = some (.int .i64 l[(x * O + y).toNat]) := by
    rw [hown.cellAt _ (by omega)]; simp [hj]
  have hfA := hown.frozenAt (x * O + y).toNat
  have hgb : w.heap.size + 1 + 1 + 1 ≤ g := by omega
  have hcells : ∀ b o v, b < w.heap.size + 1 + 1 + 1 → (withWorld I O (.slice q l.length cu) w).cell? ⟨b, o, none⟩ = some v → w'.cell? ⟨b, o, none⟩ = some v := fun b o v h1 h2 => (hb.cell (by rw [z3]; exact h1)).trans h2
  have hfroz : ∀ b o, b < w.heap.size + 1 + 1 + 1 → w'.frozen? ⟨b, o, none⟩ = (withWorld I O (.slice q l.length cu) w).frozen? ⟨b, o, none⟩ := fun b o h1 => hb.frozen (by rw [z3]; exact h1)
  have a0 := hcells w.heap.size 0 (.int .i64 I) (by omega) (by unfold withWorld; go_simp)
  have a1 := hcells w.heap.size 1 (.int .i64 O) (by omega) (by unfold withWorld; go_simp)
  have r0 := hcells (w.heap.size + 1) 0 (.int .i64 0) (by omega) (by unfold withWorld; go_simp)
  have r1 := hcells (w.heap.size + 1) 1 (.int .i64 0) (by omega) (by unfold withWorld; go_simp)
  have r2 := hcells (w.heap.size + 1) 2 (.slice none 0 0) (by omega) (by unfold withWorld; go_simp)
  have e0 := hcells (w.heap.size + 1 + 1) 0 (.slice none 0 0) (by omega) (by unfold withWorld; go_simp)
  have e1 := hcells (w.heap.size + 1 + 1) 1 (.int .i64 0) (by omega) (by unfold withWorld; go_simp)
  have f0 := (hfroz (w.heap.size + 1) 0 (by omega)).trans (show _ = false by unfold withWorld; go_simp)
  have f1 := (hfroz (w.heap.size + 1) 1 (by omega)).trans (show _ = false by unfold withWorld; go_simp)
  have f2 := (hfroz (w.heap.size + 1) 2 (by omega)).trans (show _ = false by unfold withWorld; go_simp)
  have f3 := (hfroz (w.heap.size + 1 + 1) 0 (by omega)).trans (show _ = false by unfold withWorld; go_simp)
  have f4 := (hfroz (w.heap.size + 1 + 1) 1 (by omega)).trans (show _ = false by unfold withWorld; go_simp)
  have HR := Lib.hid hr
  have HO := Lib.hid hown
  have HB : Hid (Below w.heap.size w w') := Lib.hid (b3.trans (hb.mono (by rw [z3]; omega)))
  have HU := Lib.hid hu
  clear hu hr hown hb hcells hfroz hg0 hg1 b3 z3
  go_enter Tryz.func61, Tryz.ntmps61
  go_wp2_with (first | (go_at_call 54; refine (rweight_any _ _ (by omega) (by omega)).mono ?_; rintro e w' ⟨rfl, rfl⟩) | (at_builtin; refine wpList_append_run (by rfl) _ _ 41 rfl _ _ _ rfl rfl HR.out ?_))
  have z3 : (withWorld I O (.slice q l.length cu) w).heap.size = w.heap.size + 1 + 1 + 1 := by simp [withWorld]
  refine bodyPost_ret (v := .tuple #[.agg #[.int .i64 I, .int .i64 O, .slice (some ⟨g, 0, none⟩) l.length cap], .agg #[.slice none 0 0, .int .i64 0]]) (by simp [results, Tryz.results61, go_sem]; go_simp) rfl ⟨_, rfl, ?_, ?_⟩
  · have h1 := (HO.out.stored (x * O + y).toNat (.int .i64 c)).1
    rw [← List.map_set] at h1
    have h2 : ∀ {W : World} (o : Nat) (k : Nat) (v : Value), k < w.heap.size + 1 + 1 + 1 → W.ownsRow (withWorld I O (.slice q l.length cu) w).heap.size 2 1 (.slice (some ⟨g, 0, none⟩) l.length cap) l.length ((l.set (x * O + y).toNat c).map (Value.int .i64)) → (W.setCell ⟨k, o, none⟩ v).ownsRow (withWorld I O (.slice q l.length cu) w).heap.size 2 1 (.slice (some ⟨g, 0, none⟩) l.length cap) l.length ((l.set (x * O + y).toNat c).map (Value.int .i64)) := fun o k v hk h => ownsRow_setCell_below h (by rw [z3]; exact hk) v
    have h3 := h2 1 (w.heap.size + 1 + 1) (.int .i64 0) (by omega) (h2 0 (w.heap.size + 1 + 1) (.slice none 0 0) (by omega) (h2 2 (w.heap.size + 1) (.slice (some ⟨g, 0, none⟩) l.length cap) (by omega) (h2 1 (w.heap.size + 1) (.int .i64 O) (by omega) (h2 0 (w.heap.size + 1) (.int .i64 I) (by omega) h1))))
    exact ⟨h3.1, h3.2.imp id fun ⟨g', cap', cur', e1, hg', r⟩ => ⟨g', cap', cur', e1, by rw [z3] at hg'; omega, r⟩⟩
  · exact (((((HB.out.setCell (by simp only []; omega) _).setCell (by simp only []; omega) _).setCell (by simp only []; omega) _).setCell (by simp only []; omega) _).setCell (by simp only []; omega) _).setCell (by simp only []; omega) _


/-- Where a block is written in which no text lies. -/
theorem wrong_setBlk {w : World} {v : Value} {ps : List (ByteArray × Int)} {e : Int} (h : WrongV w v ps e) {k : Nat} {cs : Array Value} {t : TypeId} (hk : Blk w k cs t) (hs : ∀ s : ByteArray, Value.string s ∉ cs.toList) (o : Nat) (x : Value) : WrongV (w.setCell ⟨k, o, none⟩ x) v ps e := by
  obtain ⟨sv, h0, h1⟩ := h
  refine ⟨sv, h0, ?_⟩
  rcases h1 with h1 | ⟨hl, b, o', c, h1, h2, h3⟩
  · exact Or.inl h1
  · have hne : ∀ i (h : i < ps.length), b ≠ k := by
      rintro i hi rfl
      have h4 := h2 i hi
      rw [cell_of_row w b _ cs t (0, 0) hk] at h4
      exact hs _ (List.mem_of_getElem? (by rw [Array.getElem?_toList]; exact h4))
    refine Or.inr ⟨hl, b, o', c, h1, fun i hi => ?_, fun i hi => ?_⟩
    · exact (World.cell?_of_block (w := w) (a := ⟨b, o' + i * 2, none⟩) (heap_setCell_other w ⟨k, o, none⟩ b x (hne i hi))).trans (h2 i hi)
    · exact (World.cell?_of_block (w := w) (a := ⟨b, o' + i * 2 + 1, none⟩) (heap_setCell_other w ⟨k, o, none⟩ b x (hne i hi))).trans (h3 i hi)
theorem owns_avQ {Q : Nat → Prop} {w : World} {base : Nat} {e : TypeId} {size : Nat} {v : Value} {n : Nat} {xs : List Value} (h : w.ownsRow base e size v n xs) (hQ : ∀ b cs, Blk w b cs e → Q b) : Av Q v := by
  rcases h.2 with ⟨rfl, _⟩ | ⟨g, cap, cur, rfl, _, hh, _⟩
  · intro b o s n c e h0
    injection e with e1
    cases e1
  · intro b o s n c e h0
    injection e with e1
    injection e1 with e1
    injection e1 with e1
    subst e1
    exact hQ g cur hh
/-- Q holds of the blocks of a net's own kinds. -/
def OwnQ (Q : Nat → Prop) (w : World) : Prop := ∀ b cs t, Blk w b cs t → 101 ≠ t → 106 ≠ t → 26 ≠ t → Q b
theorem OwnN.netA {Q : Nat → Prop} {w : World} (hq : OwnQ Q w) {base : Nat} {n : NetD} {uv ua ut : Value} {us : List Value} (h : OwnN w base n uv ua ut us) (hn : GrN n) : NetA Q w (.agg #[uv, ua, ut]) n := by
  have h1 := hn.few.v
  have h2 := hn.few.a
  have h3 := hn.few.t
  refine ⟨uv, ua, ut, rfl, ⟨tris_of_owns h.v (by omega), owns_avQ h.v (fun b cs hk => hq b cs _ hk (by decide) (by decide) (by decide))⟩, ⟨tris_of_owns h.a (by omega), owns_avQ h.a (fun b cs hk => hq b cs _ hk (by decide) (by decide) (by decide))⟩, tabs_of_rowsP h.t (fun b hb => ?_) ⟨h.r.1, fun i t u e1 e2 => ?_⟩ (by omega)⟩
  · obtain ⟨q, c, e⟩ := own_shape h.t
    rcases h.t.2 with ⟨e0, _⟩ | ⟨g, cap, cur, e0, _, hh, _⟩
    · rw [e0] at hb; cases hb
    · rw [e0] at hb
      injection hb with hb
      subst hb
      exact hq _ _ _ (show Blk w g cur _ from hh) (by decide) (by decide) (by decide)
  · obtain ⟨b', hr⟩ := h.r.2 i t u e1 e2
    have h4 := hn.few.c t (List.mem_of_getElem? e1)
    exact ⟨i64s_of_owns hr (by omega), owns_avQ hr (fun b cs hk => hq b cs _ hk (by decide) (by decide) (by decide))⟩
section
variable {n : NetD} {w : World} {v : Value}

set_option maxHeartbeats 4000000 in
set_option maxRecDepth 100000 in
theorem rset_name (h : NetV w v n) (a c : Int) (ha : n.there a = false) :
    Calls Tryz.prog 21 #[v, .int .i64 a, .int .i64 c] w fun e w' => ∃ wv, e = .returned (.tuple #[v, wv]) ∧ WrongV w' wv [(graphB, a)] 5 ∧ Below w.heap.size w w' := by
  obtain ⟨vq, aq, tq, vc, ac, tc, rfl, hs⟩ := h.shape
  have HA := Lib.hid ha
  clear ha
  go_enter Tryz.func21, Tryz.ntmps21
  go_wp2_with fail
  obtain ⟨W0, hW0⟩ := named (((w.alloc (.cells #[.slice vq n.v.length vc, .slice aq n.a.length ac, .slice tq n.t.length tc] 26)).alloc (.cells #[.slice none 0 0, .slice none 0 0, .slice none 0 0] 26)).alloc (.cells #[.slice none 0 0, .int .i64 0] 62))
  rw [← hW0]
  have hb0 : Below w.heap.size w W0 := by rw [hW0]; exact (below_alloc2 _ _).alloc (by simp; omega) _
  have B0 := Lib.hid hb0
  have K0 : Hid (Blk W0 w.heap.size #[.slice vq n.v.length vc, .slice aq n.a.length ac, .slice tq n.t.length tc] 26) := by rw [hW0]; exact Lib.hid (((Blk.new _ _ _ _ rfl).old _).old _)
  have K1 : Hid (Blk W0 (w.heap.size + 1) #[.slice none 0 0, .slice none 0 0, .slice none 0 0] 26) := by rw [hW0]; exact Lib.hid ((Blk.new _ _ _ _ (by simp)).old _)
  have K2 : Hid (Blk W0 (w.heap.size + 1 + 1) #[.slice none 0 0, .int .i64 0] 62) := by rw [hW0]; exact Lib.hid (Blk.new _ _ _ _ (by simp))
  have HS := Lib.hid (hs.below hb0)
  clear hs hW0 hb0 h
  refine (rthere_any n _ _ _ vc ac tc a W0).mono ?_
  rw [HA.out]
  rintro e W1 ⟨rfl, hb⟩
  have KA := Lib.hid (K0.out.keep hb)
  have KB := Lib.hid (K1.out.keep hb)
  have KC := Lib.hid (K2.out.keep hb)
  have HS1 := Lib.hid (HS.out.below hb)
  have B1 := Lib.hid (B0.out.trans (hb.mono B0.out.size))
  clear hb K0 K1 K2 HS B0
  obtain ⟨c0, c1, c2, -, -, -⟩ := KA.out.o3
  go_wp2_with fail
  clear c0 c1 c2
  refine' GG.wp_thenL _ 3 (GG.SB W1) [[], [], [1]] (GG.Fact.lit (Rl := GG.RlB) _ :: GG.Fact.lit (Rl := GG.RlB) _ :: GG.Fact.prop (Rl := GG.RlB) _ _ :: []) (by kernel_rfl) rfl (by kernel_rfl) (()) ((Below.refl _ _).drew) ?seqrsa
  case' seqrsa => skip
  iterate 2 (apply GG.grow_lit (GG.SB.still W1 _); (case hf => rfl); (case hw => rfl); (case hrun => (intro w' hS; (obtain ⟨dn, s, hS⟩ := hS); (have hS : Below W1.heap.size W1 w' := hS); (obtain ⟨c0, c1, c2, -, -, -⟩ := (KA.out.keep hS).o3); clear hS; go_simp; first | done | exact rfl)); (case hc => (first | rfl | (simp only [Act.put, List.setIfInBounds_toArray, List.set_cons_zero, List.set_cons_succ]; first | done | exact rfl))))
  (refine' GG.grow_any_call (p := fun v _ w => ∃ q m c, v = .agg #[.slice q m c, .int .i64 5] ∧ WrongV w v [(graphB, a)] 5) (hp := fun v s w s' w' h hb => h.imp fun q h => h.imp fun m h => h.imp fun c h => ⟨h.1, h.2.below hb⟩) rfl Tryz.func53 (by kernel_rfl) rfl rfl ?wtrsa2 ?runrsa2 ?putrsa2 ?nextrsa2; (case wtrsa2 => rfl); (case runrsa2 => (intro dn s w' hS hd H; (have hS : Below W1.heap.size W1 w' := hS); exact (at_any graphB a 5 w').mono (fun ev w2 ⟨h1, h2⟩ => ⟨_, (), h1, ⟨_, _, _, rfl, by rw [h2]; exact atWorld_wrong graphB a 5 w'⟩, by rw [h2]; exact hS.trans ((atWorld_below graphB a 5 w').mono hS.size), by rw [h2]; exact atWorld_below graphB a 5 w', by rw [h2]; exact (atWorld_below graphB a 5 w').size⟩))); (case putrsa2 => (intro v; (simp only [Act.put, List.setIfInBounds_toArray, List.set_cons_zero, List.set_cons_succ]; first | done | exact rfl))); (case' nextrsa2 => intro v2))
  intro dn s w2 hS _ hk2
  have hS : Below W1.heap.size W1 w2 := hS
  obtain ⟨q, m, c', rfl, hWR⟩ : ∃ q m c, v2 = .agg #[.slice q m c, .int .i64 5] ∧ WrongV w2 v2 [(graphB, a)] 5 := hk2 2 (by decide)
  have k1 := KB.out.keep hS
  have k2 := KC.out.keep hS
  obtain ⟨r0, r1, r2, f0, f1, f2⟩ := k1.o3
  obtain ⟨s0, s1, g0, g1⟩ := k2.o2
  have l1 := k1.lt
  have l2 := k2.lt
  have HBF : Hid (Below w.heap.size w (((((w2.setCell ⟨w.heap.size + 1, 0, none⟩ (.slice vq n.v.length vc)).setCell ⟨w.heap.size + 1, 1, none⟩ (.slice aq n.a.length ac)).setCell ⟨w.heap.size + 1, 2, none⟩ (.slice tq n.t.length tc)).setCell ⟨w.heap.size + 1 + 1, 0, none⟩ (.slice q m c')).setCell ⟨w.heap.size + 1 + 1, 1, none⟩ (.int .i64 5))) := Lib.hid (by
    iterate 5 (refine Below.setCell ?_ (by simp only []; omega) _)
    exact B1.out.trans (hS.mono B1.out.size))
  have HWF : Hid (WrongV (((((w2.setCell ⟨w.heap.size + 1, 0, none⟩ (.slice vq n.v.length vc)).setCell ⟨w.heap.size + 1, 1, none⟩ (.slice aq n.a.length ac)).setCell ⟨w.heap.size + 1, 2, none⟩ (.slice tq n.t.length tc)).setCell ⟨w.heap.size + 1 + 1, 0, none⟩ (.slice q m c')).setCell ⟨w.heap.size + 1 + 1, 1, none⟩ (.int .i64 5)) (.agg #[.slice q m c', .int .i64 5]) [(graphB, a)] 5) := Lib.hid (by
    have m1 : Blk (w2.setCell ⟨w.heap.size + 1, 0, none⟩ (.slice vq n.v.length vc)) (w.heap.size + 1) #[.slice vq n.v.length vc, .slice none 0 0, .slice none 0 0] 26 := by simpa using k1.set 0 (.slice vq n.v.length vc)
    have m2 := m1.set 1 (.slice aq n.a.length ac)
    have h1 := wrong_setBlk (wrong_setBlk (wrong_setBlk hWR k1 (by intro s; simp) 0 (.slice vq n.v.length vc)) m1 (by intro s; simp) 1 (.slice aq n.a.length ac)) m2 (by intro s; simp) 2 (.slice tq n.t.length tc)
    have n1 := ((k2.other (k := w.heap.size + 1) 0 (.slice vq n.v.length vc) (by omega)).other (k := w.heap.size + 1) 1 (.slice aq n.a.length ac) (by omega)).other (k := w.heap.size + 1) 2 (.slice tq n.t.length tc) (by omega)
    exact wrong_setBlk (wrong_setBlk h1 n1 (by intro s; simp) 0 (.slice q m c')) (n1.set 0 (.slice q m c')) (by intro s; simp) 1 _)
  clear hk2 hWR hS k1 k2
  refine wpAny_ready (rs := [3]) (by kernel_rfl) (by simp) (AllReady.cons rfl (fun K hK => ?_) AllReady.nil)
  go_simp
  refine hK _ _ ?_
  clear hK K
  refine wpAny_ready (rs := [4]) (by kernel_rfl) (by simp) (AllReady.cons rfl (fun K hK => ?_) AllReady.nil)
  go_simp
  refine hK _ _ ?_
  clear hK K
  refine wpAny_done (by kernel_rfl) ?_ _
  go_wp2_with fail
  exact bodyPost_ret (v := .tuple #[.agg #[.slice vq n.v.length vc, .slice aq n.a.length ac, .slice tq n.t.length tc], .agg #[.slice q m c', .int .i64 5]]) (by simp [results, Tryz.results21, go_sem]; go_simp) rfl ⟨_, rfl, HWF.out, HBF.out⟩

set_option maxHeartbeats 4000000 in
set_option maxRecDepth 100000 in
theorem rset_range (h : NetV w v n) (a c : Int) (c0 : -9223372036854775808 ≤ c) (c1 : c ≤ 9223372036854775807) (ha : n.there a = true) (hc : wgt c = false) :
    Calls Tryz.prog 21 #[v, .int .i64 a, .int .i64 c] w fun e w' => ∃ wv, e = .returned (.tuple #[v, wv]) ∧ WrongV w' wv [(graphB, a)] 8 ∧ Below w.heap.size w w' := by
  obtain ⟨vq, aq, tq, vc, ac, tc, rfl, hs⟩ := h.shape
  have HA := Lib.hid ha
  have HC := Lib.hid hc
  have HC0 := Lib.hid (And.intro c0 c1)
  clear ha hc c0 c1
  go_enter Tryz.func21, Tryz.ntmps21
  go_wp2_with fail
  obtain ⟨W0, hW0⟩ := named (((w.alloc (.cells #[.slice vq n.v.length vc, .slice aq n.a.length ac, .slice tq n.t.length tc] 26)).alloc (.cells #[.slice none 0 0, .slice none 0 0, .slice none 0 0] 26)).alloc (.cells #[.slice none 0 0, .int .i64 0] 62))
  rw [← hW0]
  have hb0 : Below w.heap.size w W0 := by rw [hW0]; exact (below_alloc2 _ _).alloc (by simp; omega) _
  have B0 := Lib.hid hb0
  have K0 : Hid (Blk W0 w.heap.size #[.slice vq n.v.length vc, .slice aq n.a.length ac, .slice tq n.t.length tc] 26) := by rw [hW0]; exact Lib.hid (((Blk.new _ _ _ _ rfl).old _).old _)
  have K1 : Hid (Blk W0 (w.heap.size + 1) #[.slice none 0 0, .slice none 0 0, .slice none 0 0] 26) := by rw [hW0]; exact Lib.hid ((Blk.new _ _ _ _ (by simp)).old _)
  have K2 : Hid (Blk W0 (w.heap.size + 1 + 1) #[.slice none 0 0, .int .i64 0] 62) := by rw [hW0]; exact Lib.hid (Blk.new _ _ _ _ (by simp))
  have HS := Lib.hid (hs.below hb0)
  clear hs hW0 hb0 h
  refine (rthere_any n _ _ _ vc ac tc a W0).mono ?_
  rw [HA.out]
  rintro e W1 ⟨rfl, hb⟩
  have KA := Lib.hid (K0.out.keep hb)
  have KB := Lib.hid (K1.out.keep hb)
  have KC := Lib.hid (K2.out.keep hb)
  have HS1 := Lib.hid (HS.out.below hb)
  have B1 := Lib.hid (B0.out.trans (hb.mono B0.out.size))
  clear hb K0 K1 K2 HS B0
  go_wp2_with fail
  refine (rweight_any c _ HC0.out.1 HC0.out.2).mono ?_
  rw [HC.out]
  rintro e w' ⟨rfl, rfl⟩
  go_wp2_with fail
  refine' GG.wp_thenL _ 3 (GG.SB W1) [[], [], [1]] (GG.Fact.lit (Rl := GG.RlB) _ :: GG.Fact.lit (Rl := GG.RlB) _ :: GG.Fact.prop (Rl := GG.RlB) _ _ :: []) (by kernel_rfl) rfl (by kernel_rfl) (()) ((Below.refl _ _).drew) ?seqrsb
  case' seqrsb => skip
  iterate 2 (apply GG.grow_lit (GG.SB.still W1 _); (case hf => rfl); (case hw => rfl); (case hrun => (intro w' hS; (obtain ⟨dn, s, hS⟩ := hS); (have hS : Below W1.heap.size W1 w' := hS); (obtain ⟨c0, c1, c2, -, -, -⟩ := (KA.out.keep hS).o3); clear hS; go_simp; first | done | exact rfl)); (case hc => (first | rfl | (simp only [Act.put, List.setIfInBounds_toArray, List.set_cons_zero, List.set_cons_succ]; first | done | exact rfl))))
  (refine' GG.grow_any_call (p := fun v _ w => ∃ q m c, v = .agg #[.slice q m c, .int .i64 8] ∧ WrongV w v [(graphB, a)] 8) (hp := fun v s w s' w' h hb => h.imp fun q h => h.imp fun m h => h.imp fun c h => ⟨h.1, h.2.below hb⟩) rfl Tryz.func53 (by kernel_rfl) rfl rfl ?wtrsb2 ?runrsb2 ?putrsb2 ?nextrsb2; (case wtrsb2 => rfl); (case runrsb2 => (intro dn s w' hS hd H; (have hS : Below W1.heap.size W1 w' := hS); exact (at_any graphB a 8 w').mono (fun ev w2 ⟨h1, h2⟩ => ⟨_, (), h1, ⟨_, _, _, rfl, by rw [h2]; exact atWorld_wrong graphB a 8 w'⟩, by rw [h2]; exact hS.trans ((atWorld_below graphB a 8 w').mono hS.size), by rw [h2]; exact atWorld_below graphB a 8 w', by rw [h2]; exact (atWorld_below graphB a 8 w').size⟩))); (case putrsb2 => (intro v; (simp only [Act.put, List.setIfInBounds_toArray, List.set_cons_zero, List.set_cons_succ]; first | done | exact rfl))); (case' nextrsb2 => intro v2))
  intro dn s w2 hS _ hk2
  have hS : Below W1.heap.size W1 w2 := hS
  obtain ⟨q, m, c', rfl, hWR⟩ : ∃ q m c, v2 = .agg #[.slice q m c, .int .i64 8] ∧ WrongV w2 v2 [(graphB, a)] 8 := hk2 2 (by decide)
  have k1 := KB.out.keep hS
  have k2 := KC.out.keep hS
  obtain ⟨r0, r1, r2, f0, f1, f2⟩ := k1.o3
  obtain ⟨s0, s1, g0, g1⟩ := k2.o2
  have l1 := k1.lt
  have l2 := k2.lt
  have HBF : Hid (Below w.heap.size w (((((w2.setCell ⟨w.heap.size + 1, 0, none⟩ (.slice vq n.v.length vc)).setCell ⟨w.heap.size + 1, 1, none⟩ (.slice aq n.a.length ac)).setCell ⟨w.heap.size + 1, 2, none⟩ (.slice tq n.t.length tc)).setCell ⟨w.heap.size + 1 + 1, 0, none⟩ (.slice q m c')).setCell ⟨w.heap.size + 1 + 1, 1, none⟩ (.int .i64 8))) := Lib.hid (by
    iterate 5 (refine Below.setCell ?_ (by simp only []; omega) _)
    exact B1.out.trans (hS.mono B1.out.size))
  have HWF : Hid (WrongV (((((w2.setCell ⟨w.heap.size + 1, 0, none⟩ (.slice vq n.v.length vc)).setCell ⟨w.heap.size + 1, 1, none⟩ (.slice aq n.a.length ac)).setCell ⟨w.heap.size + 1, 2, none⟩ (.slice tq n.t.length tc)).setCell ⟨w.heap.size + 1 + 1, 0, none⟩ (.slice q m c')).setCell ⟨w.heap.size + 1 + 1, 1, none⟩ (.int .i64 8)) (.agg #[.slice q m c', .int .i64 8]) [(graphB, a)] 8) := Lib.hid (by
    have m1 : Blk (w2.setCell ⟨w.heap.size + 1, 0, none⟩ (.slice vq n.v.length vc)) (w.heap.size + 1) #[.slice vq n.v.length vc, .slice none 0 0, .slice none 0 0] 26 := by simpa using k1.set 0 (.slice vq n.v.length vc)
    have m2 := m1.set 1 (.slice aq n.a.length ac)
    have h1 := wrong_setBlk (wrong_setBlk (wrong_setBlk hWR k1 (by intro s; simp) 0 (.slice vq n.v.length vc)) m1 (by intro s; simp) 1 (.slice aq n.a.length ac)) m2 (by intro s; simp) 2 (.slice tq n.t.length tc)
    have n1 := ((k2.other (k := w.heap.size + 1) 0 (.slice vq n.v.length vc) (by omega)).other (k := w.heap.size + 1) 1 (.slice aq n.a.length ac) (by omega)).other (k := w.heap.size + 1) 2 (.slice tq n.t.length tc) (by omega)
    exact wrong_setBlk (wrong_setBlk h1 n1 (by intro s; simp) 0 (.slice q m c')) (n1.set 0 (.slice q m c')) (by intro s; simp) 1 _)
  clear hk2 hWR hS k1 k2
  refine wpAny_ready (rs := [3]) (by kernel_rfl) (by simp) (AllReady.cons rfl (fun K hK => ?_) AllReady.nil)
  go_simp
  refine hK _ _ ?_
  clear hK K
  refine wpAny_ready (rs := [4]) (by kernel_rfl) (by simp) (AllReady.cons rfl (fun K hK => ?_) AllReady.nil)
  go_simp
  refine hK _ _ ?_
  clear hK K
  refine wpAny_done (by kernel_rfl) ?_ _
  go_wp2_with fail
  exact bodyPost_ret (v := .tuple #[.agg #[.slice vq n.v.length vc, .slice aq n.a.length ac, .slice tq n.t.length tc], .agg #[.slice q m c', .int .i64 8]]) (by simp [results, Tryz.results21, go_sem]; go_simp) rfl ⟨_, rfl, HWF.out, HBF.out⟩

set_option maxHeartbeats 4000000 in
set_option maxRecDepth 100000 in
theorem rset_ok {Q : Nat → Prop} (h : NetV w v n) (hn : GrN n) (hv : ∀ w', Below w.heap.size w w' → OwnQ Q w') (k : Nat) (hk : k < n.a.length) (c : Int) (hc : wgt c = true) :
    Calls Tryz.prog 21 #[v, .int .i64 k, .int .i64 c] w fun e w' => ∃ u, e = .returned (.tuple #[u, .agg #[.slice none 0 0, .int .i64 0]]) ∧ NetA Q w' u ⟨n.v, n.a.set k (n.a[k].1, n.a[k].2.1, c), n.t⟩ ∧ Below w.heap.size w w' := by
  obtain ⟨vq, aq, tq, vc, ac, tc, rfl, hs⟩ := h.shape
  have HA : Hid (n.there k = true) := Lib.hid (there_at hk)
  have hcb := wgt_in hc
  have HC := Lib.hid hc
  have HC0 : Hid (-9223372036854775808 ≤ c ∧ c ≤ 9223372036854775807) := Lib.hid (by omega)
  have HV := Lib.hid hv
  have HN := Lib.hid hn
  have HN2 := Lib.hid (grn_setW hn hk hc)
  have hia : (k : Int) < (n.a.length : Int) := by omega
  clear hc hcb hv hn
  go_enter Tryz.func21, Tryz.ntmps21
  go_wp2_with fail
  obtain ⟨W0, hW0⟩ := named (((w.alloc (.cells #[.slice vq n.v.length vc, .slice aq n.a.length ac, .slice tq n.t.length tc] 26)).alloc (.cells #[.slice none 0 0, .slice none 0 0, .slice none 0 0] 26)).alloc (.cells #[.slice none 0 0, .int .i64 0] 62))
  rw [← hW0]
  have hb0 : Below w.heap.size w W0 := by rw [hW0]; exact (below_alloc2 _ _).alloc (by simp; omega) _
  have B0 := Lib.hid hb0
  have K0 : Hid (Blk W0 w.heap.size #[.slice vq n.v.length vc, .slice aq n.a.length ac, .slice tq n.t.length tc] 26) := by rw [hW0]; exact Lib.hid (((Blk.new _ _ _ _ rfl).old _).old _)
  have K1 : Hid (Blk W0 (w.heap.size + 1) #[.slice none 0 0, .slice none 0 0, .slice none 0 0] 26) := by rw [hW0]; exact Lib.hid ((Blk.new _ _ _ _ (by simp)).old _)
  have K2 : Hid (Blk W0 (w.heap.size + 1 + 1) #[.slice none 0 0, .int .i64 0] 62) := by rw [hW0]; exact Lib.hid (Blk.new _ _ _ _ (by simp))
  have HS := Lib.hid (hs.below hb0)
  clear hs hW0 hb0 h
  refine (rthere_any n _ _ _ vc ac tc k W0).mono ?_
  rw [HA.out]
  rintro e W1 ⟨rfl, hb⟩
  have KA := Lib.hid (K0.out.keep hb)
  have KB := Lib.hid (K1.out.keep hb)
  have KC := Lib.hid (K2.out.keep hb)
  have HS1 := Lib.hid (HS.out.below hb)
  have B1 := Lib.hid (B0.out.trans (hb.mono B0.out.size))
  clear hb K0 K1 K2 HS B0
  go_wp2_with fail
  refine (rweight_any c _ HC0.out.1 HC0.out.2).mono ?_
  rw [HC.out]
  rintro e w' ⟨rfl, rfl⟩
  obtain ⟨c0, c1, c2, -, -, -⟩ := KA.out.o3
  go_wp2_with fail
  refine (copynet_any n _ _ _ vc ac tc _ HS1.out (by have := HN.out.few.v; omega) (by have := HN.out.few.a; omega) (by have := HN.out.few.t; omega) (fun t ht => by have := HN.out.few.c t ht; omega)).mono ?_
  rintro e w2 ⟨q0, x0, q1, x1, q2, x2, us, rfl, hO, hb⟩
  have KB2 := Lib.hid (KB.out.keep hb)
  have KC2 := Lib.hid (KC.out.keep hb)
  have B2 := Lib.hid (B1.out.trans (hb.mono B1.out.size))
  have BW := Lib.hid hb
  have HO := Lib.hid hO
  clear hb hO c0 c1 c2 KA KB KC
  go_wp2_with fail
  obtain ⟨w3, hw3⟩ := named (w2.alloc (.cells #[.slice q0 n.v.length x0, .slice q1 n.a.length x1, .slice q2 n.t.length x2] 26))
  rw [← hw3]
  have hb3 : Below w2.heap.size w2 w3 := by rw [hw3]; exact below_new _
  have KM : Hid (Blk w3 w2.heap.size #[.slice q0 n.v.length x0, .slice q1 n.a.length x1, .slice q2 n.t.length x2] 26) := by rw [hw3]; exact Lib.hid (Blk.new _ _ _ _ rfl)
  have HO3 := HO.out.below hb3
  have KB3 := KB2.out.keep hb3
  have KC3 := KC2.out.keep hb3
  have B3 := Lib.hid (B2.out.trans (hb3.mono B2.out.size))
  obtain ⟨-, -, z⟩ := flatT_at n.a k hk
  obtain ⟨g, e1, hgb, hgl, x2', f2', hO4, hoth⟩ := (HO3.arc (y := (n.a[k].1, n.a[k].2.1, c)) hk (j := k * 3 + 2) (by omega) z (flatT_set2 n.a k hk c)).is
  subst e1
  have KM4 := hoth _ _ _ KM.out (by decide) (by decide) (by decide)
  have KB4 := hoth _ _ _ KB3 (by decide) (by decide) (by decide)
  have KC4 := hoth _ _ _ KC3 (by decide) (by decide) (by decide)
  obtain ⟨g', cg, eg', kg⟩ := owns_blk HO3.a (by omega)
  cases eg'
  have ne0 : g ≠ w2.heap.size := kg.ne KM.out (by decide)
  have ne1 : g ≠ w.heap.size + 1 := kg.ne KB3 (by decide)
  have ne2 : g ≠ w.heap.size + 1 + 1 := kg.ne KC3 (by decide)
  have ne0' := ne0.symm
  have ne1' := ne1.symm
  have ne2' := ne2.symm
  obtain ⟨m0, m1, m2, -, -, -⟩ := KM.out.o3
  obtain ⟨r0, r1, r2, f0, f1, f2⟩ := KB3.o3
  obtain ⟨s0, s1, g0, g1⟩ := KC3.o2
  have l1 := KB3.lt
  have l2 := KC3.lt
  have lm := KM.out.lt
  have hg0 : w.heap.size ≤ g := Nat.le_trans B1.out.size hgb
  obtain ⟨w4, hw4⟩ := named (w3.setCell ⟨g, k * 3 + 2, none⟩ (.int .i64 c))
  rw [← hw4] at hO4 KB4 KC4
  have B4 : Below w.heap.size w w4 := by rw [hw4]; exact B3.out.setCell hg0 _
  have HBF : Below w.heap.size w (((((w4.setCell ⟨w.heap.size + 1, 0, none⟩ (.slice q0 n.v.length x0)).setCell ⟨w.heap.size + 1, 1, none⟩ (.slice (some ⟨g, 0, none⟩) n.a.length x1)).setCell ⟨w.heap.size + 1, 2, none⟩ (.slice q2 n.t.length x2)).setCell ⟨w.heap.size + 1 + 1, 0, none⟩ (.slice none 0 0)).setCell ⟨w.heap.size + 1 + 1, 1, none⟩ (.int .i64 0)) := by
    iterate 5 (refine Below.setCell ?_ (by simp only []; omega) _)
    exact B4
  have HNF : NetA Q (((((w4.setCell ⟨w.heap.size + 1, 0, none⟩ (.slice q0 n.v.length x0)).setCell ⟨w.heap.size + 1, 1, none⟩ (.slice (some ⟨g, 0, none⟩) n.a.length x1)).setCell ⟨w.heap.size + 1, 2, none⟩ (.slice q2 n.t.length x2)).setCell ⟨w.heap.size + 1 + 1, 0, none⟩ (.slice none 0 0)).setCell ⟨w.heap.size + 1 + 1, 1, none⟩ (.int .i64 0)) (.agg #[.slice q0 n.v.length x0, .slice (some ⟨g, 0, none⟩) n.a.length x1, .slice q2 n.t.length x2]) ⟨n.v, n.a.set k (n.a[k].1, n.a[k].2.1, c), n.t⟩ := by
    have m1 : Blk (w4.setCell ⟨w.heap.size + 1, 0, none⟩ (.slice q0 n.v.length x0)) (w.heap.size + 1) _ 26 := KB4.set 0 _
    have m2 := m1.set 1 (.slice (some ⟨g, 0, none⟩) n.a.length x1)
    have n1 := ((KC4.other (k := w.heap.size + 1) 0 (.slice q0 n.v.length x0) (by omega)).other (k := w.heap.size + 1) 1 (.slice (some ⟨g, 0, none⟩) n.a.length x1) (by omega)).other (k := w.heap.size + 1) 2 (.slice q2 n.t.length x2) (by omega)
    have h1 := ((hO4.set KB4 (by decide) (by decide) (by decide) (by decide) 0 (.slice q0 n.v.length x0)).set m1 (by decide) (by decide) (by decide) (by decide) 1 (.slice (some ⟨g, 0, none⟩) n.a.length x1)).set m2 (by decide) (by decide) (by decide) (by decide) 2 (.slice q2 n.t.length x2)
    have h2 := (h1.set n1 (by decide) (by decide) (by decide) (by decide) 0 (.slice none 0 0)).set (n1.set 0 _) (by decide) (by decide) (by decide) (by decide) 1 (.int .i64 0)
    exact h2.netA (HV.out _ HBF) HN2.out
  rw [hw4] at HBF HNF
  have HBF := Lib.hid HBF
  have HNF := Lib.hid HNF
  clear hoth HO3 KB3 KC3 hw3 hw4 HO KB2 KC2 hb3 z hO4 KM4 KB4 KC4 B4 HV HN HN2 KM kg B1 B2 B3 BW HA HC HC0 HS1 hgb
  go_wp2_with fail
  go_simp
  go_wp2_with fail
  exact bodyPost_ret (v := .tuple #[.agg #[.slice q0 n.v.length x0, .slice (some ⟨g, 0, none⟩) n.a.length x1, .slice q2 n.t.length x2], .agg #[.slice none 0 0, .int .i64 0]]) (by simp [results, Tryz.results21, go_sem]; go_simp) rfl ⟨_, rfl, HNF.out, HBF.out⟩
end

end Go.Proofs.YtlfihaajnjeaeaaGreatDoor

/-
  The document's nets that change: Bend.
-/
namespace Go.Proofs.YtlfihaajnjeaeaaGreatDoor
open Go.RowKit

/-- One table is put into a net of one's own. -/
theorem OwnN.tabT {w : World} {base : Nat} {n : NetD} {uv ua : Value} {us : List Value} {q : Option Addr} {c : Nat} (h : OwnN w base n uv ua (.slice q n.t.length c) us) {k : Nat} (hk : k < n.t.length) {T : Tab} {u : Value} (hu : RowI w u T.2.2) :
    ∃ g cs, q = some ⟨g, 0, none⟩ ∧ base ≤ g ∧ Blk w g cs 77 ∧ (∃ x, w.cell? ⟨g, k * 3, none⟩ = some x) ∧ (∃ x, w.cell? ⟨g, k * 3 + 1, none⟩ = some x) ∧ (∃ x, w.cell? ⟨g, k * 3 + 2, none⟩ = some x) ∧
      OwnN (((w.setCell ⟨g, k * 3, none⟩ (.int .i64 T.1)).setCell ⟨g, k * 3 + 1, none⟩ (.int .i64 T.2.1)).setCell ⟨g, k * 3 + 2, none⟩ u) base ⟨n.v, n.a, n.t.set k T⟩ uv ua (.slice q n.t.length c) (us.set k u) := by
  obtain ⟨g, cs, e1, hgb, hb, x0, x1, x2, ho⟩ := owns_put3 h.t hk (.int .i64 T.1) (.int .i64 T.2.1) u
  subst e1
  have hku : k < us.length := by rw [h.r.1]; exact hk
  obtain ⟨y0, y1, y2⟩ := flatB_at n.t us k hk hku
  have hr : ∀ (v : Value) (m : List Int), RowI w v m → RowI (((w.setCell ⟨g, k * 3, none⟩ (.int .i64 T.1)).setCell ⟨g, k * 3 + 1, none⟩ (.int .i64 T.2.1)).setCell ⟨g, k * 3 + 2, none⟩ u) v m := fun v m hv =>
    ((hv.set hb (by decide) _ _).set (hb.set _ _) (by decide) _ _).set ((hb.set _ _).set _ _) (by decide) _ _
  refine ⟨g, cs, rfl, hgb, hb, ⟨_, x0.trans y0⟩, ⟨_, x1.trans y1⟩, ⟨_, x2.trans y2⟩, ⟨?_, ?_, ?_, ?_, fun i t v h1 h2 => ?_⟩⟩
  · exact owns_set (owns_set (owns_set h.v hb (by decide) _ _) (hb.set _ _) (by decide) _ _) ((hb.set _ _).set _ _) (by decide) _ _
  · exact owns_set (owns_set (owns_set h.a hb (by decide) _ _) (hb.set _ _) (by decide) _ _) ((hb.set _ _).set _ _) (by decide) _ _
  · show World.ownsRow _ _ _ _ _ (n.t.set k T).length (flatB (n.t.set k T) (us.set k u))
    rw [List.length_set, flatB_setT n.t us k hk T u h.r.1]
    exact ho
  · show (us.set k u).length = (n.t.set k T).length
    simpa using h.r.1
  · by_cases hik : i = k
    · subst hik
      rw [List.getElem?_set_self hku] at h2
      rw [List.getElem?_set_self hk] at h1
      injection h1 with h1
      injection h2 with h2
      subst h1
      subst h2
      exact hr _ _ hu
    · rw [List.getElem?_set_ne (Ne.symm hik)] at h1 h2
      exact hr _ _ (h.r.2 i t v h1 h2)
section
variable {n : NetD} {w : World} {v : Value}

set_option maxHeartbeats 4000000 in
set_option maxRecDepth 100000 in
theorem rbend_name0 (h : NetV w v n) (t x y c : Int) (ht : t < 0) :
    Calls Tryz.prog 24 #[v, .int .i64 t, .int .i64 x, .int .i64 y, .int .i64 c] w fun e w' => ∃ wv, e = .returned (.tuple #[v, wv]) ∧ WrongV w' wv [(graphB, t)] 5 ∧ Below w.heap.size w w' := by
  obtain ⟨vq, aq, tq, vc, ac, tc, rfl, hs⟩ := h.shape
  have d0 : decide (t < 0) = true := by simpa using ht
  go_enter Tryz.func24, Tryz.ntmps24
  go_wp2_with fail
  obtain ⟨W1, hW1⟩ := named (((w.alloc (.cells #[.slice vq n.v.length vc, .slice aq n.a.length ac, .slice tq n.t.length tc] 26)).alloc (.cells #[.slice none 0 0, .slice none 0 0, .slice none 0 0] 26)).alloc (.cells #[.slice none 0 0, .int .i64 0] 62))
  rw [← hW1]
  have hb0 : Below w.heap.size w W1 := by rw [hW1]; exact (below_alloc2 _ _).alloc (by simp; omega) _
  have B1 := Lib.hid hb0
  have KA : Hid (Blk W1 w.heap.size #[.slice vq n.v.length vc, .slice aq n.a.length ac, .slice tq n.t.length tc] 26) := by rw [hW1]; exact Lib.hid (((Blk.new _ _ _ _ rfl).old _).old _)
  have KB : Hid (Blk W1 (w.heap.size + 1) #[.slice none 0 0, .slice none 0 0, .slice none 0 0] 26) := by rw [hW1]; exact Lib.hid ((Blk.new _ _ _ _ (by simp)).old _)
  have KC : Hid (Blk W1 (w.heap.size + 1 + 1) #[.slice none 0 0, .int .i64 0] 62) := by rw [hW1]; exact Lib.hid (Blk.new _ _ _ _ (by simp))
  have HS1 := Lib.hid (hs.below hb0)
  clear hs hW1 hb0 h
  obtain ⟨c0, c1, c2, -, -, -⟩ := KA.out.o3
  go_wp2_with fail
  clear c0 c1 c2
  refine' GG.wp_thenL _ 3 (GG.SB W1) [[], [], [1]] (GG.Fact.lit (Rl := GG.RlB) _ :: GG.Fact.lit (Rl := GG.RlB) _ :: GG.Fact.prop (Rl := GG.RlB) _ _ :: []) (by kernel_rfl) rfl (by kernel_rfl) (()) ((Below.refl _ _).drew) ?seqrbn0
  case' seqrbn0 => skip
  iterate 2 (apply GG.grow_lit (GG.SB.still W1 _); (case hf => rfl); (case hw => rfl); (case hrun => (intro w' hS; (obtain ⟨dn, s, hS⟩ := hS); (have hS : Below W1.heap.size W1 w' := hS); (obtain ⟨c0, c1, c2, -, -, -⟩ := (KA.out.keep hS).o3); clear hS; go_simp; first | done | exact rfl)); (case hc => (first | rfl | (simp only [Act.put, List.setIfInBounds_toArray, List.set_cons_zero, List.set_cons_succ]; first | done | exact rfl))))
  (refine' GG.grow_any_call (p := fun v _ w => ∃ q m c, v = .agg #[.slice q m c, .int .i64 5] ∧ WrongV w v [(graphB, t)] 5) (hp := fun v s w s' w' h hb => h.imp fun q h => h.imp fun m h => h.imp fun c h => ⟨h.1, h.2.below hb⟩) rfl Tryz.func53 (by kernel_rfl) rfl rfl ?wtrbn02 ?runrbn02 ?putrbn02 ?nextrbn02; (case wtrbn02 => rfl); (case runrbn02 => (intro dn s w' hS hd H; (have hS : Below W1.heap.size W1 w' := hS); exact (at_any graphB t 5 w').mono (fun ev w2 ⟨h1, h2⟩ => ⟨_, (), h1, ⟨_, _, _, rfl, by rw [h2]; exact atWorld_wrong graphB t 5 w'⟩, by rw [h2]; exact hS.trans ((atWorld_below graphB t 5 w').mono hS.size), by rw [h2]; exact atWorld_below graphB t 5 w', by rw [h2]; exact (atWorld_below graphB t 5 w').size⟩))); (case putrbn02 => (intro v; (simp only [Act.put, List.setIfInBounds_toArray, List.set_cons_zero, List.set_cons_succ]; first | done | exact rfl))); (case' nextrbn02 => intro v2))
  intro dn s w2 hS _ hk2
  have hS : Below W1.heap.size W1 w2 := hS
  obtain ⟨q, m, c', rfl, hWR⟩ : ∃ q m c, v2 = .agg #[.slice q m c, .int .i64 5] ∧ WrongV w2 v2 [(graphB, t)] 5 := hk2 2 (by decide)
  have k1 := KB.out.keep hS
  have k2 := KC.out.keep hS
  obtain ⟨r0, r1, r2, f0, f1, f2⟩ := k1.o3
  obtain ⟨s0, s1, g0, g1⟩ := k2.o2
  have l1 := k1.lt
  have l2 := k2.lt
  have HBF : Hid (Below w.heap.size w (((((w2.setCell ⟨w.heap.size + 1, 0, none⟩ (.slice vq n.v.length vc)).setCell ⟨w.heap.size + 1, 1, none⟩ (.slice aq n.a.length ac)).setCell ⟨w.heap.size + 1, 2, none⟩ (.slice tq n.t.length tc)).setCell ⟨w.heap.size + 1 + 1, 0, none⟩ (.slice q m c')).setCell ⟨w.heap.size + 1 + 1, 1, none⟩ (.int .i64 5))) := Lib.hid (by
    iterate 5 (refine Below.setCell ?_ (by simp only []; omega) _)
    exact B1.out.trans (hS.mono B1.out.size))
  have HWF : Hid (WrongV (((((w2.setCell ⟨w.heap.size + 1, 0, none⟩ (.slice vq n.v.length vc)).setCell ⟨w.heap.size + 1, 1, none⟩ (.slice aq n.a.length ac)).setCell ⟨w.heap.size + 1, 2, none⟩ (.slice tq n.t.length tc)).setCell ⟨w.heap.size + 1 + 1, 0, none⟩ (.slice q m c')).setCell ⟨w.heap.size + 1 + 1, 1, none⟩ (.int .i64 5)) (.agg #[.slice q m c', .int .i64 5]) [(graphB, t)] 5) := Lib.hid (by
    have m1 : Blk (w2.setCell ⟨w.heap.size + 1, 0, none⟩ (.slice vq n.v.length vc)) (w.heap.size + 1) #[.slice vq n.v.length vc, .slice none 0 0, .slice none 0 0] 26 := by simpa using k1.set 0 (.slice vq n.v.length vc)
    have m2 := m1.set 1 (.slice aq n.a.length ac)
    have h1 := wrong_setBlk (wrong_setBlk (wrong_setBlk hWR k1 (by intro s; simp) 0 (.slice vq n.v.length vc)) m1 (by intro s; simp) 1 (.slice aq n.a.length ac)) m2 (by intro s; simp) 2 (.slice tq n.t.length tc)
    have n1 := ((k2.other (k := w.heap.size + 1) 0 (.slice vq n.v.length vc) (by omega)).other (k := w.heap.size + 1) 1 (.slice aq n.a.length ac) (by omega)).other (k := w.heap.size + 1) 2 (.slice tq n.t.length tc) (by omega)
    exact wrong_setBlk (wrong_setBlk h1 n1 (by intro s; simp) 0 (.slice q m c')) (n1.set 0 (.slice q m c')) (by intro s; simp) 1 _)
  clear hk2 hWR hS k1 k2
  refine wpAny_ready (rs := [3]) (by kernel_rfl) (by simp) (AllReady.cons rfl (fun K hK => ?_) AllReady.nil)
  go_simp
  refine hK _ _ ?_
  clear hK K
  refine wpAny_ready (rs := [4]) (by kernel_rfl) (by simp) (AllReady.cons rfl (fun K hK => ?_) AllReady.nil)
  go_simp
  refine hK _ _ ?_
  clear hK K
  refine wpAny_done (by kernel_rfl) ?_ _
  go_wp2_with fail
  exact bodyPost_ret (v := .tuple #[.agg #[.slice vq n.v.length vc, .slice aq n.a.length ac, .slice tq n.t.length tc], .agg #[.slice q m c', .int .i64 5]]) (by simp [results, Tryz.results24, go_sem]; go_simp) rfl ⟨_, rfl, HWF.out, HBF.out⟩

set_option maxHeartbeats 4000000 in
set_option maxRecDepth 100000 in
theorem rbend_name1 (h : NetV w v n) (t x y c : Int) (h0 : ¬ t < 0) (ht : n.t.length ≤ t) :
    Calls Tryz.prog 24 #[v, .int .i64 t, .int .i64 x, .int .i64 y, .int .i64 c] w fun e w' => ∃ wv, e = .returned (.tuple #[v, wv]) ∧ WrongV w' wv [(graphB, t)] 5 ∧ Below w.heap.size w w' := by
  obtain ⟨vq, aq, tq, vc, ac, tc, rfl, hs⟩ := h.shape
  have d0 : decide (t < 0) = false := by simpa using h0
  have d1 : decide ((n.t.length : Int) ≤ t) = true := by simpa using ht
  go_enter Tryz.func24, Tryz.ntmps24
  go_wp2_with fail
  obtain ⟨W1, hW1⟩ := named (((w.alloc (.cells #[.slice vq n.v.length vc, .slice aq n.a.length ac, .slice tq n.t.length tc] 26)).alloc (.cells #[.slice none 0 0, .slice none 0 0, .slice none 0 0] 26)).alloc (.cells #[.slice none 0 0, .int .i64 0] 62))
  rw [← hW1]
  have hb0 : Below w.heap.size w W1 := by rw [hW1]; exact (below_alloc2 _ _).alloc (by simp; omega) _
  have B1 := Lib.hid hb0
  have KA : Hid (Blk W1 w.heap.size #[.slice vq n.v.length vc, .slice aq n.a.length ac, .slice tq n.t.length tc] 26) := by rw [hW1]; exact Lib.hid (((Blk.new _ _ _ _ rfl).old _).old _)
  have KB : Hid (Blk W1 (w.heap.size + 1) #[.slice none 0 0, .slice none 0 0, .slice none 0 0] 26) := by rw [hW1]; exact Lib.hid ((Blk.new _ _ _ _ (by simp)).old _)
  have KC : Hid (Blk W1 (w.heap.size + 1 + 1) #[.slice none 0 0, .int .i64 0] 62) := by rw [hW1]; exact Lib.hid (Blk.new _ _ _ _ (by simp))
  have HS1 := Lib.hid (hs.below hb0)
  clear hs hW1 hb0 h
  obtain ⟨c0, c1, c2, -, -, -⟩ := KA.out.o3
  go_wp2_with fail
  clear c0 c1 c2
  refine' GG.wp_thenL _ 3 (GG.SB W1) [[], [], [1]] (GG.Fact.lit (Rl := GG.RlB) _ :: GG.Fact.lit (Rl := GG.RlB) _ :: GG.Fact.prop (Rl := GG.RlB) _ _ :: []) (by kernel_rfl) rfl (by kernel_rfl) (()) ((Below.refl _ _).drew) ?seqrbn1
  case' seqrbn1 => skip
  iterate 2 (apply GG.grow_lit (GG.SB.still W1 _); (case hf => rfl); (case hw => rfl); (case hrun => (intro w' hS; (obtain ⟨dn, s, hS⟩ := hS); (have hS : Below W1.heap.size W1 w' := hS); (obtain ⟨c0, c1, c2, -, -, -⟩ := (KA.out.keep hS).o3); clear hS; go_simp; first | done | exact rfl)); (case hc => (first | rfl | (simp only [Act.put, List.setIfInBounds_toArray, List.set_cons_zero, List.set_cons_succ]; first | done | exact rfl))))
  (refine' GG.grow_any_call (p := fun v _ w => ∃ q m c, v = .agg #[.slice q m c, .int .i64 5] ∧ WrongV w v [(graphB, t)] 5) (hp := fun v s w s' w' h hb => h.imp fun q h => h.imp fun m h => h.imp fun c h => ⟨h.1, h.2.below hb⟩) rfl Tryz.func53 (by kernel_rfl) rfl rfl ?wtrbn12 ?runrbn12 ?putrbn12 ?nextrbn12; (case wtrbn12 => rfl); (case runrbn12 => (intro dn s w' hS hd H; (have hS : Below W1.heap.size W1 w' := hS); exact (at_any graphB t 5 w').mono (fun ev w2 ⟨h1, h2⟩ => ⟨_, (), h1, ⟨_, _, _, rfl, by rw [h2]; exact atWorld_wrong graphB t 5 w'⟩, by rw [h2]; exact hS.trans ((atWorld_below graphB t 5 w').mono hS.size), by rw [h2]; exact atWorld_below graphB t 5 w', by rw [h2]; exact (atWorld_below graphB t 5 w').size⟩))); (case putrbn12 => (intro v; (simp only [Act.put, List.setIfInBounds_toArray, List.set_cons_zero, List.set_cons_succ]; first | done | exact rfl))); (case' nextrbn12 => intro v2))
  intro dn s w2 hS _ hk2
  have hS : Below W1.heap.size W1 w2 := hS
  obtain ⟨q, m, c', rfl, hWR⟩ : ∃ q m c, v2 = .agg #[.slice q m c, .int .i64 5] ∧ WrongV w2 v2 [(graphB, t)] 5 := hk2 2 (by decide)
  have k1 := KB.out.keep hS
  have k2 := KC.out.keep hS
  obtain ⟨r0, r1, r2, f0, f1, f2⟩ := k1.o3
  obtain ⟨s0, s1, g0, g1⟩ := k2.o2
  have l1 := k1.lt
  have l2 := k2.lt
  have HBF : Hid (Below w.heap.size w (((((w2.setCell ⟨w.heap.size + 1, 0, none⟩ (.slice vq n.v.length vc)).setCell ⟨w.heap.size + 1, 1, none⟩ (.slice aq n.a.length ac)).setCell ⟨w.heap.size + 1, 2, none⟩ (.slice tq n.t.length tc)).setCell ⟨w.heap.size + 1 + 1, 0, none⟩ (.slice q m c')).setCell ⟨w.heap.size + 1 + 1, 1, none⟩ (.int .i64 5))) := Lib.hid (by
    iterate 5 (refine Below.setCell ?_ (by simp only []; omega) _)
    exact B1.out.trans (hS.mono B1.out.size))
  have HWF : Hid (WrongV (((((w2.setCell ⟨w.heap.size + 1, 0, none⟩ (.slice vq n.v.length vc)).setCell ⟨w.heap.size + 1, 1, none⟩ (.slice aq n.a.length ac)).setCell ⟨w.heap.size + 1, 2, none⟩ (.slice tq n.t.length tc)).setCell ⟨w.heap.size + 1 + 1, 0, none⟩ (.slice q m c')).setCell ⟨w.heap.size + 1 + 1, 1, none⟩ (.int .i64 5)) (.agg #[.slice q m c', .int .i64 5]) [(graphB, t)] 5) := Lib.hid (by
    have m1 : Blk (w2.setCell ⟨w.heap.size + 1, 0, none⟩ (.slice vq n.v.length vc)) (w.heap.size + 1) #[.slice vq n.v.length vc, .slice none 0 0, .slice none 0 0] 26 := by simpa using k1.set 0 (.slice vq n.v.length vc)
    have m2 := m1.set 1 (.slice aq n.a.length ac)
    have h1 := wrong_setBlk (wrong_setBlk (wrong_setBlk hWR k1 (by intro s; simp) 0 (.slice vq n.v.length vc)) m1 (by intro s; simp) 1 (.slice aq n.a.length ac)) m2 (by intro s; simp) 2 (.slice tq n.t.length tc)
    have n1 := ((k2.other (k := w.heap.size + 1) 0 (.slice vq n.v.length vc) (by omega)).other (k := w.heap.size + 1) 1 (.slice aq n.a.length ac) (by omega)).other (k := w.heap.size + 1) 2 (.slice tq n.t.length tc) (by omega)
    exact wrong_setBlk (wrong_setBlk h1 n1 (by intro s; simp) 0 (.slice q m c')) (n1.set 0 (.slice q m c')) (by intro s; simp) 1 _)
  clear hk2 hWR hS k1 k2
  refine wpAny_ready (rs := [3]) (by kernel_rfl) (by simp) (AllReady.cons rfl (fun K hK => ?_) AllReady.nil)
  go_simp
  refine hK _ _ ?_
  clear hK K
  refine wpAny_ready (rs := [4]) (by kernel_rfl) (by simp) (AllReady.cons rfl (fun K hK => ?_) AllReady.nil)
  go_simp
  refine hK _ _ ?_
  clear hK K
  refine wpAny_done (by kernel_rfl) ?_ _
  go_wp2_with fail
  exact bodyPost_ret (v := .tuple #[.agg #[.slice vq n.v.length vc, .slice aq n.a.length ac, .slice tq n.t.length tc], .agg #[.slice q m c', .int .i64 5]]) (by simp [results, Tryz.results24, go_sem]; go_simp) rfl ⟨_, rfl, HWF.out, HBF.out⟩
end

end Go.Proofs.YtlfihaajnjeaeaaGreatDoor

/-
  The document's nets that change: Bend, where it is refused.
-/
namespace Go.Proofs.YtlfihaajnjeaeaaGreatDoor
open Go.RowKit

section
variable {n : NetD} {w : World} {v : Value}

set_option maxHeartbeats 8000000 in
set_option maxRecDepth 100000 in
theorem rbend_with (h : NetV w v n) (hn : GrN n) (k : Nat) (hk : k < n.t.length) (x y c : Int) (c0 : -9223372036854775808 ≤ c) (c1 : c ≤ 9223372036854775807) (he : ¬ (withW n.t[k].1 n.t[k].2.1 x y c).2 = 0) :
    Calls Tryz.prog 24 #[v, .int .i64 k, .int .i64 x, .int .i64 y, .int .i64 c] w fun e w' => ∃ wv, e = .returned (.tuple #[v, wv]) ∧ WrongV w' wv [(graphB, (k : Int)), (turnB, (withW n.t[k].1 n.t[k].2.1 x y c).1)] (withW n.t[k].1 n.t[k].2.1 x y c).2 ∧ Below w.heap.size w w' := by
  obtain ⟨vq, aq, tq, vc, ac, tc, rfl, hs⟩ := h.shape
  have hti : (k : Int) < (n.t.length : Int) := by omega
  have hck := hn.good.tabs k hk
  have hin := (hn.inn.2.2 _ (List.getElem_mem hk)).2.2
  obtain ⟨q0, q1', q2', q3, hlen, -⟩ := chkT_ok (I := n.t[k].1) (O := n.t[k].2.1) (l := n.t[k].2.2) (by rw [hck])
  have d0 : decide ((k : Int) < 0) = false := by simp
  have d1 : decide ((n.t.length : Int) ≤ (k : Int)) = false := by simp; omega
  obtain ⟨F, eF⟩ : ∃ F, withW n.t[k].1 n.t[k].2.1 x y c = F := ⟨_, rfl⟩
  rw [eF] at he ⊢
  have HE := Lib.hid he
  have EF := Lib.hid eF
  have HC0 := Lib.hid (And.intro c0 c1)
  have HQ := Lib.hid (And.intro q0 (And.intro q1' (And.intro q2' q3)))
  have HLN := Lib.hid hlen
  clear hn hck hin he eF c0 c1 q0 q1' q2' q3 hlen
  go_enter Tryz.func24, Tryz.ntmps24
  go_wp2_with fail
  obtain ⟨W0, hW0⟩ := named (((w.alloc (.cells #[.slice vq n.v.length vc, .slice aq n.a.length ac, .slice tq n.t.length tc] 26)).alloc (.cells #[.slice none 0 0, .slice none 0 0, .slice none 0 0] 26)).alloc (.cells #[.slice none 0 0, .int .i64 0] 62))
  rw [← hW0]
  have hb0 : Below w.heap.size w W0 := by rw [hW0]; exact (below_alloc2 _ _).alloc (by simp; omega) _
  have B0 := Lib.hid hb0
  have K0 : Hid (Blk W0 w.heap.size #[.slice vq n.v.length vc, .slice aq n.a.length ac, .slice tq n.t.length tc] 26) := by rw [hW0]; exact Lib.hid (((Blk.new _ _ _ _ rfl).old _).old _)
  have K1 : Hid (Blk W0 (w.heap.size + 1) #[.slice none 0 0, .slice none 0 0, .slice none 0 0] 26) := by rw [hW0]; exact Lib.hid ((Blk.new _ _ _ _ (by simp)).old _)
  have K2 : Hid (Blk W0 (w.heap.size + 1 + 1) #[.slice none 0 0, .int .i64 0] 62) := by rw [hW0]; exact Lib.hid (Blk.new _ _ _ _ (by simp))
  have HS := Lib.hid (hs.below hb0)
  clear hs hW0 hb0 h
  obtain ⟨bt, ot, ut, rfl, z0, z1, z2, hu⟩ := HS.out.t.at hk
  obtain ⟨T, eT⟩ : ∃ T, n.t[k] = T := ⟨_, rfl⟩
  rw [eT] at z0 z1 hu
  simp only [eT] at EF HQ HLN
  obtain ⟨qt, ct, rfl⟩ := hu.shape
  have HU := Lib.hid hu
  have hbt := World.block_lt_of_cell? W0 _ z0
  obtain ⟨c0, c1, c2, -, -, -⟩ := K0.out.o3
  clear hu eT
  go_wp2_with fail
  refine (rwith_any T.1 T.2.1 _ T.2.2 x y c W0 HQ.out HLN.out HU.out HC0.out.1 HC0.out.2).mono ?_
  rintro e w1 ⟨tv, wv, rfl, ⟨u', rfl, hu'⟩, hWV, hb⟩
  rw [EF.out] at hWV
  unfold turnW at hWV
  rw [if_neg HE.out] at hWV
  obtain ⟨qw, mw, cw, rfl⟩ := hWV.shape
  obtain ⟨qu, cu, rfl⟩ := hu'.shape
  obtain ⟨J1, eJ1⟩ : ∃ J, (withT T.1 T.2.1 T.2.2 x y c).1 = J := ⟨_, rfl⟩
  obtain ⟨J2, eJ2⟩ : ∃ J, (withT T.1 T.2.1 T.2.2 x y c).2.1 = J := ⟨_, rfl⟩
  obtain ⟨J3, eJ3⟩ : ∃ J, (withT T.1 T.2.1 T.2.2 x y c).2.2.length = J := ⟨_, rfl⟩
  rw [eJ1, eJ2, eJ3]
  have hne : (F.2 == 0) = false := by have := HE.out; simpa using this
  have HWV0 := Lib.hid hWV
  have HBW := Lib.hid hb
  clear hb hWV hu' c0 c1 c2 z0 z1 z2 eJ1 eJ2 eJ3
  go_wp2_with fail
  obtain ⟨W1, hW1⟩ := named ((w1.alloc (.cells #[.int .i64 J1, .int .i64 J2, .slice qu J3 cu] 77)).alloc (.cells #[.slice qw mw cw, .int .i64 F.2] 62))
  rw [← hW1]
  have hb1 : Below w1.heap.size w1 W1 := by rw [hW1]; exact below_alloc2 _ _
  have KW : Hid (Blk W1 (w1.heap.size + 1) #[.slice qw mw cw, .int .i64 F.2] 62) := by rw [hW1]; exact Lib.hid (Blk.new _ _ _ _ (by simp))
  have HBT := Lib.hid (HBW.out.trans (hb1.mono HBW.out.size))
  have KA := Lib.hid (K0.out.keep HBT.out)
  have KB := Lib.hid (K1.out.keep HBT.out)
  have KC := Lib.hid (K2.out.keep HBT.out)
  have B1 := Lib.hid (B0.out.trans (HBT.out.mono B0.out.size))
  have HWV := Lib.hid (HWV0.out.below hb1)
  clear hW1 hb1 K0 K1 K2 B0 HWV0 HBW HBT
  refine' GG.wp_thenL _ 4 (GG.SB W1) [[], [], [], [1, 2]] (GG.Fact.lit (Rl := GG.RlB) _ :: GG.Fact.lit (Rl := GG.RlB) _ :: GG.Fact.lit (Rl := GG.RlB) _ :: GG.Fact.prop (Rl := GG.RlB) _ _ :: []) (by kernel_rfl) rfl (by kernel_rfl) (()) ((Below.refl _ _).drew) ?seqrbw
  case' seqrbw => skip
  iterate 3 (apply GG.grow_lit (GG.SB.still W1 _); (case hf => rfl); (case hw => rfl); (case hrun => (intro w' hS; (obtain ⟨dn, s, hS⟩ := hS); (have hS : Below W1.heap.size W1 w' := hS); (obtain ⟨c0, c1, c2, -, -, -⟩ := (KA.out.keep hS).o3); (obtain ⟨d0, d1, -, -⟩ := (KW.out.keep hS).o2); clear hS; go_simp; first | done | exact rfl)); (case hc => (first | rfl | (simp only [Act.put, List.setIfInBounds_toArray, List.set_cons_zero, List.set_cons_succ]; first | done | exact rfl))))
  (refine' GG.grow_any_call (p := fun v _ w => ∃ q m c, v = .agg #[.slice q m c, .int .i64 F.2] ∧ WrongV w v [(graphB, (k : Int)), (turnB, F.1)] F.2) (hp := fun v s w s' w' h hb => h.imp fun q h => h.imp fun m h => h.imp fun c h => ⟨h.1, h.2.below hb⟩) rfl Tryz.func62 (by kernel_rfl) rfl rfl ?wtrbw3 ?runrbw3 ?putrbw3 ?nextrbw3; (case wtrbw3 => rfl); (case runrbw3 => (intro dn s w' hS hd H; (have hS : Below W1.heap.size W1 w' := hS); exact (rwithin_any graphB k _ [(turnB, F.1)] F.2 w' (HWV.out.below hS) (by simp) HE.out (by simp)).mono (fun ev w2 ⟨v, h1, h2, h3⟩ => (by obtain ⟨q, m, c', e⟩ := h2.shape; exact ⟨_, (), h1, ⟨q, m, c', e, h2⟩, hS.trans (h3.mono hS.size), h3, h3.size⟩)))); (case putrbw3 => (intro v; (simp only [Act.put, List.setIfInBounds_toArray, List.set_cons_zero, List.set_cons_succ]; first | done | exact rfl))); (case' nextrbw3 => intro v3))
  intro dn s w2 hS _ hk2
  have hS : Below W1.heap.size W1 w2 := hS
  obtain ⟨q, m, c', rfl, hWR⟩ : ∃ q m c, v3 = .agg #[.slice q m c, .int .i64 F.2] ∧ WrongV w2 v3 [(graphB, (k : Int)), (turnB, F.1)] F.2 := hk2 3 (by decide)
  have k1 := KB.out.keep hS
  have k2 := KC.out.keep hS
  obtain ⟨r0, r1, r2, f0, f1, f2⟩ := k1.o3
  obtain ⟨s0, s1, g0, g1⟩ := k2.o2
  have l1 := k1.lt
  have l2 := k2.lt
  have HBF : Hid (Below w.heap.size w (((((w2.setCell ⟨w.heap.size + 1, 0, none⟩ (.slice vq n.v.length vc)).setCell ⟨w.heap.size + 1, 1, none⟩ (.slice aq n.a.length ac)).setCell ⟨w.heap.size + 1, 2, none⟩ (.slice (some ⟨bt, ot, none⟩) n.t.length tc)).setCell ⟨w.heap.size + 1 + 1, 0, none⟩ (.slice q m c')).setCell ⟨w.heap.size + 1 + 1, 1, none⟩ (.int .i64 F.2))) := Lib.hid (by
    iterate 5 (refine Below.setCell ?_ (by simp only []; omega) _)
    exact B1.out.trans (hS.mono B1.out.size))
  have HWF : Hid (WrongV (((((w2.setCell ⟨w.heap.size + 1, 0, none⟩ (.slice vq n.v.length vc)).setCell ⟨w.heap.size + 1, 1, none⟩ (.slice aq n.a.length ac)).setCell ⟨w.heap.size + 1, 2, none⟩ (.slice (some ⟨bt, ot, none⟩) n.t.length tc)).setCell ⟨w.heap.size + 1 + 1, 0, none⟩ (.slice q m c')).setCell ⟨w.heap.size + 1 + 1, 1, none⟩ (.int .i64 F.2)) (.agg #[.slice q m c', .int .i64 F.2]) [(graphB, (k : Int)), (turnB, F.1)] F.2) := Lib.hid (by
    have m1 : Blk (w2.setCell ⟨w.heap.size + 1, 0, none⟩ (.slice vq n.v.length vc)) (w.heap.size + 1) #[.slice vq n.v.length vc, .slice none 0 0, .slice none 0 0] 26 := by simpa using k1.set 0 (.slice vq n.v.length vc)
    have m2 := m1.set 1 (.slice aq n.a.length ac)
    have h1 := wrong_setBlk (wrong_setBlk (wrong_setBlk hWR k1 (by intro s; simp) 0 (.slice vq n.v.length vc)) m1 (by intro s; simp) 1 (.slice aq n.a.length ac)) m2 (by intro s; simp) 2 (.slice (some ⟨bt, ot, none⟩) n.t.length tc)
    have n1 := ((k2.other (k := w.heap.size + 1) 0 (.slice vq n.v.length vc) (by omega)).other (k := w.heap.size + 1) 1 (.slice aq n.a.length ac) (by omega)).other (k := w.heap.size + 1) 2 (.slice (some ⟨bt, ot, none⟩) n.t.length tc) (by omega)
    exact wrong_setBlk (wrong_setBlk h1 n1 (by intro s; simp) 0 (.slice q m c')) (n1.set 0 (.slice q m c')) (by intro s; simp) 1 _)
  clear hk2 hWR hS k1 k2
  refine wpAny_ready (rs := [4]) (by kernel_rfl) (by simp) (AllReady.cons rfl (fun K hK => ?_) AllReady.nil)
  go_simp
  refine hK _ _ ?_
  clear hK K
  refine wpAny_ready (rs := [5]) (by kernel_rfl) (by simp) (AllReady.cons rfl (fun K hK => ?_) AllReady.nil)
  go_simp
  refine hK _ _ ?_
  clear hK K
  refine wpAny_done (by kernel_rfl) ?_ _
  go_wp2_with fail
  exact bodyPost_ret (v := .tuple #[.agg #[.slice vq n.v.length vc, .slice aq n.a.length ac, .slice (some ⟨bt, ot, none⟩) n.t.length tc], .agg #[.slice q m c', .int .i64 F.2]]) (by simp [results, Tryz.results24, go_sem]; go_simp) rfl ⟨_, rfl, HWF.out, HBF.out⟩
end

end Go.Proofs.YtlfihaajnjeaeaaGreatDoor

/-
  The document's nets that change: Bend, where it is done.
-/
namespace Go.Proofs.YtlfihaajnjeaeaaGreatDoor
open Go.RowKit

section
variable {n : NetD} {w : World} {v : Value}

set_option maxHeartbeats 8000000 in
set_option maxRecDepth 100000 in
theorem rbend_ok {Q : Nat → Prop} (h : NetV w v n) (hn : GrN n) (hv : ∀ w', Below w.heap.size w w' → OwnQ Q w') (k : Nat) (hk : k < n.t.length) (x y c : Int) (hx : 0 ≤ x ∧ x < n.t[k].1 ∧ 0 ≤ y ∧ y < n.t[k].2.1) (hc : wgt c = true) :
    Calls Tryz.prog 24 #[v, .int .i64 k, .int .i64 x, .int .i64 y, .int .i64 c] w fun e w' => ∃ u, e = .returned (.tuple #[u, .agg #[.slice none 0 0, .int .i64 0]]) ∧ NetA Q w' u ⟨n.v, n.a, n.t.set k (n.t[k].1, n.t[k].2.1, n.t[k].2.2.set (x * n.t[k].2.1 + y).toNat c)⟩ ∧ Below w.heap.size w w' := by
  obtain ⟨vq, aq, tq, vc, ac, tc, rfl, hs⟩ := h.shape
  have hti : (k : Int) < (n.t.length : Int) := by omega
  have hck := hn.good.tabs k hk
  have hin := (hn.inn.2.2 _ (List.getElem_mem hk)).2.2
  obtain ⟨q0, q1', q2', q3, hlen, -⟩ := chkT_ok (I := n.t[k].1) (O := n.t[k].2.1) (l := n.t[k].2.2) (by rw [hck])
  have d0 : decide ((k : Int) < 0) = false := by simp
  have d1 : decide ((n.t.length : Int) ≤ (k : Int)) = false := by simp; omega
  have hcb := wgt_in hc
  have HC := Lib.hid hc
  have HC0 : Hid (-9223372036854775808 ≤ c ∧ c ≤ 9223372036854775807) := Lib.hid (by omega)
  have HQ := Lib.hid (And.intro q0 (And.intro q1' (And.intro q2' q3)))
  have HLN := Lib.hid hlen
  have HX := Lib.hid hx
  have HV := Lib.hid hv
  have HN := Lib.hid hn
  have HN2 := Lib.hid (grn_setT hn hk (x * n.t[k].2.1 + y).toNat hc)
  clear hn hck hin q0 q1' q2' q3 hlen hx hc hcb hv
  go_enter Tryz.func24, Tryz.ntmps24
  go_wp2_with fail
  obtain ⟨W0, hW0⟩ := named (((w.alloc (.cells #[.slice vq n.v.length vc, .slice aq n.a.length ac, .slice tq n.t.length tc] 26)).alloc (.cells #[.slice none 0 0, .slice none 0 0, .slice none 0 0] 26)).alloc (.cells #[.slice none 0 0, .int .i64 0] 62))
  rw [← hW0]
  have hb0 : Below w.heap.size w W0 := by rw [hW0]; exact (below_alloc2 _ _).alloc (by simp; omega) _
  have B0 := Lib.hid hb0
  have K0 : Hid (Blk W0 w.heap.size #[.slice vq n.v.length vc, .slice aq n.a.length ac, .slice tq n.t.length tc] 26) := by rw [hW0]; exact Lib.hid (((Blk.new _ _ _ _ rfl).old _).old _)
  have K1 : Hid (Blk W0 (w.heap.size + 1) #[.slice none 0 0, .slice none 0 0, .slice none 0 0] 26) := by rw [hW0]; exact Lib.hid ((Blk.new _ _ _ _ (by simp)).old _)
  have K2 : Hid (Blk W0 (w.heap.size + 1 + 1) #[.slice none 0 0, .int .i64 0] 62) := by rw [hW0]; exact Lib.hid (Blk.new _ _ _ _ (by simp))
  have HS := Lib.hid (hs.below hb0)
  clear hs hW0 hb0 h
  obtain ⟨bt, ot, ut, rfl, z0, z1, z2, hu⟩ := HS.out.t.at hk
  obtain ⟨T, eT⟩ : ∃ T, n.t[k] = T := ⟨_, rfl⟩
  rw [eT] at z0 z1 hu
  simp only [eT] at HX HQ HLN HN2 ⊢
  obtain ⟨qt, ct, rfl⟩ := hu.shape
  have HU := Lib.hid hu
  have hbt := World.block_lt_of_cell? W0 _ z0
  obtain ⟨c0, c1, c2, -, -, -⟩ := K0.out.o3
  have HET := Lib.hid eT
  clear hu eT
  go_wp2_with fail
  refine (rwith_own T.1 T.2.1 _ T.2.2 x y c W0 HQ.out HLN.out HU.out HX.out HC0.out.1 HC0.out.2 HC.out).mono ?_
  rintro e w1 ⟨u', rfl, hO1, hb⟩
  obtain ⟨qu, cu, rfl⟩ := own_shape hO1
  have HO1 := Lib.hid hO1
  have HBW := Lib.hid hb
  clear hb hO1 c0 c1 c2 z0 z1 z2 HU HC HC0 HX HQ HLN
  obtain ⟨NB, eNB⟩ : ∃ NB, T.2.2.set (x * T.2.1 + y).toNat c = NB := ⟨_, rfl⟩
  simp only [eNB] at HN2 ⊢
  rw [eNB] at HO1
  have hNL : NB.length = T.2.2.length := by rw [← eNB, List.length_set]
  have HNL := Lib.hid hNL
  have HENB := Lib.hid eNB
  clear hNL eNB
  have KA0 := K0.out.keep HBW.out
  obtain ⟨c0, c1, c2, -, -, -⟩ := KA0.o3
  have hla := KA0.lt
  clear KA0
  go_wp2_with fail
  obtain ⟨W1, hW1⟩ := named ((w1.alloc (.cells #[.int .i64 T.1, .int .i64 T.2.1, .slice qu T.2.2.length cu] 77)).alloc (.cells #[.slice none 0 0, .int .i64 0] 62))
  rw [← hW1]
  have hb1 : Below w1.heap.size w1 W1 := by rw [hW1]; exact below_alloc2 _ _
  have KT : Hid (Blk W1 w1.heap.size #[.int .i64 T.1, .int .i64 T.2.1, .slice qu T.2.2.length cu] 77) := by rw [hW1]; exact Lib.hid ((Blk.new _ _ _ _ rfl).old _)
  have HBT := Lib.hid (HBW.out.trans (hb1.mono HBW.out.size))
  have KA := Lib.hid (K0.out.keep HBT.out)
  have KB := Lib.hid (K1.out.keep HBT.out)
  have KC := Lib.hid (K2.out.keep HBT.out)
  have B1 := Lib.hid (B0.out.trans (HBT.out.mono B0.out.size))
  have HS1 := Lib.hid (HS.out.below HBT.out)
  have HO2 := Lib.hid (owns_below HO1.out hb1)
  clear hW1 hb1 K0 K1 K2 B0 HBW HBT HS HO1 c0 c1 c2 hla
  refine (copynet_any n _ _ _ vc ac _ W1 HS1.out (by have := HN.out.few.v; omega) (by have := HN.out.few.a; omega) (by have := HN.out.few.t; omega) (fun t ht => by have := HN.out.few.c t ht; omega)).mono ?_
  rintro e w2 ⟨q0, x0, q1, x1, q2, x2, us, rfl, hO, hb⟩
  have KB2 := Lib.hid (KB.out.keep hb)
  have KC2 := Lib.hid (KC.out.keep hb)
  have KT2 := Lib.hid (KT.out.keep hb)
  have B2 := Lib.hid (B1.out.trans (hb.mono B1.out.size))
  have HO3 := Lib.hid (owns_below HO2.out hb)
  have HO := Lib.hid hO
  clear hb hO KA KB KC KT HO2
  obtain ⟨w3, hw3⟩ := named (w2.alloc (.cells #[.slice q0 n.v.length x0, .slice q1 n.a.length x1, .slice q2 n.t.length x2] 26))
  have hb3 : Below w2.heap.size w2 w3 := by rw [hw3]; exact below_new _
  have KM : Hid (Blk w3 w2.heap.size #[.slice q0 n.v.length x0, .slice q1 n.a.length x1, .slice q2 n.t.length x2] 26) := by rw [hw3]; exact Lib.hid (Blk.new _ _ _ _ rfl)
  have KB3 := KB2.out.keep hb3
  have KC3 := KC2.out.keep hb3
  have KT3 := KT2.out.keep hb3
  have B3 := Lib.hid (B2.out.trans (hb3.mono B2.out.size))
  have hrow : RowI w3 (.slice qu T.2.2.length cu) NB := ⟨_, by have := owns_below HO3.out hb3; rw [← HNL.out] at this ⊢; exact this⟩
  obtain ⟨g, cs, e1, hgb, kg, ⟨o0, p0⟩, ⟨o1, p1⟩, ⟨o2, p2⟩, hO4⟩ := (HO.out.below hb3).tabT hk (T := (T.1, T.2.1, NB)) hrow
  subst e1
  have hg0 : w.heap.size ≤ g := Nat.le_trans B1.out.size hgb
  have ne0 : g ≠ w2.heap.size := kg.ne KM.out (by decide)
  have ne1 : g ≠ w.heap.size + 1 := kg.ne KB3 (by decide)
  have ne2 : g ≠ w.heap.size + 1 + 1 := kg.ne KC3 (by decide)
  have ne0' := ne0.symm
  have ne1' := ne1.symm
  have ne2' := ne2.symm
  obtain ⟨w4, hw4⟩ := named (((w3.setCell ⟨g, k * 3, none⟩ (.int .i64 T.1)).setCell ⟨g, k * 3 + 1, none⟩ (.int .i64 T.2.1)).setCell ⟨g, k * 3 + 2, none⟩ (.slice qu T.2.2.length cu))
  rw [← hw4] at hO4
  have KB4 : Blk w4 (w.heap.size + 1) #[.slice none 0 0, .slice none 0 0, .slice none 0 0] 26 := by rw [hw4]; exact ((KB3.other _ _ ne1').other _ _ ne1').other _ _ ne1'
  have KC4 : Blk w4 (w.heap.size + 1 + 1) #[.slice none 0 0, .int .i64 0] 62 := by rw [hw4]; exact ((KC3.other _ _ ne2').other _ _ ne2').other _ _ ne2'
  have B4 : Below w.heap.size w w4 := by rw [hw4]; exact ((B3.out.setCell hg0 _).setCell hg0 _).setCell hg0 _
  have HBF : Below w.heap.size w (((((w4.setCell ⟨w.heap.size + 1, 0, none⟩ (.slice q0 n.v.length x0)).setCell ⟨w.heap.size + 1, 1, none⟩ (.slice q1 n.a.length x1)).setCell ⟨w.heap.size + 1, 2, none⟩ (.slice (some ⟨g, 0, none⟩) n.t.length x2)).setCell ⟨w.heap.size + 1 + 1, 0, none⟩ (.slice none 0 0)).setCell ⟨w.heap.size + 1 + 1, 1, none⟩ (.int .i64 0)) := by
    iterate 5 (refine Below.setCell ?_ (by simp only []; omega) _)
    exact B4
  have HNF : NetA Q (((((w4.setCell ⟨w.heap.size + 1, 0, none⟩ (.slice q0 n.v.length x0)).setCell ⟨w.heap.size + 1, 1, none⟩ (.slice q1 n.a.length x1)).setCell ⟨w.heap.size + 1, 2, none⟩ (.slice (some ⟨g, 0, none⟩) n.t.length x2)).setCell ⟨w.heap.size + 1 + 1, 0, none⟩ (.slice none 0 0)).setCell ⟨w.heap.size + 1 + 1, 1, none⟩ (.int .i64 0)) (.agg #[.slice q0 n.v.length x0, .slice q1 n.a.length x1, .slice (some ⟨g, 0, none⟩) n.t.length x2]) ⟨n.v, n.a, n.t.set k (T.1, T.2.1, NB)⟩ := by
    have m1 : Blk (w4.setCell ⟨w.heap.size + 1, 0, none⟩ (.slice q0 n.v.length x0)) (w.heap.size + 1) _ 26 := KB4.set 0 _
    have m2 := m1.set 1 (.slice q1 n.a.length x1)
    have n1 := ((KC4.other (k := w.heap.size + 1) 0 (.slice q0 n.v.length x0) (by omega)).other (k := w.heap.size + 1) 1 (.slice q1 n.a.length x1) (by omega)).other (k := w.heap.size + 1) 2 (.slice (some ⟨g, 0, none⟩) n.t.length x2) (by omega)
    have h1 := ((hO4.set KB4 (by decide) (by decide) (by decide) (by decide) 0 (.slice q0 n.v.length x0)).set m1 (by decide) (by decide) (by decide) (by decide) 1 (.slice q1 n.a.length x1)).set m2 (by decide) (by decide) (by decide) (by decide) 2 (.slice (some ⟨g, 0, none⟩) n.t.length x2)
    have h2 := (h1.set n1 (by decide) (by decide) (by decide) (by decide) 0 (.slice none 0 0)).set (n1.set 0 _) (by decide) (by decide) (by decide) (by decide) 1 (.int .i64 0)
    exact h2.netA (HV.out _ HBF) HN2.out
  have HBF := Lib.hid HBF
  have HNF := Lib.hid HNF
  have KM4 : Blk w4 w2.heap.size #[.slice q0 n.v.length x0, .slice q1 n.a.length x1, .slice (some ⟨g, 0, none⟩) n.t.length x2] 26 := by rw [hw4]; exact ((KM.out.other _ _ ne0').other _ _ ne0').other _ _ ne0'
  have HKS := Lib.hid (And.intro KM4 (And.intro KB4 KC4))
  rw [hw3] at hw4
  obtain ⟨t0, t1, t2, -, -, -⟩ := KT2.out.o3
  have l3 := KT2.out.lt
  obtain ⟨g', cg, eg', kg2⟩ := owns_blk HO.out.t (by omega)
  cases eg'
  have lg := kg2.lt
  have h0 := kg2.free (k * 3)
  have h1 := kg2.free (k * 3 + 1)
  have h2 := kg2.free (k * 3 + 2)
  have HW4 : Hid (w4 = (((w2.setCell ⟨g, k * 3, none⟩ (.int .i64 T.1)).setCell ⟨g, k * 3 + 1, none⟩ (.int .i64 T.2.1)).setCell ⟨g, k * 3 + 2, none⟩ (.slice qu T.2.2.length cu)).alloc (.cells #[.slice q0 n.v.length x0, .slice q1 n.a.length x1, .slice (some ⟨g, 0, none⟩) n.t.length x2] 26)) := Lib.hid (by rw [hw4]; clear hw4 HBF HNF HKS; go_simp)
  rw [hw3] at p0 p1 p2
  replace p0 := (World.cell?_of_block (w := w2) (a := ⟨g, k * 3, none⟩) (Below.heap_alloc w2 _ g lg)).symm.trans p0
  replace p1 := (World.cell?_of_block (w := w2) (a := ⟨g, k * 3 + 1, none⟩) (Below.heap_alloc w2 _ g lg)).symm.trans p1
  replace p2 := (World.cell?_of_block (w := w2) (a := ⟨g, k * 3 + 2, none⟩) (Below.heap_alloc w2 _ g lg)).symm.trans p2
  clear KB3 KC3 KT3 hw3 hw4 HO KB2 KC2 KT2 hb3 hO4 KB4 KC4 KM4 B4 HV HN HN2 KM kg kg2 B1 B2 B3 HS1 hgb hrow HO3 HNL
  go_upto_region 8 with (fail)
  rw [← HW4.out]
  obtain ⟨KM4, KB4, KC4⟩ := HKS.out
  clear t0 t1 t2 h0 h1 h2 p0 p1 p2 lg l3
  obtain ⟨m0, m1, m2, -, -, -⟩ := KM4.o3
  obtain ⟨r0, r1, r2, f0, f1, f2⟩ := KB4.o3
  obtain ⟨s0, s1, g0, g1⟩ := KC4.o2
  have l1 := KB4.lt
  have l2 := KC4.lt
  have lm := KM4.lt
  clear KM4 KB4 KC4 HKS HW4 ne0 ne0' ne1 ne1' ne2 ne2' hg0
  go_wp2_with fail
  exact bodyPost_ret (v := .tuple #[.agg #[.slice q0 n.v.length x0, .slice q1 n.a.length x1, .slice (some ⟨g, 0, none⟩) n.t.length x2], .agg #[.slice none 0 0, .int .i64 0]]) (by simp [results, Tryz.results24, go_sem]; go_simp) rfl ⟨_, rfl, (by rw [HET.out, HENB.out]; exact HNF.out), HBF.out⟩
end

end Go.Proofs.YtlfihaajnjeaeaaGreatDoor
