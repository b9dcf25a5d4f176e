/-
  The program's graph: a net in new memory; the net as it is now.
-/
import Derived.Test.YtgihaakgadmidaaGreatE2
import Derived.Test.YtgihaakgadmidaaGreatD2
import Derived.Maps.AppendAt
namespace Go.Proofs.YtgihaakgadmidaaGreat
open Go.RowKit

/-- Where nothing but memory is made. -/
def GG.RlB (_ : Unit) (w : World) (_ : Unit) (w' : World) : Prop := Below w.heap.size w w'
def GG.SB (W0 : World) (_ : Nat → Bool) (_ : Unit) (w : World) : Prop := Below W0.heap.size W0 w
theorem GG.SB.still (W0 : World) (i : Nat) : GG.Still (GG.SB W0) GG.RlB i := ⟨fun _ _ _ h => h, fun _ _ => Below.refl _ _⟩
theorem flatB_set2 : ∀ (l : List Tab) (us : List Value) (i : Nat) (_ : i < l.length) (x : Value), us.length = l.length → flatB l (us.set i x) = (flatB l us).set (i * 3 + 2) x
  | [], _, i, h, _, _ => by simp at h
  | _ :: _, [], _, _, _, h => by simp at h
  | y :: r, u :: us, 0, _, x, _ => by simp [flatB]
  | y :: r, u :: us, i + 1, h, x, hu => by
    have := flatB_set2 r us i (by simpa using h) x (by simpa using hu)
    rw [List.set_cons_succ, flatB, this, flatB, show (i + 1) * 3 + 2 = i * 3 + 2 + 1 + 1 + 1 by omega]
    simp
/-- The rows of tables lie in blocks of one's own. -/
def RowsO (base : Nat) (w : World) (l : List Tab) (us : List Value) : Prop := us.length = l.length ∧ ∀ (i : Nat) (t : Tab) (u : Value), l[i]? = some t → us[i]? = some u → w.ownsRow base 2 1 u t.2.2.length (t.2.2.map (Value.int .i64))
theorem RowsO.map {base : Nat} {w w' : World} {l : List Tab} {us : List Value} (h : RowsO base w l us) (hf : ∀ (u : Value) (m : Nat) (xs : List Value), w.ownsRow base 2 1 u m xs → w'.ownsRow base 2 1 u m xs) : RowsO base w' l us := ⟨h.1, fun i t u h1 h2 => hf _ _ _ (h.2 i t u h1 h2)⟩
/-- A net of the program's whose rows are a call's own. -/
structure OwnP (w : World) (base : Nat) (n : NetD) (uv ua ut : Value) (us : List Value) : Prop where
  v : w.ownsRow base 102 3 uv n.v.length (flatT n.v)
  a : w.ownsRow base 98 3 ua n.a.length (flatT n.a)
  t : w.ownsRow base 103 3 ut n.t.length (flatB n.t us)
  r : RowsO base w n.t us
theorem OwnP.below {w w' : World} {base : Nat} {n : NetD} {uv ua ut : Value} {us : List Value} (h : OwnP w base n uv ua ut us) (hb : Below w.heap.size w w') : OwnP w' base n uv ua ut us := ⟨owns_below h.v hb, owns_below h.a hb, owns_below h.t hb, h.r.map fun _ _ _ h => owns_below h hb⟩
/-- While the rows are copied: the first k are. -/
structure OwnSt (n : NetD) (base N : Nat) (w0 : World) (uv ua ut : Value) (us0 : List Value) (k : Nat) (w : World) : Prop where
  b : Blk w N #[uv, ua, ut] 62
  v : w.ownsRow base 102 3 uv n.v.length (flatT n.v)
  a : w.ownsRow base 98 3 ua n.a.length (flatT n.a)
  t : ∃ us : List Value, us.length = n.t.length ∧ w.ownsRow base 103 3 ut n.t.length (flatB n.t us) ∧ (∀ i, k ≤ i → us[i]? = us0[i]?) ∧
    ∀ (i : Nat) (t : Tab) (u : Value), i < k → n.t[i]? = some t → us[i]? = some u → w.ownsRow base 2 1 u t.2.2.length (t.2.2.map (Value.int .i64))
  below : Below N w0 w
  size : base ≤ w.heap.size
theorem OwnSt.step {n : NetD} {base N : Nat} {w0 : World} {uv ua : Value} {q : Option Addr} {c : Nat} {us0 : List Value} {k : Nat} {w : World} (h : OwnSt n base N w0 uv ua (.slice q n.t.length c) us0 k w) (hk : k < n.t.length) (hN : N < base) :
    ∃ g u, q = some ⟨g, 0, none⟩ ∧ base ≤ g ∧ g < w.heap.size ∧ us0[k]? = some u ∧ w.cell? ⟨g, k * 3, none⟩ = some (.int .i64 n.t[k].1) ∧ w.cell? ⟨g, k * 3 + 1, none⟩ = some (.int .i64 n.t[k].2.1) ∧ w.cell? ⟨g, k * 3 + 2, none⟩ = some u ∧
      ∀ w' x, Below w.heap.size w w' → w'.ownsRow base 2 1 x n.t[k].2.2.length (n.t[k].2.2.map (Value.int .i64)) → w'.frozen? ⟨g, k * 3 + 2, none⟩ = false ∧ OwnSt n base N w0 uv ua (.slice q n.t.length c) us0 (k + 1) (w'.setCell ⟨g, k * 3 + 2, none⟩ x) := by
  obtain ⟨us, hl, ht, hus, hro⟩ := h.t
  obtain ⟨g, e1, hg, hlt, -⟩ := owns_put ht (j := k * 3) (by omega) (.int .i64 0)
  subst e1
  have hku : k < us.length := by omega
  obtain ⟨x0, x1, x2⟩ := flatB_at n.t us k hk hku
  refine ⟨g, us[k], rfl, hg, hlt, (by rw [← hus k (Nat.le_refl _)]; exact List.getElem?_eq_getElem hku), (ht.cellAt _ (by omega)).trans x0, (ht.cellAt _ (by omega)).trans x1, (ht.cellAt _ (by omega)).trans x2, fun w' x hb hx => ?_⟩
  obtain ⟨g', e2, -, hlt', hc', hf', ho', hoth⟩ := owns_put (owns_below ht hb) (j := k * 3 + 2) (by omega) x
  cases e2
  refine ⟨hf', ⟨?_, hoth _ _ _ _ _ _ (by decide) (owns_below h.v hb), hoth _ _ _ _ _ _ (by decide) (owns_below h.a hb), ⟨us.set k x, by simpa using hl, by rw [flatB_set2 n.t us k hk x hl]; exact ho', fun i hi => ?_, fun i t u hi h1 h2 => ?_⟩, ?_, ?_⟩⟩
  · exact (h.b.keep hb).other _ _ (by omega)
  · rw [List.getElem?_set_ne (by omega)]
    exact hus i (by omega)
  · by_cases hik : i = k
    · subst hik
      rw [List.getElem?_set_self hku] at h2
      injection h2 with h2
      subst h2
      rw [List.getElem?_eq_getElem hk] at h1
      injection h1 with h1
      subst h1
      exact hoth _ _ _ _ _ _ (by decide) hx
    · rw [List.getElem?_set_ne (by omega)] at h2
      exact hoth _ _ _ _ _ _ (by decide) (owns_below (hro i t u (by omega) h1 h2) hb)
  · exact (h.below.trans (hb.mono (by omega))).setCell (by simp only []; omega) _
  · have := hb.size
    simp
    have := h.size
    omega

set_option maxHeartbeats 8000000 in
set_option maxRecDepth 100000 in
theorem own_any (n : NetD) (vq aq tq : Option Addr) (vc ac tc : Nat) (w0 : World) (h : NetS w0 n vq aq tq vc ac tc) (hv : n.v.length ≤ 10000) (ha : n.a.length ≤ 100000) (ht : n.t.length ≤ 1000) (hc : ∀ t ∈ n.t, t.2.2.length ≤ 600) :
    Calls Tryz.prog 50 #[netVal n vq aq tq vc ac tc] w0 fun e w' => ∃ uv ua ut us, e = .returned (.agg #[uv, ua, ut]) ∧ OwnP w' w0.heap.size n uv ua ut us ∧ Below w0.heap.size w0 w' := by
  have HC := Lib.hid hc
  clear hc
  obtain ⟨us0, hul, hcells, hrows⟩ := h.t.rows
  have HUL := Lib.hid hul
  have HROW0 := Lib.hid hrows
  have hnil : ∀ {q : Option Addr} {l : List Tri} {c : Nat}, Tris w0 (.slice q l.length c) l → q = none → l.length = 0 := by
    rintro q l c h rfl
    rcases h with ⟨rfl, _⟩ | ⟨_, _, _, _, _, _, e, _⟩
    · rfl
    · injection e with e1; cases e1
  have NV : Hid (vq = none → n.v.length = 0) := Lib.hid (hnil h.v)
  have NA : Hid (aq = none → n.a.length = 0) := Lib.hid (hnil h.a)
  have NT : Hid (tq = none → n.t.length = 0) := Lib.hid (by
    rintro rfl
    rcases h.t with ⟨e, _⟩ | ⟨_, _, _, _, _, _, e, _⟩
    · rw [e]; rfl
    · injection e with e1; cases e1)
  have HSZ := Lib.hid (And.intro (show n.v.length ≤ 100000 by omega) (And.intro ha (show n.t.length ≤ 100000 by omega)))
  clear hnil
  go_enter Tryz.func50, Tryz.ntmps50
  go_wp2_with fail
  obtain ⟨W0, hW0⟩ := named ((w0.alloc (.cells #[.slice vq n.v.length vc, .slice aq n.a.length ac, .slice tq n.t.length tc] 62)).alloc (.cells #[.slice none 0 0, .slice none 0 0, .slice none 0 0] 62))
  rw [← hW0]
  have hb0 : Below w0.heap.size w0 W0 := by rw [hW0]; exact below_alloc2 _ _
  have z0 : W0.heap.size = w0.heap.size + 1 + 1 := by rw [hW0]; simp
  have B0 := Lib.hid hb0
  have Z0 := Lib.hid z0
  have K0 : Hid (Blk W0 w0.heap.size #[.slice vq n.v.length vc, .slice aq n.a.length ac, .slice tq n.t.length tc] 62) := by rw [hW0]; exact Lib.hid ((Blk.new _ _ _ _ rfl).old _)
  have KR : Hid (Blk W0 (w0.heap.size + 1) #[.slice none 0 0, .slice none 0 0, .slice none 0 0] 62) := by rw [hW0]; exact Lib.hid (Blk.new _ _ _ _ (by simp))
  have CV := Lib.hid (h.v.cells.below hb0)
  have CA := Lib.hid (h.a.cells.below hb0)
  have CT := Lib.hid (hcells.below hb0)
  clear h hW0 hb0 hul hcells hrows hv ha ht z0
  refine' GG.wp_thenL _ 10 (GG.SB W0) [[], [0], [0, 1], [], [3], [0, 1, 2, 3, 4], [], [6], [0, 1, 2, 3, 4, 5, 6, 7], [0, 1, 2, 3, 4, 6, 7]] (GG.Fact.lit (Rl := GG.RlB) _ :: GG.Fact.lit (Rl := GG.RlB) _ :: GG.Fact.prop (Rl := GG.RlB) _ _ :: GG.Fact.lit (Rl := GG.RlB) _ :: GG.Fact.lit (Rl := GG.RlB) _ :: GG.Fact.prop (Rl := GG.RlB) _ _ :: GG.Fact.lit (Rl := GG.RlB) _ :: GG.Fact.lit (Rl := GG.RlB) _ :: GG.Fact.prop (Rl := GG.RlB) _ _ :: GG.Fact.lit (Rl := GG.RlB) _ :: []) (by kernel_rfl) rfl (by kernel_rfl) (()) ((Below.refl _ _).drew) ?seqog
  case' seqog => skip
  (refine' GG.grow_lit (GG.SB.still W0 _) rfl ?wtog0 ?runog0 ?putog0 ?nextog0; (case wtog0 => rfl); (case runog0 => (intro w' hS; (obtain ⟨dn, s, hS⟩ := hS); (have hS : Below W0.heap.size W0 w' := hS); (obtain ⟨c0, c1, c2, -, -, -⟩ := (K0.out.keep hS).o3); clear hS; go_simp; first | done | exact rfl)); (case putog0 => (first | rfl | (simp only [Act.put, List.setIfInBounds_toArray, List.set_cons_zero, List.set_cons_succ]; first | done | exact rfl))); (case' nextog0 => skip))
  (refine' GG.grow_lit (GG.SB.still W0 _) rfl ?wtog1 ?runog1 ?putog1 ?nextog1; (case wtog1 => rfl); (case runog1 => (intro w' hS; (obtain ⟨dn, s, hS⟩ := hS); (have hS : Below W0.heap.size W0 w' := hS); (obtain ⟨c0, c1, c2, -, -, -⟩ := (K0.out.keep hS).o3); clear hS; go_simp; first | done | exact rfl)); (case putog1 => (first | rfl | (simp only [Act.put, List.setIfInBounds_toArray, List.set_cons_zero, List.set_cons_succ]; first | done | exact rfl))); (case' nextog1 => skip))
  (refine' GG.grow_any_call (p := fun v _ w => w.ownsRow (w0.heap.size + 1 + 1) 102 3 v n.v.length (flatT n.v)) (hp := fun v s w s' w' h hb => owns_below h hb) rfl Tryz.func83 (by kernel_rfl) rfl rfl ?wtog2 ?runog2 ?putog2 ?nextog2; (case wtog2 => rfl); (case runog2 => (intro dn s w' hS hd H; (have hS : Below W0.heap.size W0 w' := hS); exact (cloneV _ _ _ _ w' (flatT_length _) (CV.out.below hS) NV.out HSZ.out.1).mono (fun e w2 ⟨v, h1, h2, h3⟩ => ⟨v, (), h1, owns_base h2 (by have := hS.size; rw [Z0.out] at this; exact this), hS.trans (h3.mono hS.size), h3, h3.size⟩))); (case putog2 => (intro v; (simp only [Act.put, List.setIfInBounds_toArray, List.set_cons_zero, List.set_cons_succ]; first | done | exact rfl))); (case' nextog2 => intro v2))
  (refine' GG.grow_lit (GG.SB.still W0 _) rfl ?wtog3 ?runog3 ?putog3 ?nextog3; (case wtog3 => rfl); (case runog3 => (intro w' hS; (obtain ⟨dn, s, hS⟩ := hS); (have hS : Below W0.heap.size W0 w' := hS); (obtain ⟨c0, c1, c2, -, -, -⟩ := (K0.out.keep hS).o3); clear hS; go_simp; first | done | exact rfl)); (case putog3 => (first | rfl | (simp only [Act.put, List.setIfInBounds_toArray, List.set_cons_zero, List.set_cons_succ]; first | done | exact rfl))); (case' nextog3 => skip))
  (refine' GG.grow_lit (GG.SB.still W0 _) rfl ?wtog4 ?runog4 ?putog4 ?nextog4; (case wtog4 => rfl); (case runog4 => (intro w' hS; (obtain ⟨dn, s, hS⟩ := hS); (have hS : Below W0.heap.size W0 w' := hS); (obtain ⟨c0, c1, c2, -, -, -⟩ := (K0.out.keep hS).o3); clear hS; go_simp; first | done | exact rfl)); (case putog4 => (first | rfl | (simp only [Act.put, List.setIfInBounds_toArray, List.set_cons_zero, List.set_cons_succ]; first | done | exact rfl))); (case' nextog4 => skip))
  (refine' GG.grow_any_call (p := fun v _ w => w.ownsRow (w0.heap.size + 1 + 1) 98 3 v n.a.length (flatT n.a)) (hp := fun v s w s' w' h hb => owns_below h hb) rfl Tryz.func84 (by kernel_rfl) rfl rfl ?wtog5 ?runog5 ?putog5 ?nextog5; (case wtog5 => rfl); (case runog5 => (intro dn s w' hS hd H; (have hS : Below W0.heap.size W0 w' := hS); exact (cloneA _ _ _ _ w' (flatT_length _) (CA.out.below hS) NA.out HSZ.out.2.1).mono (fun e w2 ⟨v, h1, h2, h3⟩ => ⟨v, (), h1, owns_base h2 (by have := hS.size; rw [Z0.out] at this; exact this), hS.trans (h3.mono hS.size), h3, h3.size⟩))); (case putog5 => (intro v; (simp only [Act.put, List.setIfInBounds_toArray, List.set_cons_zero, List.set_cons_succ]; first | done | exact rfl))); (case' nextog5 => intro v5))
  (refine' GG.grow_lit (GG.SB.still W0 _) rfl ?wtog6 ?runog6 ?putog6 ?nextog6; (case wtog6 => rfl); (case runog6 => (intro w' hS; (obtain ⟨dn, s, hS⟩ := hS); (have hS : Below W0.heap.size W0 w' := hS); (obtain ⟨c0, c1, c2, -, -, -⟩ := (K0.out.keep hS).o3); clear hS; go_simp; first | done | exact rfl)); (case putog6 => (first | rfl | (simp only [Act.put, List.setIfInBounds_toArray, List.set_cons_zero, List.set_cons_succ]; first | done | exact rfl))); (case' nextog6 => skip))
  (refine' GG.grow_lit (GG.SB.still W0 _) rfl ?wtog7 ?runog7 ?putog7 ?nextog7; (case wtog7 => rfl); (case runog7 => (intro w' hS; (obtain ⟨dn, s, hS⟩ := hS); (have hS : Below W0.heap.size W0 w' := hS); (obtain ⟨c0, c1, c2, -, -, -⟩ := (K0.out.keep hS).o3); clear hS; go_simp; first | done | exact rfl)); (case putog7 => (first | rfl | (simp only [Act.put, List.setIfInBounds_toArray, List.set_cons_zero, List.set_cons_succ]; first | done | exact rfl))); (case' nextog7 => skip))
  (refine' GG.grow_any_call (p := fun v _ w => w.ownsRow (w0.heap.size + 1 + 1) 103 3 v n.t.length (flatB n.t us0)) (hp := fun v s w s' w' h hb => owns_below h hb) rfl Tryz.func85 (by kernel_rfl) rfl rfl ?wtog8 ?runog8 ?putog8 ?nextog8; (case wtog8 => rfl); (case runog8 => (intro dn s w' hS hd H; (have hS : Below W0.heap.size W0 w' := hS); exact (cloneB _ _ _ _ w' (flatB_length _ _ HUL.out) (CT.out.below hS) NT.out HSZ.out.2.2).mono (fun e w2 ⟨v, h1, h2, h3⟩ => ⟨v, (), h1, owns_base h2 (by have := hS.size; rw [Z0.out] at this; exact this), hS.trans (h3.mono hS.size), h3, h3.size⟩))); (case putog8 => (intro v; (simp only [Act.put, List.setIfInBounds_toArray, List.set_cons_zero, List.set_cons_succ]; first | done | exact rfl))); (case' nextog8 => intro v8))
  (refine' GG.grow_lit (GG.SB.still W0 _) rfl ?wtog9 ?runog9 ?putog9 ?nextog9; (case wtog9 => rfl); (case runog9 => (intro w' hS; (obtain ⟨dn, s, hS⟩ := hS); (have hS : Below W0.heap.size W0 w' := hS); (obtain ⟨c0, c1, c2, -, -, -⟩ := (K0.out.keep hS).o3); clear hS; go_simp; first | done | exact rfl)); (case putog9 => (first | rfl | (simp only [Act.put, List.setIfInBounds_toArray, List.set_cons_zero, List.set_cons_succ]; first | done | exact rfl))); (case' nextog9 => skip))
  intro dn s w9 hb _ hk
  have hb : Below W0.heap.size W0 w9 := hb
  have q2 : w9.ownsRow (w0.heap.size + 1 + 1) 102 3 v2 n.v.length (flatT n.v) := hk 2 (by decide)
  have q5 : w9.ownsRow (w0.heap.size + 1 + 1) 98 3 v5 n.a.length (flatT n.a) := hk 5 (by decide)
  have q8 : w9.ownsRow (w0.heap.size + 1 + 1) 103 3 v8 n.t.length (flatB n.t us0) := hk 8 (by decide)
  obtain ⟨ct, ctc, rfl⟩ := own_shape q8
  obtain ⟨ovq, ovc, rfl⟩ := own_shape q2
  obtain ⟨oaq, oac, rfl⟩ := own_shape q5
  have k9 := K0.out.keep hb
  have l9 := k9.lt
  obtain ⟨c0, c1, c2, f0, f1, f2⟩ := k9.o3
  clear hk
  refine wpAny_ready (rs := [10]) (by kernel_rfl) (by simp) (AllReady.cons rfl (fun K hK => ?_) AllReady.nil)
  go_simp
  refine hK _ _ ?_
  clear hK K
  refine wpAny_ready (rs := [11]) (by kernel_rfl) (by simp) (AllReady.cons rfl (fun K hK => ?_) AllReady.nil)
  go_simp
  refine hK _ _ ?_
  clear hK K
  refine wpAny_ready (rs := [12]) (by kernel_rfl) (by simp) (AllReady.cons rfl (fun K hK => ?_) AllReady.nil)
  go_simp
  refine hK _ _ ?_
  clear hK K
  refine wpAny_ready (rs := [13]) (by kernel_rfl) (by simp) (AllReady.cons rfl (fun K hK => ?_) AllReady.nil)
  go_simp
  refine hK _ _ ?_
  clear hK K
  refine wpAny_ready (rs := [14]) (by kernel_rfl) (by simp) (AllReady.cons rfl (fun K hK => ?_) AllReady.nil)
  go_simp
  refine hK _ _ ?_
  clear hK K
  refine wpAny_done (by kernel_rfl) ?_ _
  clear c0 c1 c2 f0 f1 f2
  obtain ⟨w1, hw1⟩ := named (((w9.setCell ⟨w0.heap.size, 0, none⟩ (.slice ovq n.v.length ovc)).setCell ⟨w0.heap.size, 1, none⟩ (.slice oaq n.a.length oac)).setCell ⟨w0.heap.size, 2, none⟩ (.slice ct n.t.length ctc))
  rw [← hw1]
  have ST0 : Hid (OwnSt n (w0.heap.size + 1 + 1) w0.heap.size w0 (.slice ovq n.v.length ovc) (.slice oaq n.a.length oac) (.slice ct n.t.length ctc) us0 0 w1) := by
    have hz := hb.size
    have hz0 := Z0.out
    have s0 : ∀ {e : TypeId} {size : Nat} {v : Value} {m : Nat} {xs : List Value}, e ≠ 62 → w9.ownsRow (w0.heap.size + 1 + 1) e size v m xs → w1.ownsRow (w0.heap.size + 1 + 1) e size v m xs := fun hne h => by
      rw [hw1]
      exact owns_set (owns_set (owns_set h k9 hne 0 _) (k9.set 0 _) hne 1 _) ((k9.set 0 _).set 1 _) hne 2 _
    refine Lib.hid ⟨?_, s0 (by decide) q2, s0 (by decide) q5, ⟨us0, HUL.out, s0 (by decide) q8, fun i _ => rfl, fun i t u hi => absurd hi (by omega)⟩, ?_, ?_⟩
    · rw [hw1]
      have := ((k9.set 0 (.slice ovq n.v.length ovc)).set 1 (.slice oaq n.a.length oac)).set 2 (.slice ct n.t.length ctc)
      simpa using this
    · rw [hw1]
      exact (((B0.out.trans (hb.mono (by omega))).setCell (by simp only []; omega) _).setCell (by simp only []; omega) _).setCell (by simp only []; omega) _
    · rw [hw1]
      simp
      omega
  have KR1 : Hid (Blk w1 (w0.heap.size + 1) #[.slice none 0 0, .slice none 0 0, .slice none 0 0] 62) := by
    rw [hw1]
    exact Lib.hid ((((KR.out.keep hb).other _ _ (by omega)).other _ _ (by omega)).other _ _ (by omega))
  have HZ1 : Hid (w0.heap.size + 1 + 1 ≤ w1.heap.size) := Lib.hid ST0.out.size
  clear hw1 q2 q5 q8 k9 l9 hb K0 KR CV CA CT
  obtain ⟨c0, c1, c2, -, -, -⟩ := ST0.out.b.o3
  go_wp2_with fail
  clear c0 c1 c2
  go_loopw [3, 4, 20] (fun _ _ i wr => ∃ k : Nat, k ≤ n.t.length ∧ i = .int .i64 k ∧ Hid (OwnSt n (w0.heap.size + 1 + 1) w0.heap.size w0 (.slice ovq n.v.length ovc) (.slice oaq n.a.length oac) (.slice ct n.t.length ctc) us0 k wr) ∧ Hid (Blk wr (w0.heap.size + 1) #[.slice none 0 0, .slice none 0 0, .slice none 0 0] 62)) (fun _ _ i _ => n.t.length - (intOf i).toNat)
  case atStart => exact ⟨0, Nat.zero_le _, rfl, ST0, KR1⟩
  case round =>
    obtain ⟨k, hk, rfl, ST, KRr⟩ := hrel
    clear ST0 KR1
    by_cases hlt : k < n.t.length
    · have hli : (k : Int) < (n.t.length : Int) := by omega
      obtain ⟨g, u, rfl, hgb, hgl, hu0, x0, x1, x2, hstep⟩ := ST.out.step hlt (by omega)
      have HST := Lib.hid hstep
      have X25 : Hid (∀ w', Below wr.heap.size wr w' → w'.cell? ⟨g, k * 3 + 2, none⟩ = some u) := Lib.hid (fun w' hb => keep hb x2)
      have hro := HROW0.out k n.t[k] u (List.getElem?_eq_getElem hlt) hu0
      have hal : n.t[k].2.2.length ≤ 600 := HC.out _ (List.getElem_mem hlt)
      have hbr : Below w0.heap.size w0 wr := ST.out.below
      have HU := Lib.hid (hro.below hbr)
      obtain ⟨A, eA⟩ : ∃ A, n.t[k] = A := ⟨_, rfl⟩
      rw [eA] at x0 x1 HU hal HST
      have HAL := Lib.hid hal
      have HGL' := Lib.hid hgl
      obtain ⟨qu, cu, rfl⟩ := HU.out.shape
      have KB' := Lib.hid ST.out.b
      have HZr := Lib.hid ST.out.size
      clear hstep hro hal hbr hu0 eA
      go_wp2_with fail
      clear x0 x1 x2
      obtain ⟨W4, hW4⟩ := named (wr.alloc (.cells #[.int .i64 A.1, .int .i64 A.2.1, .slice qu A.2.2.length cu] 103))
      rw [← hW4]
      have hbW : Below wr.heap.size wr W4 := by rw [hW4]; exact below_new _
      have KT : Hid (Blk W4 wr.heap.size #[.int .i64 A.1, .int .i64 A.2.1, .slice qu A.2.2.length cu] 103) := by rw [hW4]; exact Lib.hid (Blk.new _ _ _ _ rfl)
      have KB := Lib.hid (KB'.out.keep hbW)
      have HGL : Hid (g < W4.heap.size) := Lib.hid (Nat.lt_of_lt_of_le hgl hbW.size)
      have HZ : Hid (w0.heap.size + 1 + 1 ≤ W4.heap.size) := Lib.hid (Nat.le_trans HZr.out hbW.size)
      have HU4 := Lib.hid (HU.out.below hbW)
      have HBW := Lib.hid hbW
      clear hW4 hbW KB' HU
      have HU := HU4
      clear HU4
      have hGS : Grows (fun w' => Below W4.heap.size W4 w') := Grows.below W4
      refine' wp_thenL _ 8 (fun w' => Below W4.heap.size W4 w') [[], [0], [], [], [3], [3, 4], [0, 1, 2, 3, 4, 5], [0, 1, 2, 3, 4, 5, 6]] (Fact.lit _ :: Fact.lit _ :: Fact.lit _ :: Fact.lit _ :: Fact.lit _ :: Fact.prop _ _ :: Fact.lit _ :: Fact.lit _ :: []) (by kernel_rfl) rfl (by kernel_rfl) (Below.refl _ _).drew ?seqo5
      case' seqo5 => skip
      iterate 5 ((first | (apply grow_skip; (case hf => rfl); (case hw => rfl)) | (apply grow_lit; (case hf => rfl); (case hw => rfl); (case hrun => (intro w' hS H; clear H; (obtain ⟨c0, c1, c2, -, -, -⟩ := (KB.out.keep hS).o3); (obtain ⟨m0, m1, m2, -, -, -⟩ := (KT.out.keep hS).o3); (have hl0 := Nat.lt_of_lt_of_le HGL.out hS.size); clear hS; go_simp; first | done | exact rfl)))); (case hc => (simp only [Act.put, List.setIfInBounds_toArray, List.set_cons_zero, List.set_cons_succ]; first | done | exact rfl)); (try (case hj => rfl)))
      (refine' grow_callP (p := fun v w => w.ownsRow (w0.heap.size + 1 + 1) 2 1 v A.2.2.length (A.2.2.map (Value.int .i64))) (hp := fun v w w' h hb => owns_below h hb) rfl Tryz.func86 (by kernel_rfl) rfl hGS rfl ?wt32 ?run32 ?put32 ?next32; (case wt32 => rfl); (case run32 => (intro w' hS H; exact (clone_any _ A.2.2 w' HAL.out (HU.out.below hS)).mono (fun e w2 ⟨v, h1, h2, h3⟩ => ⟨v, h1, owns_base h2 (Nat.le_trans HZ.out hS.size), h3⟩))); (case put32 => (intro v; simp only [Act.put, List.setIfInBounds_toArray, List.set_cons_zero, List.set_cons_succ]; first | done | exact rfl)); (case' next32 => intro v5))
      iterate 2 ((first | (apply grow_skip; (case hf => rfl); (case hw => rfl)) | (apply grow_lit; (case hf => rfl); (case hw => rfl); (case hrun => (intro w' hS H; clear H; (obtain ⟨c0, c1, c2, -, -, -⟩ := (KB.out.keep hS).o3); (obtain ⟨m0, m1, m2, -, -, -⟩ := (KT.out.keep hS).o3); (have hl0 := Nat.lt_of_lt_of_le HGL.out hS.size); clear hS; go_simp; first | done | exact rfl)))); (case hc => (simp only [Act.put, List.setIfInBounds_toArray, List.set_cons_zero, List.set_cons_succ]; first | done | exact rfl)); (try (case hj => rfl)))
      intro w5 hb hk5
      have q5 : w5.ownsRow (w0.heap.size + 1 + 1) 2 1 v5 A.2.2.length (A.2.2.map (Value.int .i64)) := hk5 5 (by decide)
      obtain ⟨xq, xc, rfl⟩ := own_shape q5
      obtain ⟨hfz, hnew⟩ := HST.out w5 _ (HBW.out.trans (hb.mono HBW.out.size)) q5
      have KRn := Lib.hid ((KRr.out.keep (HBW.out.trans (hb.mono HBW.out.size))).other (k := g) (k * 3 + 2) (.slice xq A.2.2.length xc) (by omega))
      have hgl5 : g < w5.heap.size := Nat.lt_of_lt_of_le HGL.out hb.size
      obtain ⟨z5, hz5⟩ : ∃ z, w5.cell? ⟨g, k * 3 + 2, none⟩ = some z := ⟨_, X25.out w5 (HBW.out.trans (hb.mono HBW.out.size))⟩
      have HNEW := Lib.hid hnew
      clear hk5 hGS q5 hnew
      refine wpAny_ready (rs := [8]) (by kernel_rfl) (by simp) (AllReady.cons rfl (fun K hK => ?_) AllReady.nil)
      go_simp
      refine hK _ _ ?_
      clear hK K
      refine wpAny_done (by kernel_rfl) ?_ _
      clear hfz hz5
      have hsz3 := HSZ.out.2.2
      go_wp2_with fail
      go_roundw
      case rel => exact ⟨k + 1, by omega, by go_num, HNEW, KRn⟩
      case measure => simp [intOf]; omega
    · obtain rfl : k = n.t.length := by omega
      have hli : ¬ (n.t.length : Int) < (n.t.length : Int) := by omega
      obtain ⟨us, hul, hot, -, hro⟩ := ST.out.t
      have hkr := KRr.out
      obtain ⟨c0, c1, c2, -, -, -⟩ := ST.out.b.o3
      obtain ⟨r0, r1, r2, f0, f1, f2⟩ := hkr.o3
      have hlr := hkr.lt
      have lb : ∀ {b : TypeId} {s : Nat} {v : Value} {m : Nat} {xs : List Value}, b ≠ 62 → wr.ownsRow (w0.heap.size + 1 + 1) b s v m xs → (((wr.setCell ⟨w0.heap.size + 1, 0, none⟩ (.slice ovq n.v.length ovc)).setCell ⟨w0.heap.size + 1, 1, none⟩ (.slice oaq n.a.length oac)).setCell ⟨w0.heap.size + 1, 2, none⟩ (.slice ct n.t.length ctc)).ownsRow w0.heap.size b s v m xs := fun hne h =>
        owns_base (owns_set (owns_set (owns_set h hkr hne 0 _) (hkr.set 0 _) hne 1 _) ((hkr.set 0 _).set 1 _) hne 2 _) (by omega)
      have HOP : Hid (OwnP (((wr.setCell ⟨w0.heap.size + 1, 0, none⟩ (.slice ovq n.v.length ovc)).setCell ⟨w0.heap.size + 1, 1, none⟩ (.slice oaq n.a.length oac)).setCell ⟨w0.heap.size + 1, 2, none⟩ (.slice ct n.t.length ctc)) w0.heap.size n (.slice ovq n.v.length ovc) (.slice oaq n.a.length oac) (.slice ct n.t.length ctc) us) := Lib.hid
        ⟨lb (by decide) ST.out.v, lb (by decide) ST.out.a, lb (by decide) hot, hul, fun i t u h1 h2 => lb (by decide) (hro i t u (List.getElem?_eq_some_iff.1 h1).1 h1 h2)⟩
      have HBZ : Hid (Below w0.heap.size w0 (((wr.setCell ⟨w0.heap.size + 1, 0, none⟩ (.slice ovq n.v.length ovc)).setCell ⟨w0.heap.size + 1, 1, none⟩ (.slice oaq n.a.length oac)).setCell ⟨w0.heap.size + 1, 2, none⟩ (.slice ct n.t.length ctc))) := Lib.hid (by
        iterate 3 (refine Below.setCell ?_ (by simp only []; omega) _)
        exact ST.out.below)
      clear ST KRr lb hkr hot hro hul
      go_wp2_with fail
      exact bodyPost_ret (v := .agg #[(.slice ovq n.v.length ovc), (.slice oaq n.a.length oac), .slice ct n.t.length ctc]) (by simp [results, Tryz.results50, go_sem]; go_simp) rfl ⟨_, _, _, rfl, ⟨us, HOP.out⟩, HBZ.out⟩

end Go.Proofs.YtgihaakgadmidaaGreat

/-
  The program's graph: what going over all arcs tells; a Graph.
-/
namespace Go.Proofs.YtgihaakgadmidaaGreat
open Go.RowKit

theorem gnew1_any (f t x : Int) (w : World) : Calls Tryz.prog 52 #[.agg #[.int .i64 f, .int .i64 t, .int .i64 x]] w fun e w' => e = .returned (.int .i64 t) ∧ w' = w.alloc (.cells #[.int .i64 f, .int .i64 t, .int .i64 x] 98) := by
  go_enter Tryz.func52, Tryz.ntmps52
  go_wp2
  go_ret
  exact ⟨rfl, rfl⟩
theorem gnew2_any (f t x : Int) (w : World) : Calls Tryz.prog 53 #[.agg #[.int .i64 f, .int .i64 t, .int .i64 x]] w fun e w' => e = .returned (.int .i64 f) ∧ w' = w.alloc (.cells #[.int .i64 f, .int .i64 t, .int .i64 x] 98) := by
  go_enter Tryz.func53, Tryz.ntmps53
  go_wp2
  go_ret
  exact ⟨rfl, rfl⟩
theorem infoInts : (Tryz.prog.info? 43).map (fun i => (i.zero, i.size, i.bytes)) = some (some (.slice none 0 0), 1, 24) := by kernel_rfl
theorem run_makeR (m : Nat) (h1 : m ≤ 100000) (w : World) :
    (Instr.makeSlice 31 (.int .i64 m) (.int .i64 m)).run Tryz.prog w = .ok (.slice (some ⟨w.heap.size, 0, none⟩) m m) (w.alloc (.cells (List.replicate m (Value.slice none 0 0)).toArray 43)) := by
  obtain ⟨i0, hi, hz0, hz1, hz2⟩ := info_parts infoInts
  have := run_make (P := Tryz.prog) w 31 43 i0 (.slice none 0 0) Tryz.underlying31 hi hz0 .i64 .i64 m m (by omega) (Int.le_refl _) (by rw [hz2]; omega) (by omega)
  rw [hz1, Nat.mul_one, Int.toNat_natCast] at this
  have e : madeCells (Value.slice none 0 0).cells m = (List.replicate m (Value.slice none 0 0)).toArray := by
    apply Array.toList_inj.1
    rw [show (Value.slice none 0 0).cells = #[Value.slice none 0 0] from rfl, toList_madeCells_one]
  rw [e] at this
  exact this
/-- A row of empty rows that was made behind W. -/
def NewRows (W : World) (m : Nat) (v : Value) (w : World) : Prop := ∃ b, v = .slice (some ⟨b, 0, none⟩) m m ∧ W.heap.size ≤ b ∧ Blk w b (List.replicate m (Value.slice none 0 0)).toArray 43
theorem NewRows.below {W w w' : World} {m : Nat} {v : Value} (h : NewRows W m v w) (hb : Below w.heap.size w w') : NewRows W m v w' := by
  obtain ⟨b, e, h1, h2⟩ := h
  exact ⟨b, e, h1, h2.keep hb⟩
def SideAgg (W : World) (m k : Nat) (v : Value) (w : World) : Prop := ∃ b d, v = .agg #[.slice (some ⟨b, 0, none⟩) m m, .slice (some ⟨d, 0, none⟩) k k] ∧ (W.heap.size ≤ b ∧ Blk w b (List.replicate m (Value.slice none 0 0)).toArray 43) ∧ (W.heap.size ≤ d ∧ Blk w d (arrC (fun _ => 0) k) 3)
theorem SideAgg.below {W w w' : World} {m k : Nat} {v : Value} (h : SideAgg W m k v w) (hb : Below w.heap.size w w') : SideAgg W m k v w' := by
  obtain ⟨b, d, e, ⟨h1, h2⟩, h3, h4⟩ := h
  exact ⟨b, d, e, ⟨h1, h2.keep hb⟩, h3, h4.keep hb⟩
theorem owns_off {w : World} {base : Nat} {e : TypeId} {size : Nat} {v : Value} {n : Nat} {xs : List Value} (h : w.ownsRow base e size v n xs) {k : Nat} (hk : v.ownBlock ≠ some k) (o : Nat) (x : Value) : (w.setCell ⟨k, o, none⟩ x).ownsRow base e size v n xs := by
  refine ⟨h.1, ?_⟩
  rcases h.2 with h0 | ⟨g, cap, cur, rfl, h2, h3, h4⟩
  · exact Or.inl h0
  · exact Or.inr ⟨g, cap, cur, rfl, h2, (heap_setCell_other w ⟨k, o, none⟩ g x (by rintro rfl; exact hk rfl)).trans h3, h4⟩
/-- While the arcs are gone over: rows that grow, each in a block of its own; the places told so far. -/
structure SideR (m na : Nat) (L : Nat → List Int) (f : Nat → Int) (base bs b d : Nat) (w0 w : World) : Prop where
  ks : Blk w bs #[.slice (some ⟨b, 0, none⟩) m m, .slice (some ⟨d, 0, none⟩) na na] 96
  kd : Blk w d (arrC f na) 3
  rows : ∃ us : List Value, Blk w b us.toArray 43 ∧ us.length = m ∧ (∀ (i : Nat) (u : Value), us[i]? = some u → w.ownsRow base 3 1 u (L i).length ((L i).map (Value.int .i64)) ∧ u.ownBlock ≠ some d) ∧
    (∀ (i j : Nat) (u u' : Value) (g : Nat), i ≠ j → us[i]? = some u → us[j]? = some u' → u.ownBlock = some g → u'.ownBlock ≠ some g)
  below : Below base w0 w
  lb : base ≤ b ∧ base ≤ d ∧ base ≤ bs
  size : base ≤ w.heap.size
section
variable {m na : Nat} {L : Nat → List Int} {f : Nat → Int} {base bs b d : Nat} {w0 w w' : World}
theorem SideR.old (h : SideR m na L f base bs b d w0 w) (hb : Below w.heap.size w w') : SideR m na L f base bs b d w0 w' := by
  obtain ⟨us, h1, h2, h3, h4⟩ := h.rows
  exact ⟨h.ks.keep hb, h.kd.keep hb, ⟨us, h1.keep hb, h2, fun i u hu => ⟨owns_below (h3 i u hu).1 hb, (h3 i u hu).2⟩, h4⟩, h.below.trans (hb.mono h.size), h.lb, Nat.le_trans h.size hb.size⟩
theorem SideR.place {k : Nat} {C : Int} (h : SideR m na L (doneL f k) base bs b d w0 w) (hC : f k = C) : SideR m na L (doneL f (k + 1)) base bs b d w0 (w.setCell ⟨d, k, none⟩ (.int .i64 C)) := by
  obtain ⟨us, h1, h2, h3, h4⟩ := h.rows
  refine ⟨h.ks.other _ _ (h.ks.ne h.kd (by decide)), ?_, ⟨us, h1.other _ _ (h1.ne h.kd (by decide)), h2, fun i u hu => ⟨owns_off (h3 i u hu).1 (h3 i u hu).2 _ _, (h3 i u hu).2⟩, h4⟩, h.below.setCell h.lb.2.1 _, h.lb, by simpa using h.size⟩
  rw [← arrC_put hC]
  exact h.kd.set k _
/-- .. where the row of v has grown to v', which isn't put in its place yet. -/
structure SideP (m na : Nat) (L' : Nat → List Int) (f : Nat → Int) (base bs b d v : Nat) (u v' : Value) (w0 w : World) : Prop where
  ks : Blk w bs #[.slice (some ⟨b, 0, none⟩) m m, .slice (some ⟨d, 0, none⟩) na na] 96
  kd : Blk w d (arrC f na) 3
  rows : ∃ us : List Value, Blk w b us.toArray 43 ∧ us.length = m ∧ us[v]? = some u ∧ (∀ (i : Nat) (x : Value), (us.set v v')[i]? = some x → w.ownsRow base 3 1 x (L' i).length ((L' i).map (Value.int .i64)) ∧ x.ownBlock ≠ some d) ∧
    (∀ (i j : Nat) (x x' : Value) (g : Nat), i ≠ j → (us.set v v')[i]? = some x → (us.set v v')[j]? = some x' → x.ownBlock = some g → x'.ownBlock ≠ some g)
  below : Below base w0 w
  lb : base ≤ b ∧ base ≤ d ∧ base ≤ bs
  size : base ≤ w.heap.size
theorem SideP.old {v : Nat} {u v' : Value} (h : SideP m na L f base bs b d v u v' w0 w) (hb : Below w.heap.size w w') : SideP m na L f base bs b d v u v' w0 w' := by
  obtain ⟨us, h1, h2, h3, h4, h5⟩ := h.rows
  exact ⟨h.ks.keep hb, h.kd.keep hb, ⟨us, h1.keep hb, h2, h3, fun i x hx => ⟨owns_below (h4 i x hx).1 hb, (h4 i x hx).2⟩, h5⟩, h.below.trans (hb.mono h.size), h.lb, Nat.le_trans h.size hb.size⟩
theorem SideP.put {v : Nat} {u v' : Value} (h : SideP m na L f base bs b d v u v' w0 w) : w.cell? ⟨b, v, none⟩ = some u ∧ w.frozen? ⟨b, v, none⟩ = false ∧ SideR m na L f base bs b d w0 (w.setCell ⟨b, v, none⟩ v') := by
  obtain ⟨us, h1, h2, h3, h4, h5⟩ := h.rows
  refine ⟨h1.cell v (by rw [List.getElem?_toArray]; exact h3), h1.free v, h.ks.other _ _ (h.ks.ne h1 (by decide)), h.kd.other _ _ (h.kd.ne h1 (by decide)), ⟨us.set v v', ?_, by simpa using h2, fun i x hx => ⟨owns_set (h4 i x hx).1 h1 (by decide) _ _, (h4 i x hx).2⟩, h5⟩, h.below.setCell h.lb.1 _, h.lb, by simpa using h.size⟩
  have := h1.set v v'
  rwa [List.setIfInBounds_toArray] at this
theorem SideR.app {L' : Nat → List Int} {v : Nat} {x : Int} {g : Nat} {u : Value} (h : SideR m na L f base bs b d w0 w) (hu : w.cell? ⟨b, v, none⟩ = some u) (hg : Blk w g #[.int .i64 x] 3) (hv : v < m) (hlen : (L v).length ≤ 100000) (hL : L' v = L v ++ [x]) (hO : ∀ i, i ≠ v → L' i = L i) :
    ∃ q' n' c' w', (Builtin.append_ #[43, 43] 43 #[u, .slice (some ⟨g, 0, none⟩) 1 1]).run Tryz.prog w = .ok (.slice q' n' c') w' ∧ SideP m na L' f base bs b d v u (.slice q' n' c') w0 w' ∧ w.heap.size ≤ w'.heap.size := by
  obtain ⟨us, h1, h2, h3, h4⟩ := h.rows
  obtain ⟨i0, hi, hz0, hz1, hz2⟩ := info_parts infoInt
  have hvu : v < us.length := by omega
  have hus : us[v]? = some us[v] := List.getElem?_eq_getElem hvu
  obtain rfl : u = us[v] := Option.some.inj (hu.symm.trans (h1.cell v (by rw [List.getElem?_toArray]; exact hus)))
  obtain ⟨o1, o2⟩ := h3 v _ hus
  have hz9 : base ≤ w.heap.size := h.size
  obtain ⟨v', w', hr, r1, r2, -, r4⟩ := run_append_own_at (P := Tryz.prog) w base 43 43 3 i0 (.int .i64 0) 1 8 Tryz.underlying43 hi hz0 hz1 hz2 rfl (by decide) us[v] (L v).length _ o1 ⟨g, 0, none⟩ 1 1 [.int .i64 x] rfl
    (fun j u hj => by
      rcases j with _ | j
      · simp only [List.getElem?_cons_zero, Option.some.injEq] at hj
        subst hj
        exact hg.cell 0 rfl
      · simp at hj) (by intro u hu; simp at hu; subst hu; rfl) (by unfold maxLen; omega) (by omega) hz9
  have hbne : us[v].ownBlock ≠ some b := own_ne_blk o1 h1 (by decide)
  have hsne : us[v].ownBlock ≠ some bs := own_ne_blk o1 h.ks (by decide)
  have hv'd : v'.ownBlock ≠ some d := by
    rcases r4 with r4 | r4
    · rw [r4]; exact o2
    · rw [r4]
      intro e
      injection e with e
      have := h.kd.lt
      omega
  have hP : SideP m na L' f base bs b d v us[v] v' w0 w' := by
    refine ⟨h.ks.grownO r2 hsne, h.kd.grownO r2 o2, ⟨us, h1.grownO r2 hbne, h2, hus, fun i y hui => ?_, fun i j y y' g' hij hi' hj' hg' => ?_⟩, ?_, h.lb, Nat.le_trans hz9 r2.size⟩
    · by_cases hiv : i = v
      · subst hiv
        rw [List.getElem?_set_self hvu] at hui
        injection hui with hui
        subst hui
        refine ⟨?_, hv'd⟩
        rw [hL, List.length_append, List.map_append]
        exact r1
      · rw [List.getElem?_set_ne (by omega)] at hui
        obtain ⟨p1, p2⟩ := h3 i y hui
        refine ⟨?_, p2⟩
        rw [hO i hiv]
        refine p1.kept r2 ?_
        cases hub : y.ownBlock with
        | none => exact Or.inl rfl
        | some g' => exact Or.inr (h4 i v y _ g' hiv hui hus hub).symm
    · by_cases hiv : i = v
      · subst hiv
        rw [List.getElem?_set_self hvu] at hi'
        injection hi' with hi'
        subst hi'
        rw [List.getElem?_set_ne (by omega)] at hj'
        rcases r4 with r4 | r4
        · exact h4 i j _ y' g' hij hus hj' (by rw [← r4]; exact hg')
        · rw [r4] at hg'
          injection hg' with hg'
          intro e
          have := ((h3 j y' hj').1.lt _ e).2
          omega
      · rw [List.getElem?_set_ne (by omega)] at hi'
        by_cases hjv : j = v
        · subst hjv
          rw [List.getElem?_set_self hvu] at hj'
          injection hj' with hj'
          subst hj'
          rcases r4 with r4 | r4
          · rw [r4]; exact h4 i j y _ g' hij hi' hus hg'
          · rw [r4]
            intro e
            injection e with e
            have := ((h3 i y hi').1.lt _ hg').2
            omega
        · rw [List.getElem?_set_ne (by omega)] at hj'
          exact h4 i j y y' g' hij hi' hj' hg'
    · exact h.below.grown r2 hz9 (fun g' hg' => own_ge o1 g' (by simpa using hg'))
  obtain ⟨q', c', rfl⟩ := own_shape r1
  exact ⟨q', _, c', w', hr, hP, r2.size⟩
/-- What going over all arcs tells, in blocks of a call's own. -/
def SideO (w : World) (base b d m k : Nat) (L : Nat → List Int) (f : Nat → Int) : Prop :=
  ∃ us : List Value, Blk w b us.toArray 43 ∧ us.length = m ∧ base ≤ b ∧ Blk w d (arrC f k) 3 ∧ base ≤ d ∧ ∀ (i : Nat) (u : Value), us[i]? = some u → w.ownsRow base 3 1 u (L i).length ((L i).map (Value.int .i64)) ∧ (L i).length ≤ 100000
theorem SideO.below {k : Nat} (h : SideO w base b d m k L f) (hb : Below w.heap.size w w') : SideO w' base b d m k L f := by
  obtain ⟨us, h1, h2, h3, h4, h5, h6⟩ := h
  exact ⟨us, h1.keep hb, h2, h3, h4.keep hb, h5, fun i u hu => ⟨owns_below (h6 i u hu).1 hb, (h6 i u hu).2⟩⟩
theorem Av.both {P Q : Nat → Prop} {v : Value} (h : Av P v) (k : Av Q v) : Av (fun b => P b ∧ Q b) v := fun b o s n c e h0 => ⟨h b o s n c e h0, k b o s n c e h0⟩
theorem SideO.at {k : Nat} {vs : List Value} (h : SideO w base b d m k L f) (hv : ∀ v ∈ vs, MutR w v) : SideAt (fun b => Off vs b ∧ base ≤ b) w b d m k L f := by
  obtain ⟨us, h1, h2, h3, h4, h5, h6⟩ := h
  exact ⟨us, h1, h2, ⟨off_blk hv h1 (by decide) (by decide), h3⟩, h4, ⟨off_blk hv h4 (by decide) (by decide), h5⟩, fun i u hu => ⟨ints_of_owns (h6 i u hu).1 (by have := (h6 i u hu).2; omega), (owns_av hv (h6 i u hu).1 (by decide) (by decide)).both (owns_new (h6 i u hu).1)⟩⟩
end
theorem GG.exec_append {P : Program} {o : Oper} {ρ : Operand → Value} {w w' : World} (s x : Operand) (t : TypeId) (ho : o.op = .call { callee := .builtin .append, args := #[s, x], argTypes := #[t, t] })
    {v sv v' : Value} (hs : ρ s = v) (hx : ρ x = sv) (hr : (Builtin.append_ #[t, t] o.type #[v, sv]).run P w = .ok v' w') : (execOp ρ o).run P w = .ok (.value v') w' := by
  unfold execOp
  simp only [ho, resolve, invoke, builtin, Sem.run_bind, Sem.run_pure, Result.andThen_ok, List.map_toArray, List.map_cons, List.map_nil, hs, hx, hr]
/-- A row of a side grows in a region that draws its order: whether it has. -/
def GG.RlA (s : Bool) (w : World) (s' : Bool) (w' : World) : Prop := (s = true → s' = true) ∧ (s = s' → Below w.heap.size w w')
structure GG.SA (j m na : Nat) (L : Nat → List Int) (f : Nat → Int) (base bs b d : Nat) (v : Nat) (u : Value) (w0 : World) (dn : Nat → Bool) (s : Bool) (w : World) : Prop where
  here : dn j = s
  r : s = false → SideR m na L f base bs b d w0 w
  k : Blk w bs #[.slice (some ⟨b, 0, none⟩) m m, .slice (some ⟨d, 0, none⟩) na na] 96
  c : w.cell? ⟨b, v, none⟩ = some u
theorem GG.SA.step {j m na : Nat} {L : Nat → List Int} {f : Nat → Int} {base bs b d v : Nat} {u : Value} {w0 : World} {dn : Nat → Bool} {s : Bool} {w : World} (h : GG.SA j m na L f base bs b d v u w0 dn s w) {i : Nat} (hi : j ≠ i) : GG.SA j m na L f base bs b d v u w0 (GG.doneG dn i) s w :=
  ⟨by show (if j = i then true else dn j) = s; rw [if_neg hi]; exact h.here, h.r, h.k, h.c⟩
theorem GG.SA.still {j m na : Nat} {L : Nat → List Int} {f : Nat → Int} {base bs b d v : Nat} {u : Value} {w0 : World} {i : Nat} (hi : j ≠ i) : GG.Still (GG.SA j m na L f base bs b d v u w0) GG.RlA i :=
  ⟨fun _ _ _ h => h.step hi, fun _ _ => ⟨id, fun _ => Below.refl _ _⟩⟩
theorem GG.SA.old {j m na : Nat} {L : Nat → List Int} {f : Nat → Int} {base bs b d v : Nat} {u : Value} {w0 : World} {dn : Nat → Bool} {s : Bool} {w w' : World} (h : GG.SA j m na L f base bs b d v u w0 dn s w) (hb : Below w.heap.size w w') : GG.SA j m na L f base bs b d v u w0 dn s w' :=
  ⟨h.here, fun e => (h.r e).old hb, h.k.keep hb, keep hb h.c⟩
/-- The literal of one number, until it is put to the row. -/
def GG.LitI (x : Int) (v : Value) (s : Bool) (w : World) : Prop := s = false → ∃ g, v = .slice (some ⟨g, 0, none⟩) 1 1 ∧ Blk w g #[.int .i64 x] 3
theorem GG.LitI.st (x : Int) (v : Value) (s : Bool) (w : World) (s' : Bool) (w' : World) (h : GG.LitI x v s w) (hr : GG.RlA s w s' w') : GG.LitI x v s' w' := by
  intro e
  have hs : s = false := by
    cases s with
    | false => rfl
    | true => rw [hr.1 rfl] at e; cases e
  obtain ⟨g, e1, hk⟩ := h hs
  exact ⟨g, e1, hk.keep (hr.2 (by rw [hs, e]))⟩
def GG.AppI (m na : Nat) (L' : Nat → List Int) (f : Nat → Int) (base bs b d v : Nat) (u : Value) (w0 : World) (v' : Value) (s : Bool) (w : World) : Prop := s = true ∧ (∃ q n c, v' = .slice q n c) ∧ SideP m na L' f base bs b d v u v' w0 w
theorem GG.AppI.st (m na : Nat) (L' : Nat → List Int) (f : Nat → Int) (base bs b d v : Nat) (u : Value) (w0 : World) (v' : Value) (s : Bool) (w : World) (s' : Bool) (w' : World) (h : GG.AppI m na L' f base bs b d v u w0 v' s w) (hr : GG.RlA s w s' w') : GG.AppI m na L' f base bs b d v u w0 v' s' w' :=
  ⟨hr.1 h.1, h.2.1, h.2.2.old (hr.2 (by rw [h.1, hr.1 h.1]))⟩
theorem insL_snoc {a : List Tri} {k : Nat} (h : k < a.length) (v : Int) : insL (a.take (k + 1)) v = insL (a.take k) v ++ (if a[k].2.1 = v then [(k : Int)] else []) := by
  have := idx_take (p := fun x : Tri => decide (x.2.1 = v)) h
  simpa [insL] using this
theorem outsL_snoc {a : List Tri} {k : Nat} (h : k < a.length) (v : Int) : outsL (a.take (k + 1)) v = outsL (a.take k) v ++ (if a[k].1 = v then [(k : Int)] else []) := by
  have := idx_take (p := fun x : Tri => decide (x.1 = v)) h
  simpa [outsL] using this

set_option maxHeartbeats 8000000 in
set_option maxRecDepth 100000 in
theorem sideof_ins (n : NetD) (vq aq tq : Option Addr) (vc ac tc : Nat) (w : World) (h : NetS w n vq aq tq vc ac tc) (hin : ArcsIn n) (hsv : n.v.length ≤ 4096) (hsa : n.a.length ≤ 16384) :
    Calls Tryz.prog 51 #[netVal n vq aq tq vc ac tc, .func (.func 52) #[] #[]] w fun e w' => ∃ b d, e = .returned (.agg #[.slice (some ⟨b, 0, none⟩) n.v.length n.v.length, .slice (some ⟨d, 0, none⟩) n.a.length n.a.length]) ∧ SideO w' w.heap.size b d n.v.length n.a.length (fun i => insL n.a i) (inP n) ∧ Below w.heap.size w w' := by
  have HIN := Lib.hid hin
  clear hin
  go_enter Tryz.func51, Tryz.ntmps51
  go_wp2_with fail
  obtain ⟨W0, hW0⟩ := named ((w.alloc (.cells #[.slice vq n.v.length vc, .slice aq n.a.length ac, .slice tq n.t.length tc] 62)).alloc (.cells #[.slice none 0 0, .slice none 0 0] 96))
  rw [← hW0]
  have hb0 : Below w.heap.size w W0 := by rw [hW0]; exact below_alloc2 _ _
  have z0 : W0.heap.size = w.heap.size + 2 := by rw [hW0]; simp
  have B0 := Lib.hid hb0
  have K0 : Hid (Blk W0 w.heap.size #[.slice vq n.v.length vc, .slice aq n.a.length ac, .slice tq n.t.length tc] 62) := by rw [hW0]; exact Lib.hid ((Blk.new _ _ _ _ rfl).old _)
  have KR : Hid (Blk W0 (w.heap.size + 1) #[.slice none 0 0, .slice none 0 0] 96) := by rw [hW0]; exact Lib.hid (Blk.new _ _ _ _ (by simp))
  have HS := Lib.hid (h.below hb0)
  clear h hW0 hb0
  have hGS : Grows (fun w' => Below W0.heap.size W0 w') := Grows.below W0
  refine' wp_thenL _ 10 (fun w' => Below W0.heap.size W0 w') [[], [0], [0, 1], [0, 1, 2], [], [4], [4, 5], [4, 5, 6], [0, 1, 2, 3, 4, 5, 6, 7], []] (Fact.lit _ :: Fact.lit _ :: Fact.lit _ :: Fact.fresh _ _ :: Fact.lit _ :: Fact.lit _ :: Fact.lit _ :: Fact.fresh _ _ :: Fact.prop _ _ :: Fact.fresh _ _ :: []) (by kernel_rfl) rfl (by kernel_rfl) (Below.refl _ _).drew ?seqs1ins
  case' seqs1ins => skip
  iterate 3 ((first | (apply grow_skip; (case hf => rfl); (case hw => rfl)) | (apply grow_lit; (case hf => rfl); (case hw => rfl); (case hrun => (intro w' hS H; clear H; (obtain ⟨c0, c1, c2, -, -, -⟩ := (K0.out.keep hS).o3); clear hS; go_simp; first | done | exact rfl)))); (case hc => (simp only [Act.put, List.setIfInBounds_toArray, List.set_cons_zero, List.set_cons_succ]; first | done | exact rfl)); (try (case hj => rfl)))
  (refine' grow_fresh (p := NewRows W0 n.v.length) (hp := fun v w w' h hb => h.below hb) hGS rfl ?wtinsa ?runinsa ?putinsa ?nextinsa; (case wtinsa => rfl); (case runinsa => (intro w' hS H; clear H; refine ⟨.slice (some ⟨w'.heap.size, 0, none⟩) n.v.length n.v.length, w'.alloc (.cells (List.replicate n.v.length (Value.slice none 0 0)).toArray 43), ?_, ⟨w'.heap.size, rfl, hS.size, Blk.new _ _ _ _ rfl⟩, ⟨w'.heap.size, rfl, Nat.le_refl _, by simp⟩, below_new _⟩; have hmk := run_makeR n.v.length (by omega) w'; (clear hS; go_simp; (first | done | simp only [hmk] | (simp [hmk]))))); (case putinsa => (intro v; simp only [Act.put, List.setIfInBounds_toArray, List.set_cons_zero, List.set_cons_succ]; first | done | exact rfl)); (case' nextinsa => intro v3))
  iterate 3 ((first | (apply grow_skip; (case hf => rfl); (case hw => rfl)) | (apply grow_lit; (case hf => rfl); (case hw => rfl); (case hrun => (intro w' hS H; clear H; (obtain ⟨c0, c1, c2, -, -, -⟩ := (K0.out.keep hS).o3); clear hS; go_simp; first | done | exact rfl)))); (case hc => (simp only [Act.put, List.setIfInBounds_toArray, List.set_cons_zero, List.set_cons_succ]; first | done | exact rfl)); (try (case hj => rfl)))
  (refine' grow_fresh (p := NewInts W0 n.a.length) (hp := fun v w w' h hb => h.below hb) hGS rfl ?wtinsb ?runinsb ?putinsb ?nextinsb; (case wtinsb => rfl); (case runinsb => (intro w' hS H; clear H; refine ⟨.slice (some ⟨w'.heap.size, 0, none⟩) n.a.length n.a.length, w'.alloc (.cells (arrC (fun _ => 0) n.a.length) 3), ?_, ⟨w'.heap.size, rfl, hS.size, Blk.new _ _ _ _ rfl⟩, ⟨w'.heap.size, rfl, Nat.le_refl _, by simp⟩, below_new _⟩; have hmk := run_makeN n.a.length (by omega) w'; (clear hS; go_simp; (first | done | simp only [hmk] | (simp [hmk]))))); (case putinsb => (intro v; simp only [Act.put, List.setIfInBounds_toArray, List.set_cons_zero, List.set_cons_succ]; first | done | exact rfl)); (case' nextinsb => intro v7))
  (refine' grow_prop (p := SideAgg W0 n.v.length n.a.length) (hp := fun v w w' h hb => h.below hb) rfl ?wtinsc ?runinsc ?putinsc ?nextinsc; (case wtinsc => rfl); (case runinsc => (intro w' hS H; (have q3 : NewRows W0 n.v.length v3 w' := H 3 (by decide)); (have q7 : NewInts W0 n.a.length v7 w' := H 7 (by decide)); clear H hS; obtain ⟨b, rfl, q3⟩ := q3; obtain ⟨d, rfl, q7⟩ := q7; refine ⟨_, ?_, ⟨b, d, rfl, q3, q7⟩⟩; clear q3 q7; go_simp; first | done | exact rfl)); (case putinsc => (intro v; simp only [Act.put, List.setIfInBounds_toArray, List.set_cons_zero, List.set_cons_succ]; first | done | exact rfl)); (case' nextinsc => intro v8))
  (refine' grow_fresh (p := PtrC W0 #[.slice none 0 0, .slice none 0 0] 96) (hp := fun v w w' h hb => h.below hb) hGS rfl ?wtinsd ?runinsd ?putinsd ?nextinsd; (case wtinsd => rfl); (case runinsd => (intro w' hS H; clear H; refine ⟨.pointer (some ⟨w'.heap.size, 0, none⟩), w'.alloc (.cells #[.slice none 0 0, .slice none 0 0] 96), ?_, ⟨w'.heap.size, rfl, hS.size, Blk.new _ _ _ _ rfl⟩, ⟨w'.heap.size, rfl, Nat.le_refl _, by simp⟩, below_new _⟩; (clear hS; go_simp))); (case putinsd => (intro v; simp only [Act.put, List.setIfInBounds_toArray, List.set_cons_zero, List.set_cons_succ]; first | done | exact rfl)); (case' nextinsd => intro v9))
  intro w9 hb hk
  have q8 : SideAgg W0 n.v.length n.a.length v8 w9 := hk 8 (by decide)
  have q9 : PtrC W0 #[.slice none 0 0, .slice none 0 0] 96 v9 w9 := hk 9 (by decide)
  obtain ⟨b, d, rfl, ⟨hbb, kb⟩, hdb, kd⟩ := q8
  obtain ⟨bs, rfl, hsb, ks⟩ := q9
  have z9 := hb.size
  clear hk hGS
  obtain ⟨s0, s1, f0, f1⟩ := ks.o2
  refine wpAny_ready (rs := [10]) (by kernel_rfl) (by simp) (AllReady.cons rfl (fun K hK => ?_) AllReady.nil)
  go_simp
  refine hK _ _ ?_
  clear hK K
  refine wpAny_done (by kernel_rfl) ?_ _
  clear s0 s1 f0 f1
  obtain ⟨W1, hW1⟩ := named ((w9.setCell ⟨bs, 0, none⟩ (.slice (some ⟨b, 0, none⟩) n.v.length n.v.length)).setCell ⟨bs, 1, none⟩ (.slice (some ⟨d, 0, none⟩) n.a.length n.a.length))
  rw [← hW1]
  have SR0 : Hid (SideR n.v.length n.a.length (fun i => insL (n.a.take 0) i) (doneL (inP n) 0) W0.heap.size bs b d W0 W1) := by
    rw [hW1]
    refine Lib.hid ⟨?_, ?_, ⟨List.replicate n.v.length (Value.slice none 0 0), ?_, by simp, fun i u hu => ?_, fun i j u u' g hij hi hj hg => ?_⟩, ?_, ⟨hbb, hdb, hsb⟩, by simp; omega⟩
    · have := (ks.set 0 (.slice (some ⟨b, 0, none⟩) n.v.length n.v.length)).set 1 (.slice (some ⟨d, 0, none⟩) n.a.length n.a.length)
      simpa using this
    · rw [doneL_zero]
      exact (kd.other _ _ (kd.ne ks (by decide))).other _ _ (kd.ne ks (by decide))
    · exact (kb.other _ _ (kb.ne ks (by decide))).other _ _ (kb.ne ks (by decide))
    · obtain ⟨-, rfl⟩ := List.mem_replicate.1 (List.mem_of_getElem? hu)
      exact ⟨World.ownsRow_nil _ _ _ _, by simp [Value.ownBlock]⟩
    · obtain ⟨-, rfl⟩ := List.mem_replicate.1 (List.mem_of_getElem? hi)
      simp [Value.ownBlock] at hg
    · exact (hb.setCell (by simp only []; omega) _).setCell (by simp only []; omega) _
  clear hW1 ks kb kd hb
  have K1 := Lib.hid (K0.out.keep SR0.out.below)
  obtain ⟨c0, c1, c2, -, -, -⟩ := K1.out.o3
  go_wp2_with fail
  clear c0 c1 c2 K1
  go_loopw [6, 7, 8, 21] (fun _ _ _ i wr => ∃ k : Nat, k ≤ n.a.length ∧ i = .int .i64 k ∧ Hid (SideR n.v.length n.a.length (fun i => insL (n.a.take k) i) (doneL (inP n) k) W0.heap.size bs b d W0 wr)) (fun _ _ _ i _ => n.a.length - (intOf i).toNat)
  case atStart => exact ⟨0, Nat.zero_le _, rfl, SR0⟩
  case round =>
    obtain ⟨k, hk, rfl, SR⟩ := hrel
    clear SR0
    by_cases hlt : k < n.a.length
    · have hli : (k : Int) < (n.a.length : Int) := by omega
      obtain ⟨ab, ao, rfl, x0, x1, x2⟩ := (HS.out.below SR.out.below).a.at hlt
      have hab := World.block_lt_of_cell? wr _ x0
      obtain ⟨g0, g1, g2, g3⟩ := HIN.out k hlt
      have hLS := fun v => insL_snoc hlt v
      have hC : inP n k = ((insL (n.a.take k) n.a[k].2.1).length : Int) := by rw [inP_at hlt, insL_len]
      have hlk : (insL (n.a.take k) n.a[k].2.1).length ≤ 16384 := by
        have := idxFrom_length (fun x => decide (x.2.1 = n.a[k].2.1)) 0 (n.a.take k)
        rw [List.length_take] at this
        show (idxFrom _ 0 (n.a.take k)).length ≤ _
        omega
      obtain ⟨⟨F, T, X⟩, eA⟩ : ∃ A, n.a[k] = A := ⟨_, rfl⟩
      rw [eA] at x0 x1 x2 g0 g1 g2 g3 hC hlk
      simp only [eA] at hLS
      simp only [] at x0 x1 x2 g0 g1 g2 g3 hC hlk hLS
      obtain ⟨kf, rfl⟩ : ∃ kf : Nat, F = kf := ⟨F.toNat, by omega⟩
      obtain ⟨kt, rfl⟩ : ∃ kt : Nat, T = kt := ⟨T.toNat, by omega⟩
      have hvv : kt < n.v.length := by omega
      have hvi : (kt : Int) < (n.v.length : Int) := by omega
      have HLS := Lib.hid hLS
      have HC := Lib.hid hC
      have HLK := Lib.hid hlk
      have HVV := Lib.hid hvv
      clear eA g0 g1 g2 g3 hLS hC hlk hvv
      go_wp2_with fail
      clear x0 x1 x2
      refine (gnew1_any kf kt X _).mono ?_
      rintro e w' ⟨rfl, rfl⟩
      obtain ⟨W1, hW1⟩ := named ((wr.alloc (.cells #[.int .i64 kf, .int .i64 kt, .int .i64 X] 98)).alloc (.cells #[.int .i64 kf, .int .i64 kt, .int .i64 X] 98))
      rw [← hW1]
      have SI : Hid (SideR n.v.length n.a.length (fun i => insL (n.a.take k) i) (doneL (inP n) k) W0.heap.size bs b d W0 W1) := by rw [hW1]; exact Lib.hid (SR.out.old (below_alloc2 _ _))
      clear SR hW1 hab
      obtain ⟨us, u1, u2, u3, u4⟩ := SI.out.rows
      have hux : us[kt]? = some (us[kt]'(by have := HVV.out; omega)) := List.getElem?_eq_getElem _
      obtain ⟨qx, cx, ex⟩ := own_shape (u3 _ _ hux).1
      rw [ex] at hux
      have XC : Hid (W1.cell? ⟨b, kt, none⟩ = some (.slice qx (insL (n.a.take k) (kt : Int)).length cx)) := Lib.hid (u1.cell _ (by simpa using hux))
      obtain ⟨LL, eLL⟩ : ∃ LL, (insL (n.a.take k) (kt : Int)).length = LL := ⟨_, rfl⟩
      rw [eLL] at XC HC HLK
      have ELL := Lib.hid eLL
      have hdl := SI.out.kd.lt
      have HDL := Lib.hid hdl
      clear u1 u2 u3 u4 hux ex eLL
      go_wp2_with fail
      have hGS : Grows (fun w' => Below W1.heap.size W1 w') := Grows.below W1
      refine' wp_thenL _ 10 (fun w' => Below W1.heap.size W1 w') [[], [0], [], [], [3], [], [3, 4, 5], [3, 4, 5, 6], [3, 4, 5, 6, 7], [0, 1, 2, 3, 4, 5, 6, 7, 8]] (Fact.lit _ :: Fact.lit _ :: Fact.lit _ :: Fact.lit _ :: Fact.lit _ :: Fact.lit _ :: Fact.lit _ :: Fact.lit _ :: Fact.lit _ :: Fact.lit _ :: []) (by kernel_rfl) rfl (by kernel_rfl) (Below.refl _ _).drew ?seqs6ins
      case' seqs6ins => skip
      iterate 10 ((first | (apply grow_skip; (case hf => rfl); (case hw => rfl)) | (apply grow_lit; (case hf => rfl); (case hw => rfl); (case hrun => (intro w' hS H; clear H; (obtain ⟨c0, c1, -, -⟩ := (SI.out.ks.keep hS).o2); (have x0 := keep hS XC.out); (have hl0 := World.block_lt_of_cell? w' _ x0); (have hl1 := Nat.lt_of_lt_of_le HDL.out hS.size); clear hS; go_simp; first | done | exact rfl)))); (case hc => (simp only [Act.put, List.setIfInBounds_toArray, List.set_cons_zero, List.set_cons_succ]; first | done | exact rfl)); (try (case hj => rfl)))
      intro w5 hb _
      have SI5 := Lib.hid (SI.out.old hb)
      have XC5 := Lib.hid (keep hb XC.out)
      have d5 : w5.cell? ⟨d, k, none⟩ = some (.int .i64 (doneL (inP n) k k)) := SI5.out.kd.cell k (arrC_at _ hlt)
      have fd5 := SI5.out.kd.free k
      clear hGS hb SI XC
      refine wpAny_ready (rs := [10]) (by kernel_rfl) (by simp) (AllReady.cons rfl (fun K hK => ?_) AllReady.nil)
      go_simp
      refine hK _ _ ?_
      clear hK K
      refine wpAny_done (by kernel_rfl) ?_ _
      clear d5 fd5
      obtain ⟨W2, hW2⟩ := named (w5.setCell ⟨d, k, none⟩ (.int .i64 LL))
      rw [← hW2]
      have SI2 : Hid (SideR n.v.length n.a.length (fun i => insL (n.a.take k) i) (doneL (inP n) (k + 1)) W0.heap.size bs b d W0 W2) := by rw [hW2]; exact Lib.hid (SI5.out.place HC.out)
      have XC2 : Hid (W2.cell? ⟨b, kt, none⟩ = some (.slice qx LL cx)) := by
        obtain ⟨us, u1, -, -, -⟩ := SI5.out.rows
        rw [hW2]
        exact Lib.hid ((World.cell?_of_block (w := w5) (a := ⟨b, kt, none⟩) (heap_setCell_other w5 ⟨d, k, none⟩ b _ (u1.ne SI5.out.kd (by decide)))).trans XC5.out)
      clear hW2 SI5 XC5 hdl HDL
      go_wp2_with fail
      have SA0 : Hid (GG.SA 10 n.v.length n.a.length (fun i => insL (n.a.take k) i) (doneL (inP n) (k + 1)) W0.heap.size bs b d kt (.slice qx LL cx) W0 (fun _ => false) false W2.drew) := Lib.hid ⟨rfl, fun _ => SI2.out.old (Below.refl _ _).drew, SI2.out.ks, XC2.out⟩
      have HLL : Hid ((insL (n.a.take k) (kt : Int)).length ≤ 100000) := Lib.hid (by have := ELL.out; have := HLK.out; omega)
      have HLA : Hid (insL (n.a.take (k + 1)) (kt : Int) = insL (n.a.take k) (kt : Int) ++ [(k : Int)]) := Lib.hid (by rw [HLS.out, if_pos rfl])
      have HLO : Hid (∀ i : Nat, i ≠ kt → insL (n.a.take (k + 1)) (i : Int) = insL (n.a.take k) (i : Int)) := Lib.hid (fun i hi => by rw [HLS.out, if_neg (by omega), List.append_nil])
      refine' GG.wp_thenL _ 11 (GG.SA 10 n.v.length n.a.length (fun i => insL (n.a.take k) i) (doneL (inP n) (k + 1)) W0.heap.size bs b d kt (.slice qx LL cx) W0) [[], [0], [], [], [3], [], [3, 4, 5], [3, 4, 5, 6], [], [8], [3, 4, 5, 6, 7, 8, 9]] (GG.Fact.lit (Rl := GG.RlA) _ :: GG.Fact.lit (Rl := GG.RlA) _ :: GG.Fact.lit (Rl := GG.RlA) _ :: GG.Fact.lit (Rl := GG.RlA) _ :: GG.Fact.lit (Rl := GG.RlA) _ :: GG.Fact.lit (Rl := GG.RlA) _ :: GG.Fact.lit (Rl := GG.RlA) _ :: GG.Fact.lit (Rl := GG.RlA) _ :: GG.Fact.lit (Rl := GG.RlA) _ :: GG.Fact.prop (Rl := GG.RlA) _ _ :: GG.Fact.prop (Rl := GG.RlA) _ _ :: []) (by kernel_rfl) rfl (by kernel_rfl) (false) (SA0.out) ?seqinsg
      case' seqinsg => skip
      (refine' GG.grow_lit (GG.SA.still (by decide)) rfl ?wtinsg0 ?runinsg0 ?putinsg0 ?nextinsg0; (case wtinsg0 => rfl); (case runinsg0 => (intro w' hS; (obtain ⟨dn, s, hS⟩ := hS); (obtain ⟨c0, c1, -, -⟩ := hS.k.o2); (have x0 := hS.c); (have hl0 := World.block_lt_of_cell? w' _ x0); clear hS; go_simp; first | done | exact rfl)); (case putinsg0 => (first | rfl | (simp only [Act.put, List.setIfInBounds_toArray, List.set_cons_zero, List.set_cons_succ]; first | done | exact rfl))); (case' nextinsg0 => skip))
      (refine' GG.grow_lit (GG.SA.still (by decide)) rfl ?wtinsg1 ?runinsg1 ?putinsg1 ?nextinsg1; (case wtinsg1 => rfl); (case runinsg1 => (intro w' hS; (obtain ⟨dn, s, hS⟩ := hS); (obtain ⟨c0, c1, -, -⟩ := hS.k.o2); (have x0 := hS.c); (have hl0 := World.block_lt_of_cell? w' _ x0); clear hS; go_simp; first | done | exact rfl)); (case putinsg1 => (first | rfl | (simp only [Act.put, List.setIfInBounds_toArray, List.set_cons_zero, List.set_cons_succ]; first | done | exact rfl))); (case' nextinsg1 => skip))
      (refine' GG.grow_lit (GG.SA.still (by decide)) rfl ?wtinsg2 ?runinsg2 ?putinsg2 ?nextinsg2; (case wtinsg2 => rfl); (case runinsg2 => (intro w' hS; (obtain ⟨dn, s, hS⟩ := hS); (obtain ⟨c0, c1, -, -⟩ := hS.k.o2); (have x0 := hS.c); (have hl0 := World.block_lt_of_cell? w' _ x0); clear hS; go_simp; first | done | exact rfl)); (case putinsg2 => (first | rfl | (simp only [Act.put, List.setIfInBounds_toArray, List.set_cons_zero, List.set_cons_succ]; first | done | exact rfl))); (case' nextinsg2 => skip))
      (refine' GG.grow_lit (GG.SA.still (by decide)) rfl ?wtinsg3 ?runinsg3 ?putinsg3 ?nextinsg3; (case wtinsg3 => rfl); (case runinsg3 => (intro w' hS; (obtain ⟨dn, s, hS⟩ := hS); (obtain ⟨c0, c1, -, -⟩ := hS.k.o2); (have x0 := hS.c); (have hl0 := World.block_lt_of_cell? w' _ x0); clear hS; go_simp; first | done | exact rfl)); (case putinsg3 => (first | rfl | (simp only [Act.put, List.setIfInBounds_toArray, List.set_cons_zero, List.set_cons_succ]; first | done | exact rfl))); (case' nextinsg3 => skip))
      (refine' GG.grow_lit (GG.SA.still (by decide)) rfl ?wtinsg4 ?runinsg4 ?putinsg4 ?nextinsg4; (case wtinsg4 => rfl); (case runinsg4 => (intro w' hS; (obtain ⟨dn, s, hS⟩ := hS); (obtain ⟨c0, c1, -, -⟩ := hS.k.o2); (have x0 := hS.c); (have hl0 := World.block_lt_of_cell? w' _ x0); clear hS; go_simp; first | done | exact rfl)); (case putinsg4 => (first | rfl | (simp only [Act.put, List.setIfInBounds_toArray, List.set_cons_zero, List.set_cons_succ]; first | done | exact rfl))); (case' nextinsg4 => skip))
      (refine' GG.grow_lit (GG.SA.still (by decide)) rfl ?wtinsg5 ?runinsg5 ?putinsg5 ?nextinsg5; (case wtinsg5 => rfl); (case runinsg5 => (intro w' hS; (obtain ⟨dn, s, hS⟩ := hS); (obtain ⟨c0, c1, -, -⟩ := hS.k.o2); (have x0 := hS.c); (have hl0 := World.block_lt_of_cell? w' _ x0); clear hS; go_simp; first | done | exact rfl)); (case putinsg5 => (first | rfl | (simp only [Act.put, List.setIfInBounds_toArray, List.set_cons_zero, List.set_cons_succ]; first | done | exact rfl))); (case' nextinsg5 => skip))
      (refine' GG.grow_lit (GG.SA.still (by decide)) rfl ?wtinsg6 ?runinsg6 ?putinsg6 ?nextinsg6; (case wtinsg6 => rfl); (case runinsg6 => (intro w' hS; (obtain ⟨dn, s, hS⟩ := hS); (obtain ⟨c0, c1, -, -⟩ := hS.k.o2); (have x0 := hS.c); (have hl0 := World.block_lt_of_cell? w' _ x0); clear hS; go_simp; first | done | exact rfl)); (case putinsg6 => (first | rfl | (simp only [Act.put, List.setIfInBounds_toArray, List.set_cons_zero, List.set_cons_succ]; first | done | exact rfl))); (case' nextinsg6 => skip))
      (refine' GG.grow_lit (GG.SA.still (by decide)) rfl ?wtinsg7 ?runinsg7 ?putinsg7 ?nextinsg7; (case wtinsg7 => rfl); (case runinsg7 => (intro w' hS; (obtain ⟨dn, s, hS⟩ := hS); (obtain ⟨c0, c1, -, -⟩ := hS.k.o2); (have x0 := hS.c); (have hl0 := World.block_lt_of_cell? w' _ x0); clear hS; go_simp; first | done | exact rfl)); (case putinsg7 => (first | rfl | (simp only [Act.put, List.setIfInBounds_toArray, List.set_cons_zero, List.set_cons_succ]; first | done | exact rfl))); (case' nextinsg7 => skip))
      (refine' GG.grow_lit (GG.SA.still (by decide)) rfl ?wtinsg8 ?runinsg8 ?putinsg8 ?nextinsg8; (case wtinsg8 => rfl); (case runinsg8 => (intro w' hS; (obtain ⟨dn, s, hS⟩ := hS); (obtain ⟨c0, c1, -, -⟩ := hS.k.o2); (have x0 := hS.c); (have hl0 := World.block_lt_of_cell? w' _ x0); clear hS; go_simp; first | done | exact rfl)); (case putinsg8 => (first | rfl | (simp only [Act.put, List.setIfInBounds_toArray, List.set_cons_zero, List.set_cons_succ]; first | done | exact rfl))); (case' nextinsg8 => skip))
      (refine' GG.grow_any_op (p := GG.LitI k) (hp := GG.LitI.st k) rfl ?wtinsg9 ?runinsg9 ?putinsg9 ?nextinsg9; (case wtinsg9 => rfl); (case runinsg9 => (intro dn s w' hS hd H; (refine ⟨.slice (some ⟨w'.heap.size, 0, none⟩) 1 1, s, w'.alloc (.cells #[.int .i64 k] 3), ?_, fun _ => ⟨w'.heap.size, rfl, Blk.new _ _ _ _ rfl⟩, (hS.step (by decide)).old (below_new _), ⟨id, fun _ => below_new _⟩, (below_new _).size⟩; clear hS hd H; go_simp))); (case putinsg9 => (intro v; (simp only [Act.put, List.setIfInBounds_toArray, List.set_cons_zero, List.set_cons_succ]; first | done | exact rfl))); (case' nextinsg9 => intro v9))
      (refine' GG.grow_any_op (p := GG.AppI n.v.length n.a.length (fun i => insL (n.a.take (k + 1)) i) (doneL (inP n) (k + 1)) W0.heap.size bs b d kt (.slice qx LL cx) W0) (hp := GG.AppI.st n.v.length n.a.length (fun i => insL (n.a.take (k + 1)) i) (doneL (inP n) (k + 1)) W0.heap.size bs b d kt (.slice qx LL cx) W0) rfl ?wtinsg10 ?runinsg10 ?putinsg10 ?nextinsg10; (case wtinsg10 => rfl); (case runinsg10 => (intro dn s w' hS hd H; (obtain rfl : s = false := hS.here.symm.trans hd); (obtain ⟨g, e9, kg⟩ := (show GG.LitI k v9 false w' from H 9 (by decide)) rfl); (obtain ⟨q', n', c', w7, hr, hP, hz⟩ := (hS.r rfl).app (L' := fun i => insL (n.a.take (k + 1)) i) (v := kt) (x := (k : Int)) hS.c kg HVV.out HLL.out HLA.out HLO.out); subst e9; exact ⟨_, true, w7, GG.exec_append (.tmp 46) (.tmp 48) 43 rfl rfl rfl hr, ⟨rfl, ⟨_, _, _, rfl⟩, hP⟩, ⟨rfl, (fun h => by cases h), hP.ks, hP.put.1⟩, ⟨fun _ => rfl, fun h => by cases h⟩, hz⟩)); (case putinsg10 => (intro v; (simp only [Act.put, List.setIfInBounds_toArray, List.set_cons_zero, List.set_cons_succ]; first | done | exact rfl))); (case' nextinsg10 => intro v10))
      intro dn s w7 hS7 _ hk7
      obtain ⟨-, ⟨qz, nz, cz, rfl⟩, hP⟩ : GG.AppI n.v.length n.a.length (fun i => insL (n.a.take (k + 1)) i) (doneL (inP n) (k + 1)) W0.heap.size bs b d kt (.slice qx LL cx) W0 v10 s w7 := hk7 10 (by decide)
      obtain ⟨hc7, hf7, hnew⟩ := hP.put
      have HNEW := Lib.hid hnew
      have hl7 := World.block_lt_of_cell? w7 _ hc7
      have hvi' : (kt : Int) < (n.v.length : Int) := by have := HVV.out; omega
      clear hk7 hS7 hP hnew SI2 XC2 SA0
      refine wpAny_ready (rs := [11]) (by kernel_rfl) (by simp) (AllReady.cons rfl (fun K hK => ?_) AllReady.nil)
      go_simp
      refine hK _ _ ?_
      clear hK K
      refine wpAny_ready (rs := [12]) (by kernel_rfl) (by simp) (AllReady.cons rfl (fun K hK => ?_) AllReady.nil)
      go_simp
      refine hK _ _ ?_
      clear hK K
      refine wpAny_done (by kernel_rfl) ?_ _
      clear hc7 hf7
      go_wp2_with fail
      go_roundw
      case rel => exact ⟨k + 1, by omega, by go_num, HNEW⟩
      case measure => simp [intOf]; omega
    · obtain rfl : k = n.a.length := by omega
      have hli : ¬ (n.a.length : Int) < (n.a.length : Int) := by omega
      obtain ⟨us, u1, u2, u3, u4⟩ := SR.out.rows
      have kd := SR.out.kd
      rw [arrC_congr (g := inP n) (fun i hi => by simp [doneL, hi])] at kd
      simp only [List.take_length] at u3
      obtain ⟨e0, e1, -, -⟩ := SR.out.ks.o2
      have kr := KR.out.keep SR.out.below
      obtain ⟨r0, r1, f0, f1⟩ := kr.o2
      have hlr := kr.lt
      have hz0 := z0
      obtain ⟨hlb, hld, hls⟩ := SR.out.lb
      have p1 : b ≠ w.heap.size + 1 := by omega
      have p2 : d ≠ w.heap.size + 1 := by omega
      have HO : Hid (SideO ((wr.setCell ⟨w.heap.size + 1, 0, none⟩ (.slice (some ⟨b, 0, none⟩) n.v.length n.v.length)).setCell ⟨w.heap.size + 1, 1, none⟩ (.slice (some ⟨d, 0, none⟩) n.a.length n.a.length)) w.heap.size b d n.v.length n.a.length (fun i => insL n.a i) (inP n)) := Lib.hid
        ⟨us, (u1.other _ _ p1).other _ _ p1, u2, by omega, (kd.other _ _ p2).other _ _ p2, by omega, fun i u hu => ⟨owns_base (owns_set (owns_set (u3 i u hu).1 kr (by decide) 0 _) (kr.set 0 _) (by decide) 1 _) (by omega), by have := idxFrom_length (fun x => decide (x.2.1 = (i : Int))) 0 n.a; show (idxFrom _ 0 n.a).length ≤ _; omega⟩⟩
      have HZ : Hid (Below w.heap.size w ((wr.setCell ⟨w.heap.size + 1, 0, none⟩ (.slice (some ⟨b, 0, none⟩) n.v.length n.v.length)).setCell ⟨w.heap.size + 1, 1, none⟩ (.slice (some ⟨d, 0, none⟩) n.a.length n.a.length))) := Lib.hid (by
        iterate 2 (refine Below.setCell ?_ (by simp only []; omega) _)
        exact B0.out.trans (SR.out.below.mono (by omega)))
      clear SR u1 u2 u3 u4 kd kr hlb hld hls
      go_wp2_with fail
      exact bodyPost_ret (v := .agg #[.slice (some ⟨b, 0, none⟩) n.v.length n.v.length, .slice (some ⟨d, 0, none⟩) n.a.length n.a.length]) (by simp [results, Tryz.results51, go_sem]; go_simp) rfl ⟨b, d, rfl, HO.out, HZ.out⟩

set_option maxHeartbeats 8000000 in
set_option maxRecDepth 100000 in
theorem sideof_outs (n : NetD) (vq aq tq : Option Addr) (vc ac tc : Nat) (w : World) (h : NetS w n vq aq tq vc ac tc) (hin : ArcsIn n) (hsv : n.v.length ≤ 4096) (hsa : n.a.length ≤ 16384) :
    Calls Tryz.prog 51 #[netVal n vq aq tq vc ac tc, .func (.func 53) #[] #[]] w fun e w' => ∃ b d, e = .returned (.agg #[.slice (some ⟨b, 0, none⟩) n.v.length n.v.length, .slice (some ⟨d, 0, none⟩) n.a.length n.a.length]) ∧ SideO w' w.heap.size b d n.v.length n.a.length (fun i => outsL n.a i) (outP n) ∧ Below w.heap.size w w' := by
  have HIN := Lib.hid hin
  clear hin
  go_enter Tryz.func51, Tryz.ntmps51
  go_wp2_with fail
  obtain ⟨W0, hW0⟩ := named ((w.alloc (.cells #[.slice vq n.v.length vc, .slice aq n.a.length ac, .slice tq n.t.length tc] 62)).alloc (.cells #[.slice none 0 0, .slice none 0 0] 96))
  rw [← hW0]
  have hb0 : Below w.heap.size w W0 := by rw [hW0]; exact below_alloc2 _ _
  have z0 : W0.heap.size = w.heap.size + 2 := by rw [hW0]; simp
  have B0 := Lib.hid hb0
  have K0 : Hid (Blk W0 w.heap.size #[.slice vq n.v.length vc, .slice aq n.a.length ac, .slice tq n.t.length tc] 62) := by rw [hW0]; exact Lib.hid ((Blk.new _ _ _ _ rfl).old _)
  have KR : Hid (Blk W0 (w.heap.size + 1) #[.slice none 0 0, .slice none 0 0] 96) := by rw [hW0]; exact Lib.hid (Blk.new _ _ _ _ (by simp))
  have HS := Lib.hid (h.below hb0)
  clear h hW0 hb0
  have hGS : Grows (fun w' => Below W0.heap.size W0 w') := Grows.below W0
  refine' wp_thenL _ 10 (fun w' => Below W0.heap.size W0 w') [[], [0], [0, 1], [0, 1, 2], [], [4], [4, 5], [4, 5, 6], [0, 1, 2, 3, 4, 5, 6, 7], []] (Fact.lit _ :: Fact.lit _ :: Fact.lit _ :: Fact.fresh _ _ :: Fact.lit _ :: Fact.lit _ :: Fact.lit _ :: Fact.fresh _ _ :: Fact.prop _ _ :: Fact.fresh _ _ :: []) (by kernel_rfl) rfl (by kernel_rfl) (Below.refl _ _).drew ?seqs1outs
  case' seqs1outs => skip
  iterate 3 ((first | (apply grow_skip; (case hf => rfl); (case hw => rfl)) | (apply grow_lit; (case hf => rfl); (case hw => rfl); (case hrun => (intro w' hS H; clear H; (obtain ⟨c0, c1, c2, -, -, -⟩ := (K0.out.keep hS).o3); clear hS; go_simp; first | done | exact rfl)))); (case hc => (simp only [Act.put, List.setIfInBounds_toArray, List.set_cons_zero, List.set_cons_succ]; first | done | exact rfl)); (try (case hj => rfl)))
  (refine' grow_fresh (p := NewRows W0 n.v.length) (hp := fun v w w' h hb => h.below hb) hGS rfl ?wtoutsa ?runoutsa ?putoutsa ?nextoutsa; (case wtoutsa => rfl); (case runoutsa => (intro w' hS H; clear H; refine ⟨.slice (some ⟨w'.heap.size, 0, none⟩) n.v.length n.v.length, w'.alloc (.cells (List.replicate n.v.length (Value.slice none 0 0)).toArray 43), ?_, ⟨w'.heap.size, rfl, hS.size, Blk.new _ _ _ _ rfl⟩, ⟨w'.heap.size, rfl, Nat.le_refl _, by simp⟩, below_new _⟩; have hmk := run_makeR n.v.length (by omega) w'; (clear hS; go_simp; (first | done | simp only [hmk] | (simp [hmk]))))); (case putoutsa => (intro v; simp only [Act.put, List.setIfInBounds_toArray, List.set_cons_zero, List.set_cons_succ]; first | done | exact rfl)); (case' nextoutsa => intro v3))
  iterate 3 ((first | (apply grow_skip; (case hf => rfl); (case hw => rfl)) | (apply grow_lit; (case hf => rfl); (case hw => rfl); (case hrun => (intro w' hS H; clear H; (obtain ⟨c0, c1, c2, -, -, -⟩ := (K0.out.keep hS).o3); clear hS; go_simp; first | done | exact rfl)))); (case hc => (simp only [Act.put, List.setIfInBounds_toArray, List.set_cons_zero, List.set_cons_succ]; first | done | exact rfl)); (try (case hj => rfl)))
  (refine' grow_fresh (p := NewInts W0 n.a.length) (hp := fun v w w' h hb => h.below hb) hGS rfl ?wtoutsb ?runoutsb ?putoutsb ?nextoutsb; (case wtoutsb => rfl); (case runoutsb => (intro w' hS H; clear H; refine ⟨.slice (some ⟨w'.heap.size, 0, none⟩) n.a.length n.a.length, w'.alloc (.cells (arrC (fun _ => 0) n.a.length) 3), ?_, ⟨w'.heap.size, rfl, hS.size, Blk.new _ _ _ _ rfl⟩, ⟨w'.heap.size, rfl, Nat.le_refl _, by simp⟩, below_new _⟩; have hmk := run_makeN n.a.length (by omega) w'; (clear hS; go_simp; (first | done | simp only [hmk] | (simp [hmk]))))); (case putoutsb => (intro v; simp only [Act.put, List.setIfInBounds_toArray, List.set_cons_zero, List.set_cons_succ]; first | done | exact rfl)); (case' nextoutsb => intro v7))
  (refine' grow_prop (p := SideAgg W0 n.v.length n.a.length) (hp := fun v w w' h hb => h.below hb) rfl ?wtoutsc ?runoutsc ?putoutsc ?nextoutsc; (case wtoutsc => rfl); (case runoutsc => (intro w' hS H; (have q3 : NewRows W0 n.v.length v3 w' := H 3 (by decide)); (have q7 : NewInts W0 n.a.length v7 w' := H 7 (by decide)); clear H hS; obtain ⟨b, rfl, q3⟩ := q3; obtain ⟨d, rfl, q7⟩ := q7; refine ⟨_, ?_, ⟨b, d, rfl, q3, q7⟩⟩; clear q3 q7; go_simp; first | done | exact rfl)); (case putoutsc => (intro v; simp only [Act.put, List.setIfInBounds_toArray, List.set_cons_zero, List.set_cons_succ]; first | done | exact rfl)); (case' nextoutsc => intro v8))
  (refine' grow_fresh (p := PtrC W0 #[.slice none 0 0, .slice none 0 0] 96) (hp := fun v w w' h hb => h.below hb) hGS rfl ?wtoutsd ?runoutsd ?putoutsd ?nextoutsd; (case wtoutsd => rfl); (case runoutsd => (intro w' hS H; clear H; refine ⟨.pointer (some ⟨w'.heap.size, 0, none⟩), w'.alloc (.cells #[.slice none 0 0, .slice none 0 0] 96), ?_, ⟨w'.heap.size, rfl, hS.size, Blk.new _ _ _ _ rfl⟩, ⟨w'.heap.size, rfl, Nat.le_refl _, by simp⟩, below_new _⟩; (clear hS; go_simp))); (case putoutsd => (intro v; simp only [Act.put, List.setIfInBounds_toArray, List.set_cons_zero, List.set_cons_succ]; first | done | exact rfl)); (case' nextoutsd => intro v9))
  intro w9 hb hk
  have q8 : SideAgg W0 n.v.length n.a.length v8 w9 := hk 8 (by decide)
  have q9 : PtrC W0 #[.slice none 0 0, .slice none 0 0] 96 v9 w9 := hk 9 (by decide)
  obtain ⟨b, d, rfl, ⟨hbb, kb⟩, hdb, kd⟩ := q8
  obtain ⟨bs, rfl, hsb, ks⟩ := q9
  have z9 := hb.size
  clear hk hGS
  obtain ⟨s0, s1, f0, f1⟩ := ks.o2
  refine wpAny_ready (rs := [10]) (by kernel_rfl) (by simp) (AllReady.cons rfl (fun K hK => ?_) AllReady.nil)
  go_simp
  refine hK _ _ ?_
  clear hK K
  refine wpAny_done (by kernel_rfl) ?_ _
  clear s0 s1 f0 f1
  obtain ⟨W1, hW1⟩ := named ((w9.setCell ⟨bs, 0, none⟩ (.slice (some ⟨b, 0, none⟩) n.v.length n.v.length)).setCell ⟨bs, 1, none⟩ (.slice (some ⟨d, 0, none⟩) n.a.length n.a.length))
  rw [← hW1]
  have SR0 : Hid (SideR n.v.length n.a.length (fun i => outsL (n.a.take 0) i) (doneL (outP n) 0) W0.heap.size bs b d W0 W1) := by
    rw [hW1]
    refine Lib.hid ⟨?_, ?_, ⟨List.replicate n.v.length (Value.slice none 0 0), ?_, by simp, fun i u hu => ?_, fun i j u u' g hij hi hj hg => ?_⟩, ?_, ⟨hbb, hdb, hsb⟩, by simp; omega⟩
    · have := (ks.set 0 (.slice (some ⟨b, 0, none⟩) n.v.length n.v.length)).set 1 (.slice (some ⟨d, 0, none⟩) n.a.length n.a.length)
      simpa using this
    · rw [doneL_zero]
      exact (kd.other _ _ (kd.ne ks (by decide))).other _ _ (kd.ne ks (by decide))
    · exact (kb.other _ _ (kb.ne ks (by decide))).other _ _ (kb.ne ks (by decide))
    · obtain ⟨-, rfl⟩ := List.mem_replicate.1 (List.mem_of_getElem? hu)
      exact ⟨World.ownsRow_nil _ _ _ _, by simp [Value.ownBlock]⟩
    · obtain ⟨-, rfl⟩ := List.mem_replicate.1 (List.mem_of_getElem? hi)
      simp [Value.ownBlock] at hg
    · exact (hb.setCell (by simp only []; omega) _).setCell (by simp only []; omega) _
  clear hW1 ks kb kd hb
  have K1 := Lib.hid (K0.out.keep SR0.out.below)
  obtain ⟨c0, c1, c2, -, -, -⟩ := K1.out.o3
  go_wp2_with fail
  clear c0 c1 c2 K1
  go_loopw [6, 7, 8, 21] (fun _ _ _ i wr => ∃ k : Nat, k ≤ n.a.length ∧ i = .int .i64 k ∧ Hid (SideR n.v.length n.a.length (fun i => outsL (n.a.take k) i) (doneL (outP n) k) W0.heap.size bs b d W0 wr)) (fun _ _ _ i _ => n.a.length - (intOf i).toNat)
  case atStart => exact ⟨0, Nat.zero_le _, rfl, SR0⟩
  case round =>
    obtain ⟨k, hk, rfl, SR⟩ := hrel
    clear SR0
    by_cases hlt : k < n.a.length
    · have hli : (k : Int) < (n.a.length : Int) := by omega
      obtain ⟨ab, ao, rfl, x0, x1, x2⟩ := (HS.out.below SR.out.below).a.at hlt
      have hab := World.block_lt_of_cell? wr _ x0
      obtain ⟨g0, g1, g2, g3⟩ := HIN.out k hlt
      have hLS := fun v => outsL_snoc hlt v
      have hC : outP n k = ((outsL (n.a.take k) n.a[k].1).length : Int) := by rw [outP_at hlt, outsL_len]
      have hlk : (outsL (n.a.take k) n.a[k].1).length ≤ 16384 := by
        have := idxFrom_length (fun x => decide (x.1 = n.a[k].1)) 0 (n.a.take k)
        rw [List.length_take] at this
        show (idxFrom _ 0 (n.a.take k)).length ≤ _
        omega
      obtain ⟨⟨F, T, X⟩, eA⟩ : ∃ A, n.a[k] = A := ⟨_, rfl⟩
      rw [eA] at x0 x1 x2 g0 g1 g2 g3 hC hlk
      simp only [eA] at hLS
      simp only [] at x0 x1 x2 g0 g1 g2 g3 hC hlk hLS
      obtain ⟨kf, rfl⟩ : ∃ kf : Nat, F = kf := ⟨F.toNat, by omega⟩
      obtain ⟨kt, rfl⟩ : ∃ kt : Nat, T = kt := ⟨T.toNat, by omega⟩
      have hvv : kf < n.v.length := by omega
      have hvi : (kf : Int) < (n.v.length : Int) := by omega
      have HLS := Lib.hid hLS
      have HC := Lib.hid hC
      have HLK := Lib.hid hlk
      have HVV := Lib.hid hvv
      clear eA g0 g1 g2 g3 hLS hC hlk hvv
      go_wp2_with fail
      clear x0 x1 x2
      refine (gnew2_any kf kt X _).mono ?_
      rintro e w' ⟨rfl, rfl⟩
      obtain ⟨W1, hW1⟩ := named ((wr.alloc (.cells #[.int .i64 kf, .int .i64 kt, .int .i64 X] 98)).alloc (.cells #[.int .i64 kf, .int .i64 kt, .int .i64 X] 98))
      rw [← hW1]
      have SI : Hid (SideR n.v.length n.a.length (fun i => outsL (n.a.take k) i) (doneL (outP n) k) W0.heap.size bs b d W0 W1) := by rw [hW1]; exact Lib.hid (SR.out.old (below_alloc2 _ _))
      clear SR hW1 hab
      obtain ⟨us, u1, u2, u3, u4⟩ := SI.out.rows
      have hux : us[kf]? = some (us[kf]'(by have := HVV.out; omega)) := List.getElem?_eq_getElem _
      obtain ⟨qx, cx, ex⟩ := own_shape (u3 _ _ hux).1
      rw [ex] at hux
      have XC : Hid (W1.cell? ⟨b, kf, none⟩ = some (.slice qx (outsL (n.a.take k) (kf : Int)).length cx)) := Lib.hid (u1.cell _ (by simpa using hux))
      obtain ⟨LL, eLL⟩ : ∃ LL, (outsL (n.a.take k) (kf : Int)).length = LL := ⟨_, rfl⟩
      rw [eLL] at XC HC HLK
      have ELL := Lib.hid eLL
      have hdl := SI.out.kd.lt
      have HDL := Lib.hid hdl
      clear u1 u2 u3 u4 hux ex eLL
      go_wp2_with fail
      have hGS : Grows (fun w' => Below W1.heap.size W1 w') := Grows.below W1
      refine' wp_thenL _ 10 (fun w' => Below W1.heap.size W1 w') [[], [0], [], [], [3], [], [3, 4, 5], [3, 4, 5, 6], [3, 4, 5, 6, 7], [0, 1, 2, 3, 4, 5, 6, 7, 8]] (Fact.lit _ :: Fact.lit _ :: Fact.lit _ :: Fact.lit _ :: Fact.lit _ :: Fact.lit _ :: Fact.lit _ :: Fact.lit _ :: Fact.lit _ :: Fact.lit _ :: []) (by kernel_rfl) rfl (by kernel_rfl) (Below.refl _ _).drew ?seqs6outs
      case' seqs6outs => skip
      iterate 10 ((first | (apply grow_skip; (case hf => rfl); (case hw => rfl)) | (apply grow_lit; (case hf => rfl); (case hw => rfl); (case hrun => (intro w' hS H; clear H; (obtain ⟨c0, c1, -, -⟩ := (SI.out.ks.keep hS).o2); (have x0 := keep hS XC.out); (have hl0 := World.block_lt_of_cell? w' _ x0); (have hl1 := Nat.lt_of_lt_of_le HDL.out hS.size); clear hS; go_simp; first | done | exact rfl)))); (case hc => (simp only [Act.put, List.setIfInBounds_toArray, List.set_cons_zero, List.set_cons_succ]; first | done | exact rfl)); (try (case hj => rfl)))
      intro w5 hb _
      have SI5 := Lib.hid (SI.out.old hb)
      have XC5 := Lib.hid (keep hb XC.out)
      have d5 : w5.cell? ⟨d, k, none⟩ = some (.int .i64 (doneL (outP n) k k)) := SI5.out.kd.cell k (arrC_at _ hlt)
      have fd5 := SI5.out.kd.free k
      clear hGS hb SI XC
      refine wpAny_ready (rs := [10]) (by kernel_rfl) (by simp) (AllReady.cons rfl (fun K hK => ?_) AllReady.nil)
      go_simp
      refine hK _ _ ?_
      clear hK K
      refine wpAny_done (by kernel_rfl) ?_ _
      clear d5 fd5
      obtain ⟨W2, hW2⟩ := named (w5.setCell ⟨d, k, none⟩ (.int .i64 LL))
      rw [← hW2]
      have SI2 : Hid (SideR n.v.length n.a.length (fun i => outsL (n.a.take k) i) (doneL (outP n) (k + 1)) W0.heap.size bs b d W0 W2) := by rw [hW2]; exact Lib.hid (SI5.out.place HC.out)
      have XC2 : Hid (W2.cell? ⟨b, kf, none⟩ = some (.slice qx LL cx)) := by
        obtain ⟨us, u1, -, -, -⟩ := SI5.out.rows
        rw [hW2]
        exact Lib.hid ((World.cell?_of_block (w := w5) (a := ⟨b, kf, none⟩) (heap_setCell_other w5 ⟨d, k, none⟩ b _ (u1.ne SI5.out.kd (by decide)))).trans XC5.out)
      clear hW2 SI5 XC5 hdl HDL
      go_wp2_with fail
      have SA0 : Hid (GG.SA 10 n.v.length n.a.length (fun i => outsL (n.a.take k) i) (doneL (outP n) (k + 1)) W0.heap.size bs b d kf (.slice qx LL cx) W0 (fun _ => false) false W2.drew) := Lib.hid ⟨rfl, fun _ => SI2.out.old (Below.refl _ _).drew, SI2.out.ks, XC2.out⟩
      have HLL : Hid ((outsL (n.a.take k) (kf : Int)).length ≤ 100000) := Lib.hid (by have := ELL.out; have := HLK.out; omega)
      have HLA : Hid (outsL (n.a.take (k + 1)) (kf : Int) = outsL (n.a.take k) (kf : Int) ++ [(k : Int)]) := Lib.hid (by rw [HLS.out, if_pos rfl])
      have HLO : Hid (∀ i : Nat, i ≠ kf → outsL (n.a.take (k + 1)) (i : Int) = outsL (n.a.take k) (i : Int)) := Lib.hid (fun i hi => by rw [HLS.out, if_neg (by omega), List.append_nil])
      refine' GG.wp_thenL _ 11 (GG.SA 10 n.v.length n.a.length (fun i => outsL (n.a.take k) i) (doneL (outP n) (k + 1)) W0.heap.size bs b d kf (.slice qx LL cx) W0) [[], [0], [], [], [3], [], [3, 4, 5], [3, 4, 5, 6], [], [8], [3, 4, 5, 6, 7, 8, 9]] (GG.Fact.lit (Rl := GG.RlA) _ :: GG.Fact.lit (Rl := GG.RlA) _ :: GG.Fact.lit (Rl := GG.RlA) _ :: GG.Fact.lit (Rl := GG.RlA) _ :: GG.Fact.lit (Rl := GG.RlA) _ :: GG.Fact.lit (Rl := GG.RlA) _ :: GG.Fact.lit (Rl := GG.RlA) _ :: GG.Fact.lit (Rl := GG.RlA) _ :: GG.Fact.lit (Rl := GG.RlA) _ :: GG.Fact.prop (Rl := GG.RlA) _ _ :: GG.Fact.prop (Rl := GG.RlA) _ _ :: []) (by kernel_rfl) rfl (by kernel_rfl) (false) (SA0.out) ?seqoutsg
      case' seqoutsg => skip
      (refine' GG.grow_lit (GG.SA.still (by decide)) rfl ?wtoutsg0 ?runoutsg0 ?putoutsg0 ?nextoutsg0; (case wtoutsg0 => rfl); (case runoutsg0 => (intro w' hS; (obtain ⟨dn, s, hS⟩ := hS); (obtain ⟨c0, c1, -, -⟩ := hS.k.o2); (have x0 := hS.c); (have hl0 := World.block_lt_of_cell? w' _ x0); clear hS; go_simp; first | done | exact rfl)); (case putoutsg0 => (first | rfl | (simp only [Act.put, List.setIfInBounds_toArray, List.set_cons_zero, List.set_cons_succ]; first | done | exact rfl))); (case' nextoutsg0 => skip))
      (refine' GG.grow_lit (GG.SA.still (by decide)) rfl ?wtoutsg1 ?runoutsg1 ?putoutsg1 ?nextoutsg1; (case wtoutsg1 => rfl); (case runoutsg1 => (intro w' hS; (obtain ⟨dn, s, hS⟩ := hS); (obtain ⟨c0, c1, -, -⟩ := hS.k.o2); (have x0 := hS.c); (have hl0 := World.block_lt_of_cell? w' _ x0); clear hS; go_simp; first | done | exact rfl)); (case putoutsg1 => (first | rfl | (simp only [Act.put, List.setIfInBounds_toArray, List.set_cons_zero, List.set_cons_succ]; first | done | exact rfl))); (case' nextoutsg1 => skip))
      (refine' GG.grow_lit (GG.SA.still (by decide)) rfl ?wtoutsg2 ?runoutsg2 ?putoutsg2 ?nextoutsg2; (case wtoutsg2 => rfl); (case runoutsg2 => (intro w' hS; (obtain ⟨dn, s, hS⟩ := hS); (obtain ⟨c0, c1, -, -⟩ := hS.k.o2); (have x0 := hS.c); (have hl0 := World.block_lt_of_cell? w' _ x0); clear hS; go_simp; first | done | exact rfl)); (case putoutsg2 => (first | rfl | (simp only [Act.put, List.setIfInBounds_toArray, List.set_cons_zero, List.set_cons_succ]; first | done | exact rfl))); (case' nextoutsg2 => skip))
      (refine' GG.grow_lit (GG.SA.still (by decide)) rfl ?wtoutsg3 ?runoutsg3 ?putoutsg3 ?nextoutsg3; (case wtoutsg3 => rfl); (case runoutsg3 => (intro w' hS; (obtain ⟨dn, s, hS⟩ := hS); (obtain ⟨c0, c1, -, -⟩ := hS.k.o2); (have x0 := hS.c); (have hl0 := World.block_lt_of_cell? w' _ x0); clear hS; go_simp; first | done | exact rfl)); (case putoutsg3 => (first | rfl | (simp only [Act.put, List.setIfInBounds_toArray, List.set_cons_zero, List.set_cons_succ]; first | done | exact rfl))); (case' nextoutsg3 => skip))
      (refine' GG.grow_lit (GG.SA.still (by decide)) rfl ?wtoutsg4 ?runoutsg4 ?putoutsg4 ?nextoutsg4; (case wtoutsg4 => rfl); (case runoutsg4 => (intro w' hS; (obtain ⟨dn, s, hS⟩ := hS); (obtain ⟨c0, c1, -, -⟩ := hS.k.o2); (have x0 := hS.c); (have hl0 := World.block_lt_of_cell? w' _ x0); clear hS; go_simp; first | done | exact rfl)); (case putoutsg4 => (first | rfl | (simp only [Act.put, List.setIfInBounds_toArray, List.set_cons_zero, List.set_cons_succ]; first | done | exact rfl))); (case' nextoutsg4 => skip))
      (refine' GG.grow_lit (GG.SA.still (by decide)) rfl ?wtoutsg5 ?runoutsg5 ?putoutsg5 ?nextoutsg5; (case wtoutsg5 => rfl); (case runoutsg5 => (intro w' hS; (obtain ⟨dn, s, hS⟩ := hS); (obtain ⟨c0, c1, -, -⟩ := hS.k.o2); (have x0 := hS.c); (have hl0 := World.block_lt_of_cell? w' _ x0); clear hS; go_simp; first | done | exact rfl)); (case putoutsg5 => (first | rfl | (simp only [Act.put, List.setIfInBounds_toArray, List.set_cons_zero, List.set_cons_succ]; first | done | exact rfl))); (case' nextoutsg5 => skip))
      (refine' GG.grow_lit (GG.SA.still (by decide)) rfl ?wtoutsg6 ?runoutsg6 ?putoutsg6 ?nextoutsg6; (case wtoutsg6 => rfl); (case runoutsg6 => (intro w' hS; (obtain ⟨dn, s, hS⟩ := hS); (obtain ⟨c0, c1, -, -⟩ := hS.k.o2); (have x0 := hS.c); (have hl0 := World.block_lt_of_cell? w' _ x0); clear hS; go_simp; first | done | exact rfl)); (case putoutsg6 => (first | rfl | (simp only [Act.put, List.setIfInBounds_toArray, List.set_cons_zero, List.set_cons_succ]; first | done | exact rfl))); (case' nextoutsg6 => skip))
      (refine' GG.grow_lit (GG.SA.still (by decide)) rfl ?wtoutsg7 ?runoutsg7 ?putoutsg7 ?nextoutsg7; (case wtoutsg7 => rfl); (case runoutsg7 => (intro w' hS; (obtain ⟨dn, s, hS⟩ := hS); (obtain ⟨c0, c1, -, -⟩ := hS.k.o2); (have x0 := hS.c); (have hl0 := World.block_lt_of_cell? w' _ x0); clear hS; go_simp; first | done | exact rfl)); (case putoutsg7 => (first | rfl | (simp only [Act.put, List.setIfInBounds_toArray, List.set_cons_zero, List.set_cons_succ]; first | done | exact rfl))); (case' nextoutsg7 => skip))
      (refine' GG.grow_lit (GG.SA.still (by decide)) rfl ?wtoutsg8 ?runoutsg8 ?putoutsg8 ?nextoutsg8; (case wtoutsg8 => rfl); (case runoutsg8 => (intro w' hS; (obtain ⟨dn, s, hS⟩ := hS); (obtain ⟨c0, c1, -, -⟩ := hS.k.o2); (have x0 := hS.c); (have hl0 := World.block_lt_of_cell? w' _ x0); clear hS; go_simp; first | done | exact rfl)); (case putoutsg8 => (first | rfl | (simp only [Act.put, List.setIfInBounds_toArray, List.set_cons_zero, List.set_cons_succ]; first | done | exact rfl))); (case' nextoutsg8 => skip))
      (refine' GG.grow_any_op (p := GG.LitI k) (hp := GG.LitI.st k) rfl ?wtoutsg9 ?runoutsg9 ?putoutsg9 ?nextoutsg9; (case wtoutsg9 => rfl); (case runoutsg9 => (intro dn s w' hS hd H; (refine ⟨.slice (some ⟨w'.heap.size, 0, none⟩) 1 1, s, w'.alloc (.cells #[.int .i64 k] 3), ?_, fun _ => ⟨w'.heap.size, rfl, Blk.new _ _ _ _ rfl⟩, (hS.step (by decide)).old (below_new _), ⟨id, fun _ => below_new _⟩, (below_new _).size⟩; clear hS hd H; go_simp))); (case putoutsg9 => (intro v; (simp only [Act.put, List.setIfInBounds_toArray, List.set_cons_zero, List.set_cons_succ]; first | done | exact rfl))); (case' nextoutsg9 => intro v9))
      (refine' GG.grow_any_op (p := GG.AppI n.v.length n.a.length (fun i => outsL (n.a.take (k + 1)) i) (doneL (outP n) (k + 1)) W0.heap.size bs b d kf (.slice qx LL cx) W0) (hp := GG.AppI.st n.v.length n.a.length (fun i => outsL (n.a.take (k + 1)) i) (doneL (outP n) (k + 1)) W0.heap.size bs b d kf (.slice qx LL cx) W0) rfl ?wtoutsg10 ?runoutsg10 ?putoutsg10 ?nextoutsg10; (case wtoutsg10 => rfl); (case runoutsg10 => (intro dn s w' hS hd H; (obtain rfl : s = false := hS.here.symm.trans hd); (obtain ⟨g, e9, kg⟩ := (show GG.LitI k v9 false w' from H 9 (by decide)) rfl); (obtain ⟨q', n', c', w7, hr, hP, hz⟩ := (hS.r rfl).app (L' := fun i => outsL (n.a.take (k + 1)) i) (v := kf) (x := (k : Int)) hS.c kg HVV.out HLL.out HLA.out HLO.out); subst e9; exact ⟨_, true, w7, GG.exec_append (.tmp 46) (.tmp 48) 43 rfl rfl rfl hr, ⟨rfl, ⟨_, _, _, rfl⟩, hP⟩, ⟨rfl, (fun h => by cases h), hP.ks, hP.put.1⟩, ⟨fun _ => rfl, fun h => by cases h⟩, hz⟩)); (case putoutsg10 => (intro v; (simp only [Act.put, List.setIfInBounds_toArray, List.set_cons_zero, List.set_cons_succ]; first | done | exact rfl))); (case' nextoutsg10 => intro v10))
      intro dn s w7 hS7 _ hk7
      obtain ⟨-, ⟨qz, nz, cz, rfl⟩, hP⟩ : GG.AppI n.v.length n.a.length (fun i => outsL (n.a.take (k + 1)) i) (doneL (outP n) (k + 1)) W0.heap.size bs b d kf (.slice qx LL cx) W0 v10 s w7 := hk7 10 (by decide)
      obtain ⟨hc7, hf7, hnew⟩ := hP.put
      have HNEW := Lib.hid hnew
      have hl7 := World.block_lt_of_cell? w7 _ hc7
      have hvi' : (kf : Int) < (n.v.length : Int) := by have := HVV.out; omega
      clear hk7 hS7 hP hnew SI2 XC2 SA0
      refine wpAny_ready (rs := [11]) (by kernel_rfl) (by simp) (AllReady.cons rfl (fun K hK => ?_) AllReady.nil)
      go_simp
      refine hK _ _ ?_
      clear hK K
      refine wpAny_ready (rs := [12]) (by kernel_rfl) (by simp) (AllReady.cons rfl (fun K hK => ?_) AllReady.nil)
      go_simp
      refine hK _ _ ?_
      clear hK K
      refine wpAny_done (by kernel_rfl) ?_ _
      clear hc7 hf7
      go_wp2_with fail
      go_roundw
      case rel => exact ⟨k + 1, by omega, by go_num, HNEW⟩
      case measure => simp [intOf]; omega
    · obtain rfl : k = n.a.length := by omega
      have hli : ¬ (n.a.length : Int) < (n.a.length : Int) := by omega
      obtain ⟨us, u1, u2, u3, u4⟩ := SR.out.rows
      have kd := SR.out.kd
      rw [arrC_congr (g := outP n) (fun i hi => by simp [doneL, hi])] at kd
      simp only [List.take_length] at u3
      obtain ⟨e0, e1, -, -⟩ := SR.out.ks.o2
      have kr := KR.out.keep SR.out.below
      obtain ⟨r0, r1, f0, f1⟩ := kr.o2
      have hlr := kr.lt
      have hz0 := z0
      obtain ⟨hlb, hld, hls⟩ := SR.out.lb
      have p1 : b ≠ w.heap.size + 1 := by omega
      have p2 : d ≠ w.heap.size + 1 := by omega
      have HO : Hid (SideO ((wr.setCell ⟨w.heap.size + 1, 0, none⟩ (.slice (some ⟨b, 0, none⟩) n.v.length n.v.length)).setCell ⟨w.heap.size + 1, 1, none⟩ (.slice (some ⟨d, 0, none⟩) n.a.length n.a.length)) w.heap.size b d n.v.length n.a.length (fun i => outsL n.a i) (outP n)) := Lib.hid
        ⟨us, (u1.other _ _ p1).other _ _ p1, u2, by omega, (kd.other _ _ p2).other _ _ p2, by omega, fun i u hu => ⟨owns_base (owns_set (owns_set (u3 i u hu).1 kr (by decide) 0 _) (kr.set 0 _) (by decide) 1 _) (by omega), by have := idxFrom_length (fun x => decide (x.1 = (i : Int))) 0 n.a; show (idxFrom _ 0 n.a).length ≤ _; omega⟩⟩
      have HZ : Hid (Below w.heap.size w ((wr.setCell ⟨w.heap.size + 1, 0, none⟩ (.slice (some ⟨b, 0, none⟩) n.v.length n.v.length)).setCell ⟨w.heap.size + 1, 1, none⟩ (.slice (some ⟨d, 0, none⟩) n.a.length n.a.length))) := Lib.hid (by
        iterate 2 (refine Below.setCell ?_ (by simp only []; omega) _)
        exact B0.out.trans (SR.out.below.mono (by omega)))
      clear SR u1 u2 u3 u4 kd kr hlb hld hls
      go_wp2_with fail
      exact bodyPost_ret (v := .agg #[.slice (some ⟨b, 0, none⟩) n.v.length n.v.length, .slice (some ⟨d, 0, none⟩) n.a.length n.a.length]) (by simp [results, Tryz.results51, go_sem]; go_simp) rfl ⟨b, d, rfl, HO.out, HZ.out⟩

theorem SideO.base {w : World} {base base' b d m k : Nat} {L : Nat → List Int} {f : Nat → Int} (h : SideO w base b d m k L f) (hb : base' ≤ base) : SideO w base' b d m k L f := by
  obtain ⟨us, h1, h2, h3, h4, h5, h6⟩ := h
  exact ⟨us, h1, h2, Nat.le_trans hb h3, h4, Nat.le_trans hb h5, fun i u hu => ⟨owns_base (h6 i u hu).1 hb, (h6 i u hu).2⟩⟩
theorem OwnP.base {w : World} {base base' : Nat} {n : NetD} {uv ua ut : Value} {us : List Value} (h : OwnP w base n uv ua ut us) (hb : base' ≤ base) : OwnP w base' n uv ua ut us :=
  ⟨owns_base h.v hb, owns_base h.a hb, owns_base h.t hb, h.r.1, fun i t u h1 h2 => owns_base (h.r.2 i t u h1 h2) hb⟩
def OwnAgg (base : Nat) (n : NetD) (v : Value) (w : World) : Prop := ∃ uv ua ut us, v = .agg #[uv, ua, ut] ∧ OwnP w base n uv ua ut us
theorem OwnAgg.below {base : Nat} {n : NetD} {v : Value} {w w' : World} (h : OwnAgg base n v w) (hb : Below w.heap.size w w') : OwnAgg base n v w' := by
  obtain ⟨uv, ua, ut, us, e, h⟩ := h
  exact ⟨uv, ua, ut, us, e, h.below hb⟩
def SideV (base m k : Nat) (L : Nat → List Int) (f : Nat → Int) (v : Value) (w : World) : Prop := ∃ b d, v = .agg #[.slice (some ⟨b, 0, none⟩) m m, .slice (some ⟨d, 0, none⟩) k k] ∧ SideO w base b d m k L f
theorem SideV.below {base m k : Nat} {L : Nat → List Int} {f : Nat → Int} {v : Value} {w w' : World} (h : SideV base m k L f v w) (hb : Below w.heap.size w w') : SideV base m k L f v w' := by
  obtain ⟨b, d, e, h⟩ := h
  exact ⟨b, d, e, h.below hb⟩
/-- The parts of a Graph that is built, in rows of a call's own. -/
structure GrB (w : World) (base : Nat) (n : NetD) (uv ua ut : Value) (us : List Value) (b1 d1 b2 d2 : Nat) : Prop where
  o : OwnP w base n uv ua ut us
  i : SideO w base b1 d1 n.v.length n.a.length (fun i => insL n.a i) (inP n)
  u : SideO w base b2 d2 n.v.length n.a.length (fun i => outsL n.a i) (outP n)
theorem GrB.below {w w' : World} {base : Nat} {n : NetD} {uv ua ut : Value} {us : List Value} {b1 d1 b2 d2 : Nat} (h : GrB w base n uv ua ut us b1 d1 b2 d2) (hb : Below w.heap.size w w') : GrB w' base n uv ua ut us b1 d1 b2 d2 := ⟨h.o.below hb, h.i.below hb, h.u.below hb⟩
theorem GrB.at {w : World} {base p : Nat} {n : NetD} {uv ua ut : Value} {us : List Value} {b1 d1 b2 d2 : Nat} (h : GrB w base n uv ua ut us b1 d1 b2 d2) (hk : Blk w p (gCells n uv ua ut b1 d1 b2 d2) 101) (hn : GrN n) (hp : base ≤ p) : GraphAt (fun b => Off [ua, ut] b ∧ base ≤ b) w p n ua ut := by
  have hm : ∀ v ∈ [ua, ut], MutR w v := by
    intro v hv
    simp at hv
    rcases hv with rfl | rfl
    · exact ⟨_, _, _, Or.inl h.o.a⟩
    · exact ⟨_, _, _, Or.inr h.o.t⟩
  have h1 := hn.few.v
  refine ⟨uv, b1, d1, b2, d2, hk, ⟨off_blk hm hk (by decide) (by decide), hp⟩, tris_of_owns h.o.v (by omega), (owns_av hm h.o.v (by decide) (by decide)).both (owns_new h.o.v), owns_base h.o.a (Nat.zero_le _), ⟨us, owns_base h.o.t (Nat.zero_le _), h.o.r.1, fun i t u h1 h2 => ⟨?_, (owns_av hm (h.o.r.2 i t u h1 h2) (by decide) (by decide)).both (owns_new (h.o.r.2 i t u h1 h2))⟩⟩, h.i.at hm, h.u.at hm⟩
  have h3 := hn.few.c t (List.mem_of_getElem? h1)
  exact i64s_of_owns (h.o.r.2 i t u h1 h2) (by omega)
def BldG (base : Nat) (n : NetD) (v : Value) (w : World) : Prop := ∃ uv ua ut us b1 d1 b2 d2, v = .agg (gCells n uv ua ut b1 d1 b2 d2) ∧ GrB w base n uv ua ut us b1 d1 b2 d2
theorem BldG.below {base : Nat} {n : NetD} {v : Value} {w w' : World} (h : BldG base n v w) (hb : Below w.heap.size w w') : BldG base n v w' := by
  obtain ⟨uv, ua, ut, us, b1, d1, b2, d2, e, h⟩ := h
  exact ⟨uv, ua, ut, us, b1, d1, b2, d2, e, h.below hb⟩
def BoxG (base : Nat) (n : NetD) (v : Value) (w : World) : Prop := ∃ p uv ua ut us b1 d1 b2 d2, v = .pointer (some ⟨p, 0, none⟩) ∧ base ≤ p ∧ Blk w p (gCells n uv ua ut b1 d1 b2 d2) 101 ∧ GrB w base n uv ua ut us b1 d1 b2 d2
theorem BoxG.below {base : Nat} {n : NetD} {v : Value} {w w' : World} (h : BoxG base n v w) (hb : Below w.heap.size w w') : BoxG base n v w' := by
  obtain ⟨p, uv, ua, ut, us, b1, d1, b2, d2, e, h0, h1, h⟩ := h
  exact ⟨p, uv, ua, ut, us, b1, d1, b2, d2, e, h0, h1.keep hb, h.below hb⟩
set_option maxHeartbeats 8000000 in
set_option maxRecDepth 100000 in
theorem gnew_ok {n : NetD} {v : Value} {w : World} (h : NetV w v n) (hn : GrN n) (hok : chkN n = fltOK) :
    Calls Tryz.prog 24 #[v] w fun e w' => ∃ p va vt, e = .returned (.tuple #[gp p, .nilIface]) ∧ GraphAt (fun b => Off [va, vt] b ∧ w.heap.size ≤ b) w' p n va vt ∧ (∀ b, va.ownBlock = some b → w.heap.size ≤ b) ∧ (∀ b, vt.ownBlock = some b → w.heap.size ≤ b) ∧ Below w.heap.size w w' := by
  obtain ⟨vq, aq, tq, vc, ac, tc, rfl, hs⟩ := h.shape
  have HN := Lib.hid hn
  have HOK := Lib.hid hok
  have HF : Hid (n.v.length ≤ 10000 ∧ n.a.length ≤ 100000 ∧ n.t.length ≤ 1000 ∧ ∀ t ∈ n.t, t.2.2.length ≤ 600) := Lib.hid ⟨by have := hn.few.v; omega, by have := hn.few.a; omega, by have := hn.few.t; omega, fun t ht => by have := hn.few.c t ht; omega⟩
  clear h hn hok
  go_enter Tryz.func24, Tryz.ntmps24
  go_wp2_with fail
  obtain ⟨W0, hW0⟩ := named (w.alloc (.cells #[.slice vq n.v.length vc, .slice aq n.a.length ac, .slice tq n.t.length tc] 62))
  rw [← hW0]
  have hb0 : Below w.heap.size w W0 := by rw [hW0]; exact below_new _
  have B0 := Lib.hid hb0
  have K00 : Hid (Blk W0 w.heap.size #[.slice vq n.v.length vc, .slice aq n.a.length ac, .slice tq n.t.length tc] 62) := by rw [hW0]; exact Lib.hid (Blk.new _ _ _ _ rfl)
  have HS0 := Lib.hid (hs.below hb0)
  clear hs hW0 hb0
  refine (vcheck0 HS0.out.val HN.out.few.small HN.out.inn HOK.out).mono ?_
  rintro e W1 ⟨rfl, hb⟩
  have K0 := Lib.hid (K00.out.keep hb)
  have HS := Lib.hid (HS0.out.below hb)
  have B1 := Lib.hid (B0.out.trans (hb.mono B0.out.size))
  clear hb K00 HS0 B0
  go_wp2_with fail
  have hGS : Grows (fun w' => Below W1.heap.size W1 w') := Grows.below W1
  refine' wp_thenL _ 8 (fun w' => Below W1.heap.size W1 w') [[], [0], [], [0, 1, 2], [], [0, 1, 2, 3, 4], [0, 1, 2, 3, 4, 5], [0, 1, 2, 3, 4, 5, 6]] (Fact.lit _ :: Fact.prop _ _ :: Fact.lit _ :: Fact.prop _ _ :: Fact.lit _ :: Fact.prop _ _ :: Fact.prop _ _ :: Fact.fresh _ _ :: []) (by kernel_rfl) rfl (by kernel_rfl) (Below.refl _ _).drew ?seqnw
  case' seqnw => skip
  iterate 1 ((first | (apply grow_skip; (case hf => rfl); (case hw => rfl)) | (apply grow_lit; (case hf => rfl); (case hw => rfl); (case hrun => (intro w' hS H; clear H; (obtain ⟨c0, c1, c2, -, -, -⟩ := (K0.out.keep hS).o3); clear hS; go_simp; first | done | exact rfl)))); (case hc => (simp only [Act.put, List.setIfInBounds_toArray, List.set_cons_zero, List.set_cons_succ]; first | done | exact rfl)); (try (case hj => rfl)))
  (refine' grow_callP (p := OwnAgg W1.heap.size n) (hp := fun v w w' h hb => h.below hb) rfl Tryz.func50 (by kernel_rfl) rfl hGS rfl ?wtnwa ?runnwa ?putnwa ?nextnwa; (case wtnwa => rfl); (case runnwa => (intro w' hS H; exact (own_any n _ _ _ vc ac tc w' (HS.out.below hS) HF.out.1 HF.out.2.1 HF.out.2.2.1 HF.out.2.2.2).mono (fun e w2 ⟨uv, ua, ut, us, h1, h2, h3⟩ => ⟨_, h1, ⟨uv, ua, ut, us, rfl, h2.base hS.size⟩, h3⟩))); (case putnwa => (intro v; simp only [Act.put, List.setIfInBounds_toArray, List.set_cons_zero, List.set_cons_succ]; first | done | exact rfl)); (case' nextnwa => intro v1))
  iterate 1 ((first | (apply grow_skip; (case hf => rfl); (case hw => rfl)) | (apply grow_lit; (case hf => rfl); (case hw => rfl); (case hrun => (intro w' hS H; clear H; (obtain ⟨c0, c1, c2, -, -, -⟩ := (K0.out.keep hS).o3); clear hS; go_simp; first | done | exact rfl)))); (case hc => (simp only [Act.put, List.setIfInBounds_toArray, List.set_cons_zero, List.set_cons_succ]; first | done | exact rfl)); (try (case hj => rfl)))
  (refine' grow_callP (p := SideV W1.heap.size n.v.length n.a.length (fun i => insL n.a i) (inP n)) (hp := fun v w w' h hb => h.below hb) rfl Tryz.func51 (by kernel_rfl) rfl hGS rfl ?wtnwb ?runnwb ?putnwb ?nextnwb; (case wtnwb => rfl); (case runnwb => (intro w' hS H; exact (sideof_ins n _ _ _ vc ac tc w' (HS.out.below hS) HN.out.good.arcsIn (by have := HN.out.good.sv; exact this) (by have := HN.out.good.sa; exact this)).mono (fun e w2 ⟨b, d, h1, h2, h3⟩ => ⟨_, h1, ⟨b, d, rfl, h2.base hS.size⟩, h3⟩))); (case putnwb => (intro v; simp only [Act.put, List.setIfInBounds_toArray, List.set_cons_zero, List.set_cons_succ]; first | done | exact rfl)); (case' nextnwb => intro v3))
  iterate 1 ((first | (apply grow_skip; (case hf => rfl); (case hw => rfl)) | (apply grow_lit; (case hf => rfl); (case hw => rfl); (case hrun => (intro w' hS H; clear H; (obtain ⟨c0, c1, c2, -, -, -⟩ := (K0.out.keep hS).o3); clear hS; go_simp; first | done | exact rfl)))); (case hc => (simp only [Act.put, List.setIfInBounds_toArray, List.set_cons_zero, List.set_cons_succ]; first | done | exact rfl)); (try (case hj => rfl)))
  (refine' grow_callP (p := SideV W1.heap.size n.v.length n.a.length (fun i => outsL n.a i) (outP n)) (hp := fun v w w' h hb => h.below hb) rfl Tryz.func51 (by kernel_rfl) rfl hGS rfl ?wtnwc ?runnwc ?putnwc ?nextnwc; (case wtnwc => rfl); (case runnwc => (intro w' hS H; exact (sideof_outs n _ _ _ vc ac tc w' (HS.out.below hS) HN.out.good.arcsIn (by have := HN.out.good.sv; exact this) (by have := HN.out.good.sa; exact this)).mono (fun e w2 ⟨b, d, h1, h2, h3⟩ => ⟨_, h1, ⟨b, d, rfl, h2.base hS.size⟩, h3⟩))); (case putnwc => (intro v; simp only [Act.put, List.setIfInBounds_toArray, List.set_cons_zero, List.set_cons_succ]; first | done | exact rfl)); (case' nextnwc => intro v5))
  (refine' grow_prop (p := BldG W1.heap.size n) (hp := fun v w w' h hb => h.below hb) rfl ?wtnwd ?runnwd ?putnwd ?nextnwd; (case wtnwd => rfl); (case runnwd => (intro w' hS H; (have q1 : OwnAgg W1.heap.size n v1 w' := H 1 (by decide)); (have q3 : SideV W1.heap.size n.v.length n.a.length (fun i => insL n.a i) (inP n) v3 w' := H 3 (by decide)); (have q5 : SideV W1.heap.size n.v.length n.a.length (fun i => outsL n.a i) (outP n) v5 w' := H 5 (by decide)); clear H hS; obtain ⟨uv, ua, ut, us, rfl, q1⟩ := q1; obtain ⟨b1, d1, rfl, q3⟩ := q3; obtain ⟨b2, d2, rfl, q5⟩ := q5; (obtain ⟨x1, x2, rfl⟩ := own_shape q1.v); (obtain ⟨y1, y2, rfl⟩ := own_shape q1.a); (obtain ⟨z1, z2, rfl⟩ := own_shape q1.t); refine ⟨_, ?_, ⟨_, _, _, us, b1, d1, b2, d2, rfl, q1, q3, q5⟩⟩; clear q1 q3 q5; unfold gCells; go_simp; first | done | exact rfl)); (case putnwd => (intro v; simp only [Act.put, List.setIfInBounds_toArray, List.set_cons_zero, List.set_cons_succ]; first | done | exact rfl)); (case' nextnwd => intro v6))
  (refine' grow_fresh (p := BoxG W1.heap.size n) (hp := fun v w w' h hb => h.below hb) hGS rfl ?wtnwe ?runnwe ?putnwe ?nextnwe; (case wtnwe => rfl); (case runnwe => (intro w' hS H; (have q6 : BldG W1.heap.size n v6 w' := H 6 (by decide)); clear H; obtain ⟨uv, ua, ut, us, b1, d1, b2, d2, rfl, q6⟩ := q6; (obtain ⟨x1, x2, rfl⟩ := own_shape q6.o.v); (obtain ⟨y1, y2, rfl⟩ := own_shape q6.o.a); (obtain ⟨z1, z2, rfl⟩ := own_shape q6.o.t); refine ⟨.pointer (some ⟨w'.heap.size, 0, none⟩), w'.alloc (.cells (gCells n (.slice x1 n.v.length x2) (.slice y1 n.a.length y2) (.slice z1 n.t.length z2) b1 d1 b2 d2) 101), ?_, ⟨w'.heap.size, _, _, _, us, b1, d1, b2, d2, rfl, hS.size, Blk.new _ _ _ _ rfl, q6.below (below_new _)⟩, ⟨w'.heap.size, rfl, Nat.le_refl _, by simp⟩, below_new _⟩; (clear hS q6; unfold gCells; go_simp))); (case putnwe => (intro v; simp only [Act.put, List.setIfInBounds_toArray, List.set_cons_zero, List.set_cons_succ]; first | done | exact rfl)); (case' nextnwe => intro v7))
  intro w9 hb hk
  have q7 : BoxG W1.heap.size n v7 w9 := hk 7 (by decide)
  obtain ⟨p, uv, ua, ut, us, b1, d1, b2, d2, rfl, hp, kp, hB⟩ := q7
  clear hk hGS
  refine wpAny_ready (rs := [8]) (by kernel_rfl) (by simp) (AllReady.cons rfl (fun K hK => ?_) AllReady.nil)
  go_simp
  refine hK _ _ ?_
  clear hK K
  refine wpAny_ready (rs := [9]) (by kernel_rfl) (by simp) (AllReady.cons rfl (fun K hK => ?_) AllReady.nil)
  go_simp
  refine hK _ _ ?_
  clear hK K
  refine wpAny_done (by kernel_rfl) ?_ _
  have HP : Hid (GraphAt (fun b => Off [ua, ut] b ∧ w.heap.size ≤ b) w9 p n ua ut) := Lib.hid ((hB.at kp HN.out hp).mono fun b h => ⟨h.1, Nat.le_trans B1.out.size h.2⟩)
  have HA : Hid (∀ b, ua.ownBlock = some b → w.heap.size ≤ b) := Lib.hid (fun b hb' => Nat.le_trans B1.out.size (own_ge hB.o.a b hb'))
  have HT : Hid (∀ b, ut.ownBlock = some b → w.heap.size ≤ b) := Lib.hid (fun b hb' => Nat.le_trans B1.out.size (own_ge hB.o.t b hb'))
  have HB9 := Lib.hid (B1.out.trans (hb.mono B1.out.size))
  clear hb kp hB
  go_wp2_with fail
  exact bodyPost_ret (v := .tuple #[gp p, .nilIface]) (by simp [results, Tryz.results24, go_sem]) rfl ⟨p, ua, ut, rfl, HP.out, HA.out, HT.out, HB9.out⟩

end Go.Proofs.YtgihaakgadmidaaGreat

/-
  The program's graph: the net as it is now; an arc, a turn that costs otherwise; a twin.
-/
namespace Go.Proofs.YtgihaakgadmidaaGreat
open Go.RowKit

theorem MutR.old {w w' : World} {v : Value} (h : MutR w v) (hb : Below w.heap.size w w') : MutR w' v := by
  obtain ⟨base, n, xs, h | h⟩ := h
  · exact ⟨base, n, xs, Or.inl (owns_below h hb)⟩
  · exact ⟨base, n, xs, Or.inr (owns_below h hb)⟩
theorem OwnP.set {w : World} {base : Nat} {n : NetD} {uv ua ut : Value} {us : List Value} (h : OwnP w base n uv ua ut us) {k : Nat} {cs : Array Value} {t : TypeId} (hk : Blk w k cs t) (h1 : 102 ≠ t) (h2 : 98 ≠ t) (h3 : 103 ≠ t) (h4 : 2 ≠ t) (o : Nat) (x : Value) : OwnP (w.setCell ⟨k, o, none⟩ x) base n uv ua ut us :=
  ⟨owns_set h.v hk h1 o x, owns_set h.a hk h2 o x, owns_set h.t hk h3 o x, h.r.map fun _ _ _ h => owns_set h hk h4 o x⟩
section
variable {P : Nat → Prop} {w : World} {p : Nat} {n : NetD} {uv va vt : Value} {b1 d1 b2 d2 : Nat}
/-- What lies there lies below. -/
theorem GrS.both (h : GrS P w p n uv va vt b1 d1 b2 d2) : GrS (fun b => P b ∧ b < w.heap.size) w p n uv va vt b1 d1 b2 d2 := by
  have hs : ∀ {b d m k : Nat} {L : Nat → List Int} {f : Nat → Int}, SideAt P w b d m k L f → SideAt (fun b => P b ∧ b < w.heap.size) w b d m k L f := by
    rintro b d m k L f ⟨us, h1, h2, h3, h4, h5, h6⟩
    exact ⟨us, h1, h2, ⟨h3, h1.lt⟩, h4, ⟨h5, h4.lt⟩, fun i u hu => ⟨(h6 i u hu).1, (h6 i u hu).2.both (h6 i u hu).1.av⟩⟩
  obtain ⟨us, t1, t2⟩ := h.t
  exact ⟨h.k, ⟨h.p, h.k.lt⟩, h.v, h.av.both h.v.av, h.a, ⟨us, t1, t2.1, fun i t u e1 e2 => ⟨(t2.2 i t u e1 e2).1, (t2.2 i t u e1 e2).2.both (t2.2 i t u e1 e2).1.av⟩⟩, hs h.ins, hs h.outs⟩
theorem GraphAt.both (h : GraphAt P w p n va vt) : GraphAt (fun b => P b ∧ b < w.heap.size) w p n va vt := by
  obtain ⟨uv, b1, d1, b2, d2, h⟩ := h
  exact ⟨uv, b1, d1, b2, d2, h.both⟩
end

section
variable {P : Nat → Prop} {w : World} {p : Nat} {n : NetD} {uv va vt : Value} {b1 d1 b2 d2 : Nat}
end

def TwB (base : Nat) (n : NetD) (b1 d1 b2 d2 : Nat) (v : Value) (w : World) : Prop := ∃ uv ua ut us, v = .agg (gCells n uv ua ut b1 d1 b2 d2) ∧ OwnP w base n uv ua ut us
theorem TwB.below {base : Nat} {n : NetD} {b1 d1 b2 d2 : Nat} {v : Value} {w w' : World} (h : TwB base n b1 d1 b2 d2 v w) (hb : Below w.heap.size w w') : TwB base n b1 d1 b2 d2 v w' := by
  obtain ⟨uv, ua, ut, us, e, h⟩ := h
  exact ⟨uv, ua, ut, us, e, h.below hb⟩
def TwX (base : Nat) (n : NetD) (b1 d1 b2 d2 : Nat) (v : Value) (w : World) : Prop := ∃ p uv ua ut us, v = .pointer (some ⟨p, 0, none⟩) ∧ base ≤ p ∧ Blk w p (gCells n uv ua ut b1 d1 b2 d2) 101 ∧ OwnP w base n uv ua ut us
theorem TwX.below {base : Nat} {n : NetD} {b1 d1 b2 d2 : Nat} {v : Value} {w w' : World} (h : TwX base n b1 d1 b2 d2 v w) (hb : Below w.heap.size w w') : TwX base n b1 d1 b2 d2 v w' := by
  obtain ⟨p, uv, ua, ut, us, e, h0, h1, h⟩ := h
  exact ⟨p, uv, ua, ut, us, e, h0, h1.keep hb, h.below hb⟩
end Go.Proofs.YtgihaakgadmidaaGreat
